import PyProof.Rows.All
import Wide.All
import OpenK.AllK
import Wide.FinOn
import Lean
import PyProof.EqAt
import PyProof.EqKinds
import PyProof.TupleCall
import PySem.Challenge.RW_shorthead_k53_heads_written
set_option maxHeartbeats 16000000
noncomputable section
set_option Elab.async false
set_option linter.all false
set_option maxRecDepth 100000
namespace AutoP
theorem a0 (h : True := by first | exact .inl rfl | exact .inr rfl | assumption) : True := h
theorem a1 (h : True := by decide) : True := h
theorem a2 (h : True := by intro _; rfl) : True := h
theorem a3 (h : True := by rfl) : True := h
theorem a4 (h : True := by with_unfolding_all rfl) : True := h
theorem a5 (h : True := by intro _ _ z; simp [*] at z) : True := h
theorem a6 (h : True := by decide +kernel) : True := h
theorem a7 (h : True := by intro _ _; rfl) : True := h
theorem a8 (h : True := by repeat first | exact aNil_len | refine aCons_len ?_) : True := h
end AutoP
namespace L2
open PySem PySem.Spec PyProof.Rows
abbrev Key := Sum Int Str
def zin : Key -> Value -> Bool
 | .inl k, v => Value.isInt k v
 | .inr x, v => Value.isStrOf x v
def keyH (w : World) : Key -> Int
 | .inl k => hashInt k
 | .inr x => hashStr w x
theorem zaK : ∀ {k : Key} {v : Value}, zin k v = true -> (∃ i t, k = Sum.inl i /\ v = Value.int i t) ∨ (∃ x t, k = Sum.inr x /\ v = Value.str x t)
 | .inl i, v, h => by
  obtain ⟨t, e⟩ := Value.isInt_shape (k := i) (v := v) h
  exact .inl ⟨i, t, rfl, e⟩
 | .inr x, v, h => by
  obtain ⟨t, e⟩ := Value.isStrOf_shape (x := x) (v := v) h
  exact .inr ⟨x, t, rfl, e⟩
theorem zj2 (i : Int) (t : Tok) : zin (.inl i) (.int i t) = true := by simp [zin, Value.isInt]
theorem zj1 (x : Str) (t : Tok) : zin (.inr x) (.str x t) = true := by simp [zin, Value.isStrOf]
theorem key_ll (a b : Int) : decide ((Sum.inl a : Key) = Sum.inl b) = (a == b) := by
 by_cases e : a = b
 ·subst e; simp
 ·have h : ¬ (Sum.inl a : Key) = Sum.inl b := fun q => e (Sum.inl.inj q)
  rw [decide_eq_false h]
  exact (beq_eq_false_iff_ne.mpr e).symm
theorem key_rr (a b : Str) : decide ((Sum.inr a : Key) = Sum.inr b) = decide (a = b) := by
 by_cases e : a = b
 ·subst e; simp
 ·have h : ¬ (Sum.inr a : Key) = Sum.inr b := fun q => e (Sum.inr.inj q)
  rw [decide_eq_false h, decide_eq_false e]
theorem key_lr (a : Int) (b : Str) : decide ((Sum.inl a : Key) = Sum.inr b) = false := decide_eq_false (fun q => nomatch q)
theorem key_rl (a : Str) (b : Int) : decide ((Sum.inr a : Key) = Sum.inl b) = false := decide_eq_false (fun q => nomatch q)
def zaT (prog : Program) (w : World) : PySem.KeyKind prog w Key where
 is := zin
 hash := keyH w
 inj := fun v a b ha hb => by
  rcases zaK ha with ⟨i, t, rfl, rfl⟩ | ⟨x, t, rfl, rfl⟩
  ·rcases zaK hb with ⟨j, u, rfl, e⟩ | ⟨y, u, rfl, e⟩
   ·injection e with e1 _; rw [e1]
   ·exact nomatch e
  ·rcases zaK hb with ⟨j, u, rfl, e⟩ | ⟨y, u, rfl, e⟩
   ·exact nomatch e
   ·injection e with e1 _; rw [e1]
 byValue := fun k v h => by
  rcases zaK h with ⟨i, t, rfl, rfl⟩ | ⟨x, t, rfl, rfl⟩ <;> rfl
 pyHash := fun hv h => by
  rcases zaK hv with ⟨i, t, rfl, rfl⟩ | ⟨x, t, rfl, rfl⟩
  ·exact wpAny_pyHash_int h
  ·exact wpAny_pyHash_str h
 eqBool := fun hu hv h => by
  rcases zaK hu with ⟨i, t, rfl, rfl⟩ | ⟨x, t, rfl, rfl⟩
  ·rcases zaK hv with ⟨j, u, rfl, rfl⟩ | ⟨y, u, rfl, rfl⟩
   ·rw [key_ll] at h; exact wpAny_eqBool_int h
   ·rw [key_lr] at h; exact SeqAt.EqAt.int_str i t y u _ _ _ _ h
  ·rcases zaK hv with ⟨j, u, rfl, rfl⟩ | ⟨y, u, rfl, rfl⟩
   ·rw [key_rl] at h; exact SeqAt.EqAt.str_int x t j u _ _ _ _ h
   ·rw [key_rr] at h; exact wpAny_eqBool_str h
 «strs» := fun k x t v h => by
  rcases zaK h with ⟨i, u, rfl, e⟩ | ⟨y, u, rfl, e⟩
  ·exact nomatch e
  ·injection e with e1 _
   subst e1
   cases v <;> rfl
theorem zgC (prog : Program) (w : World) (i : Int) (t : Tok) : (zaT prog w).is (.inl i) (.int i t) = true := zj2 i t
theorem zgB (prog : Program) (w : World) (x : Str) (t : Tok) : (zaT prog w).is (.inr x) (.str x t) = true := zj1 x t
inductive V where
 | non | bl (b : Bool) | int (i : Int) | str (x : Str) | byt (b : Array UInt8) | flt (b : UInt64) | ref (a : Addr) | ty (n : String)
 deriving DecidableEq
def RelV : V -> Value -> Prop
 | .non, u => u = Value.none
 | .bl b, u => u = Value.bool b
 | .int i, u => ∃ t, u = Value.int i t
 | .str x, u => ∃ t, u = Value.str x t
 | .byt b, u => ∃ t, u = Value.bytes b t
 | .flt b, u => ∃ t, u = Value.float b t
 | .ref a, u => u = Value.ref a
 | .ty n, u => u = Value.type n
abbrev Vals : List V -> List Value -> Prop := Paired RelV
theorem Vals.length {xs : List V} {us : List Value} (r : Vals xs us) : xs.length = us.length := Paired.length r
theorem Vals.get : ∀ {xs : List V} {us : List Value} {i : Nat} {x : V}, Vals xs us -> xs[i]? = some x -> ∃ u, us[i]? = some u /\ RelV x u
 | _, _, _, _, .nil, e => by simp at e
 | _, _, 0, _, .cons r _, e => by simp at e; subst e; exact ⟨_, rfl, r⟩
 | _, _, i + 1, x, .cons _ t, e => by
  obtain ⟨u, h1, h2⟩ := Vals.get (i := i) (x := x) t (by simpa using e)
  exact ⟨u, by simpa using h1, h2⟩
theorem Vals.set {x : V} {u : Value} (r : RelV x u) : ∀ {xs : List V} {us : List Value} (i : Nat), Vals xs us -> Vals (xs.set i x) (us.set i u)
 | _, _, _, .nil => .nil
 | _, _, 0, .cons _ t => .cons r t
 | _, _, i + 1, .cons q t => .cons q (Vals.set r i t)
theorem Vals.append : ∀ {xs ys : List V} {us ws : List Value}, Vals xs us -> Vals ys ws -> Vals (xs ++ ys) (us ++ ws)
 | _, _, _, _, .nil, s => s
 | _, _, _, _, .cons r t, s => .cons r (Vals.append t s)
theorem Vals.take : ∀ {xs : List V} {us : List Value} (n : Nat), Vals xs us -> Vals (xs.take n) (us.take n)
 | _, _, 0, _ => .nil
 | _, _, _ + 1, .nil => .nil
 | _, _, n + 1, .cons r t => .cons r (Vals.take n t)
theorem Vals.drop : ∀ {xs : List V} {us : List Value} (n : Nat), Vals xs us -> Vals (xs.drop n) (us.drop n)
 | _, _, 0, r => r
 | _, _, _ + 1, .nil => .nil
 | _, _, n + 1, .cons _ t => Vals.drop n t
def RelO : Option V -> Option Value -> Prop
 | some v, some u => RelV v u
 | none, none => True
 | _, _ => False
def KV {κ : Type} : List (κ × V) -> List (κ × Value) -> Prop := Paired fun (p : κ × V) (q : κ × Value) => p.1 = q.1 /\ RelV p.2 q.2
def kV : Key -> V
 | .inl i => .int i
 | .inr x => .str x
inductive HO where
 | lst (xs : List V)
 | tup (xs : List V)
 | dK (kvs : List (Key × V)) | dT (kvs : List (List Key × V))
 | set (S : Int -> Bool) (n : Nat)
 | ins (C dx : Addr) (fs : List (Str × V))
 | own (x : Addr)
 | xd (fs : List (Str × V))
 | met (f x : Addr)
 | rng (lo hi : Int)
 | frz (o : Obj) (u : HO)
 | tbl (ps : Array Value)
 | ext (φ : Heap -> Prop)
abbrev Hp := Addr -> Option HO
def upd (H : Hp) (a : Addr) (o : HO) : Hp := fun b => if b = a then some o else H b
theorem zap {H : Hp} {a : Addr} {o : HO} : upd H a o a = some o := by unfold upd; rw [if_pos rfl]
theorem zal {H : Hp} {a b : Addr} {o : HO} (h : b ≠ a) : upd H a o b = H b := by unfold upd; rw [if_neg h]
theorem ne_of {H : Hp} {a b : Addr} {o u : HO} (h : H a = some o) (h' : H b = some u) (d : o ≠ u) : a ≠ b := by
 intro e; subst e; rw [h] at h'; exact d (Option.some.inj h')
theorem zan {H : Hp} {a b : Addr} {o : HO} (h : H a = some o) (h' : H b = none) : a ≠ b := by
 intro e; subst e; rw [h] at h'; cases h'
section
variable (P : Program) (w : World)
def NoD (h : Heap) (a : Addr) : Prop := ∃ o, h.get? a = some o /\ o.dict = none
def ObjOk (H : Hp) (h : Heap) (a : Addr) : HO -> Prop
 | .lst xs => xs.length <= sizeLine /\ ∃ (its : List Value) (n : Nat), Vals xs its /\ h.get? a = some { cls := .type "list", data := .seq its.toArray n }
 | .tup xs => xs.length <= sizeLine /\ ∃ its : List Value, Vals xs its /\ IsTup h a its.toArray /\ NoD h a
 | .dK kvs => kvs.length <= sizeLine /\ (a == sysModules) = false /\ ∃ vs, KV kvs vs /\ h.DictOf (zaT P w) a vs
 | .dT kvs => kvs.length <= sizeLine /\ (a == sysModules) = false /\ ∃ xs : List (List Key × Addr × Value),
   Paired (fun (p : List Key × V) (q : List Key × Addr × Value) => p.1 = q.1 /\ H q.2.1 = some (.tup (p.1.map kV)) /\ RelV p.2 q.2.2) kvs xs ∧
   ∃ o es ep, h.get? a = some o /\ o.ExactDict /\ o.data = .dict es ep /\ es.toList = xs.map (entryOfKey (tupleKind (zaT P w))) /\ (xs.map (·.1)).Nodup
 | .set S n => h.SetOf (intKind P w) a S n
 | .ins C dx fs => H dx = some (.own a) /\ fs.length <= 1000 /\ dx ≠ a /\ h.get? a = some (PySem.W.instObj C dx) ∧
   ∃ mA, h.Ns1 dx mA /\ (∀ f, RelO (fs.lookup f) (mA f)) /\ PySem.Within mA (fs.map (·.1))
 | .own _ => ∃ o, h.get? a = some o
 | .xd fs => ∃ mA, h.Ns1 a mA /\ ∀ f, RelO (fs.lookup f) (mA f)
 | .rng lo hi => ∃ t u v, h.get? a = some { cls := .type "range", data := .fields #[.int lo t, .int hi u, .int 1 v] }
 | .frz o u => h.get? a = some o /\ ObjOk H h a u
 | .tbl ps => h.get? a = some { cls := .none, data := .fields ps }
 | .met f x => h.get? a = some (PySem.W.methodObj (.ref f) (.ref x))
 | .ext φ => φ h /\ (∃ o, h.get? a = some o) /\ ∀ h1 h2 : Heap, φ h1 -> (∀ o, h1.get? a = some o -> h2.get? a = some o) -> φ h2
def HOk (H : Hp) (h : Heap) : Prop := ∀ a o, H a = some o -> ObjOk P w H h a o
end
section
variable {P : Program} {w : World} {H H' : Hp} {h h' : Heap} {a : Addr} {o : HO}
theorem ObjOk.lt (x : ObjOk P w H h a o) : a < h.objs.size := by
 cases o with
 | lst xs => obtain ⟨_, _, _, _, e⟩ := x; exact Heap.lt_size e
 | tup xs => obtain ⟨_, _, _, p, _⟩ := x; exact p.lt
 | dK kvs => obtain ⟨_, _, _, _, o, _, _, e, _⟩ := x; exact Heap.lt_size e
 | dT kvs => obtain ⟨_, _, _, _, o, _, _, e, _⟩ := x; exact Heap.lt_size e
 | set S n => obtain ⟨o, _, _, _, e, _⟩ := x; exact Heap.lt_size e
 | ins C dx fs => obtain ⟨_, _, _, e, _⟩ := x; exact Heap.lt_size e
 | own y => obtain ⟨_, e⟩ := x; exact Heap.lt_size e
 | xd fs => obtain ⟨_, ⟨_, _, _, e, _⟩, _⟩ := x; exact Heap.lt_size e
 | rng lo hi => obtain ⟨_, _, _, e⟩ := x; exact Heap.lt_size e
 | frz ob u => obtain ⟨e, _⟩ := x; exact Heap.lt_size e
 | tbl ps => exact Heap.lt_size (show h.get? a = some _ from x)
 | met f y => exact Heap.lt_size (show h.get? a = some _ from x)
 | ext φ => obtain ⟨_, ⟨_, e⟩, _⟩ := x; exact Heap.lt_size e
theorem Paired.mapP {α β : Type} {F G : α -> β -> Prop} : ∀ {l₁ : List α} {l₂ : List β}, Paired F l₁ l₂ -> (∀ a b, F a b -> G a b) -> Paired G l₁ l₂
 | _, _, .nil, _ => .nil
 | _, _, .cons r t, f => .cons (f _ _ r) (Paired.mapP t f)
theorem ObjOk.stay (x : ObjOk P w H h a o) (k : ∀ b u, (b = a ∨ H b = some (.own a)) -> h.get? b = some u -> h'.get? b = some u)
  (ho : ∀ b, H b = some (.own a) -> H' b = some (.own a)) (ht : ∀ b xs, H b = some (.tup xs) -> H' b = some (.tup xs)) : ObjOk P w H' h' a o := by
 induction o with
 | lst xs => obtain ⟨z, its, n, r, e⟩ := x; exact ⟨z, its, n, r, k _ _ (.inl rfl) e⟩
 | tup xs => obtain ⟨z, its, r, ⟨ob, e, c⟩, od, ed, dn⟩ := x; exact ⟨z, its, r, ⟨ob, k _ _ (.inl rfl) e, c⟩, od, k _ _ (.inl rfl) ed, dn⟩
 | dK kvs => obtain ⟨z, y, vs, r, ob, es, ep, e, c⟩ := x; exact ⟨z, y, vs, r, ob, es, ep, k _ _ (.inl rfl) e, c⟩
 | dT kvs =>
  obtain ⟨z, y, xs, r, ob, es, ep, e, c⟩ := x
  exact ⟨z, y, xs, Paired.mapP r fun p q z => ⟨z.1, ht _ _ z.2.1, z.2.2⟩, ob, es, ep, k _ _ (.inl rfl) e, c⟩
 | set S n => obtain ⟨ob, es, ep, t, e, c⟩ := x; exact ⟨ob, es, ep, t, k _ _ (.inl rfl) e, c⟩
 | ins C dx fs =>
  obtain ⟨d, z, ne, e, mA, ⟨od, es, ep, e2, c⟩, r⟩ := x
  exact ⟨ho _ d, z, ne, k _ _ (.inl rfl) e, mA, ⟨od, es, ep, k _ _ (.inr d) e2, c⟩, r⟩
 | own y => obtain ⟨ob, e⟩ := x; exact ⟨ob, k _ _ (.inl rfl) e⟩
 | xd fs => obtain ⟨mA, ⟨od, es, ep, e, c⟩, r⟩ := x; exact ⟨mA, ⟨od, es, ep, k _ _ (.inl rfl) e, c⟩, r⟩
 | rng lo hi => obtain ⟨t, u, v, e⟩ := x; exact ⟨t, u, v, k _ _ (.inl rfl) e⟩
 | frz ob u ih => obtain ⟨e, q⟩ := x; exact ⟨k _ _ (.inl rfl) e, ih q⟩
 | tbl ps =>
  have e : h.get? a = some { cls := .none, data := .fields ps } := x
  show h'.get? a = some { cls := .none, data := .fields ps }
  exact k a _ (.inl rfl) e
 | met f y =>
  have e : h.get? a = some (PySem.W.methodObj (.ref f) (.ref y)) := x
  show h'.get? a = some (PySem.W.methodObj (.ref f) (.ref y))
  exact k a _ (.inl rfl) e
 | ext φ => obtain ⟨p, ⟨o, e⟩, st⟩ := x; exact ⟨st _ _ p fun o q => k _ _ (.inl rfl) q, ⟨o, k _ _ (.inl rfl) e⟩, st⟩
theorem HOk.lt (x : HOk P w H h) (e : H a = some o) : a < h.objs.size := (x a o e).lt
theorem HOk.fresh (x : HOk P w H h) (e : h.objs.size <= a) : H a = none := by
 cases q : H a with
 | none => rfl
 | some u => exact absurd (Nat.lt_of_lt_of_le (x.lt q) e) (Nat.lt_irrefl _)
theorem HOk.kept (x : HOk P w H h) (k : ∀ b u, h.get? b = some u -> h'.get? b = some u) : HOk P w H h' := fun a o e =>
 (x a o e).stay (fun b u _ q => k b u q) (fun _ q => q) fun _ _ q => q
theorem HOk.laid (x : HOk P w H h) (k : ∀ b u, h.get? b = some u -> h'.get? b = some u) (hp : h.objs.size <= a) (new : ObjOk P w (upd H a o) h' a o) : HOk P w (upd H a o) h' := fun b u e => by
 have hn := x.fresh hp
 by_cases hb : b = a
 ·subst hb; rw [zap] at e; cases e; exact new
 ·rw [zal hb] at e
  exact (x b u e).stay (fun c v _ q => k c v q) (fun c q => by rw [zal (zan q hn)]; exact q) fun c xs q => by rw [zal (zan q hn)]; exact q
end
def Rd (H : Hp) (a : Addr) (u : HO) : Prop := H a = some u ∨ ∃ o, H a = some (.frz o u)
theorem Rd.ok {P : Program} {w : World} {H : Hp} {h : Heap} {a : Addr} {u : HO} (r : Rd H a u) (x : HOk P w H h) : ObjOk P w H h a u := by
 rcases r with r | ⟨o, r⟩
 ·exact x a u r
 ·obtain ⟨_, q⟩ := x a _ r
  exact q
def Mut : Option HO -> Prop
 | some (.lst _) => True
 | some (.dK _) => True
 | some (.dT _) => True
 | some (.set _ _) => True
 | some (.ins _ _ _) => True
 | some (.ext _) => True
 | _ => False
section
variable {P : Program} {w : World} {H : Hp} {h h' : Heap} {x e : Addr} {o' : HO}
theorem HOk.write (ok : HOk P w H h) (mu : Mut (H x)) (he : e = x ∨ H e = some (.own x)) (k : ∀ b u, b ≠ e -> h.get? b = some u -> h'.get? b = some u) (heo : ∃ u, h'.get? e = some u)
  (new : ObjOk P w (upd H x o') h' x o') : HOk P w (upd H x o') h' := fun b u q => by
 have nown : ∀ c y, H c = some (.own y) -> c ≠ x := fun c y r z => by subst z; rw [r] at mu; exact mu
 have ntup : ∀ c xs, H c = some (.tup xs) -> c ≠ x := fun c xs r z => by subst z; rw [r] at mu; exact mu
 by_cases hb : b = x
 ·subst hb; rw [zap] at q; cases q; exact new
 ·rw [zal hb] at q
  by_cases hbe : b = e
  ·have q' : H b = some (.own x) := by
    rcases he with z | z
    ·exact absurd (hbe.trans z) hb
    ·rw [hbe]; exact z
   rw [q] at q'; cases q'
   obtain ⟨v, hv⟩ := heo
   exact ⟨v, by rw [hbe]; exact hv⟩
  ·refine (ok b u q).stay (fun c v hc r => k c v ?_ r) (fun c r => by rw [zal (nown c b r)]; exact r) fun c xs r => by rw [zal (ntup c xs r)]; exact r
   rcases hc with rfl | hc
   ·exact hbe
   ·rintro rfl
    rcases he with z | z
    ·exact nown c b hc z
    ·rw [hc] at z; cases z; exact hb rfl
end
structure Un (fs ex : List Addr) (H H' : Hp) (h h' : Heap) : Prop where
 keep : ∀ b o, h.get? b = some o -> H b = none -> b ∉ fs -> b ∉ ex -> h'.get? b = some o
 slot : ∀ b o, h.get? b = some o -> H b = none -> b ∈ fs -> b ∉ ex -> ∃ sl, h'.get? b = some { o with slots := sl }
 free : ∀ b o, h.get? b = some o -> H b = none -> b ∉ ex -> H' b = none
 there : ∀ b o, h.get? b = some o -> b ∉ ex -> ∃ o', h'.get? b = some o'
 tups : ∀ b xs, H b = some (.tup xs) -> H' b = some (.tup xs)
 frzs : ∀ b o u, H b = some (.frz o u) -> H' b = some (.frz o u)
 tbls : ∀ b ps, H b = some (.tbl ps) -> ∃ more, H' b = some (.tbl (ps ++ more))
section
variable {fs fs' ex ex' : List Addr} {H H1 H2 : Hp} {h h1 h2 h' : Heap} {a x e : Addr} {o : HO}
theorem Un.any (u : Un fs ex H H1 h h1) {b : Addr} {ob : Obj} (q : h.get? b = some ob) (n : H b = none) (hx : b ∉ ex) : ∃ sl, h1.get? b = some { ob with slots := sl } := by
 by_cases hb : b ∈ fs
 ·exact u.slot b ob q n hb hx
 ·exact ⟨ob.slots, u.keep b ob q n hb hx⟩
theorem Un.kept (k : ∀ b u, h.get? b = some u -> h'.get? b = some u) : Un fs ex H H h h' :=
 ⟨fun b ob q _ _ _ => k b ob q, fun b ob q _ _ _ => ⟨ob.slots, k b ob q⟩, fun _ _ _ n _ => n, fun b ob q _ => ⟨ob, k b ob q⟩, fun _ _ q => q, fun _ _ _ q => q, fun _ ps q => ⟨#[], by rw [q]; simp⟩⟩
theorem Un.refl : Un fs ex H H h h := Un.kept fun _ _ q => q
theorem Un.laid (k : ∀ b u, h.get? b = some u -> h'.get? b = some u) (hp : h.objs.size <= a) (hn : H a = none) : Un fs ex H (upd H a o) h h' where
 keep := fun b u q _ _ _ => k b u q
 slot := fun b u q _ _ _ => ⟨u.slots, k b u q⟩
 free := fun b u q n _ => by rw [zal (Nat.ne_of_lt (Nat.lt_of_lt_of_le (Heap.lt_size q) hp))]; exact n
 there := fun b u q _ => ⟨u, k b u q⟩
 tups := fun b xs q => by rw [zal (zan q hn)]; exact q
 frzs := fun b u xs q => by rw [zal (zan q hn)]; exact q
 tbls := fun b ps q => ⟨#[], by rw [zal (zan q hn), q]; simp⟩
theorem Un.write (mu : Mut (H x)) (he : e = x ∨ H e = some (.own x)) (k : ∀ b u, b ≠ e -> h.get? b = some u -> h'.get? b = some u) (heo : ∃ u, h'.get? e = some u) : Un fs ex H (upd H x o) h h' := by
 have hx : ∀ b, H b = none -> b ≠ x := fun b n z => by subst z; rw [n] at mu; exact mu
 have hb : ∀ b, H b = none -> b ≠ e := fun b n z => by
  subst z
  rcases he with r | r
  ·exact hx b n r
  ·rw [n] at r; cases r
 have hm : ∀ b u, H b = some u -> ¬ Mut (some u) -> b ≠ x := fun b u q nm z => by subst z; rw [q] at mu; exact nm mu
 refine ⟨fun b u q n _ _ => k b u (hb b n) q, fun b u q n _ _ => ⟨u.slots, k b u (hb b n) q⟩, fun b u q n _ => by rw [zal (hx b n)]; exact n, fun b u q _ => ?_,
  fun b xs q => by rw [zal (hm b _ q fun z => z)]; exact q, fun b u xs q => by rw [zal (hm b _ q fun z => z)]; exact q, fun b ps q => ⟨#[], by rw [zal (hm b _ q fun z => z), q]; simp⟩⟩
 by_cases hbe : b = e
 ·subst hbe; exact heo
 ·exact ⟨u, k b u hbe q⟩
end
def trk (h : Heap) (H : Hp) : List Addr := (List.range h.objs.size).filter fun a => (H a).isSome
def zlD (h : Heap) (H : Hp) : Heap := PySem.W.hideAll h (trk h H)
theorem zkc (h : Heap) (H : Hp) : (zlD h H).objs.size = h.objs.size := PySem.W.hideAll_size _ _
theorem zlC {h : Heap} {H : Hp} {b : Addr} {o : Obj} (e : h.get? b = some o) (n : H b = none) : (zlD h H).get? b = some o :=
 PySem.W.hideAll_get _ e fun hm => by
  have q : (H b).isSome = true := (List.mem_filter.mp hm).2
  rw [n] at q; simp at q
theorem zno {h : Heap} {H : Hp} {b : Addr} {o : Obj} (e : (zlD h H).get? b = some o) : h.get? b = some o /\ H b = none := by
 have e' : h.get? b = some o := PySem.W.of_hideAll (trk h H) e
 refine ⟨e', ?_⟩
 cases q : H b with
 | none => rfl
 | some x =>
  have hm : b ∈ trk h H := List.mem_filter.mpr ⟨List.mem_range.mpr (Heap.lt_size e'), by simp [q]⟩
  have z : (zlD h H).get? b = none := PySem.W.hideAll_none (trk h H) hm
  rw [z] at e; cases e
structure Mod (K : PySem.W.Frag) (mg : Str -> Option Value) (base : Heap) : Prop where
 kin : K.In base
 glob : base.Ns mainGlobals mg
 blt : ∃ mb, base.Ns builtinsNs mb /\ ∀ x : Str, x ≠ "__name__" -> mb x = bootBuiltins x
 nolimit : base.NoLimit
structure Cx where
 prog : Program
 w : World
 K : PySem.W.Frag
 mg : Str -> Option Value
 base : Heap
 A : Around
 N : List Str
 s₀ : Shared
 H₀ : Hp
 env : Env
 outer : List Env
 stack : List Env
 ex : List Addr
 fn : Str -> Bool
 calm : Bool
 pn : List (Addr × Obj)
 xe : Value -> Shared -> Prop
def frs (l : List Env) : List Addr := l.filterMap (·.frame)
abbrev Cx.fs (X : Cx) : List Addr := frs X.outer
def Vis (sc : Scope) (x : Str) : Prop := sc.names.lookup x = some .local ∨ sc.names.lookup x = some .cell ∨ sc.names.lookup x = some .free
def Loc (sc : Scope) (x : Str) : Prop := sc.names.lookup x = some .local ∨ sc.names.lookup x = some .cell
def Look (env : Env) (h : Heap) (m : Str -> Option Value) (x : Str) (u : Value) : Prop :=
 (env.kindOf x = some .local /\ m x = some u) ∨ ((env.kindOf x = some .cell ∨ env.kindOf x = some .free) /\ ∃ c, env.cells.lookup x = some c /\ h.IsCell c (some u))
structure Cx.Ok (X : Cx) : Prop where
 mod : Mod X.K X.mg X.base
 kind : X.env.scope.kind = .function
 glob : X.env.globals = mainGlobals
 blt : X.env.builtins = builtinsNs
 above : X.s₀.heap.objs.size <= X.env.locals
 inj : ∀ x y c, X.env.cells.lookup x = some c -> X.env.cells.lookup y = some c -> x = y
 has : ∀ x, (X.env.kindOf x = some .cell ∨ X.env.kindOf x = some .free) -> ∃ c, X.env.cells.lookup x = some c
 cab : ∀ x c, X.fn x = true -> X.env.cells.lookup x = some c -> X.s₀.heap.objs.size <= c
 hd : X.calm = true -> X.A.handled = none
 frames : X.A.frames = some X.stack
 stk : X.stack = X.outer ∨ (X.stack = X.env :: X.outer /\ X.env.frame = some X.env.locals)
 exf : ∀ b ∈ X.ex, b ≠ X.env.locals /\ ∀ x c, X.env.cells.lookup x = some c -> c ≠ b
 bs : ∀ b o, X.base.get? b = some o -> X.s₀.heap.get? b = some o /\ X.H₀ b = none
 bsz : X.base.objs.size <= X.s₀.heap.objs.size
 noex : ∀ b o, X.base.get? b = some o -> b ∉ X.ex
 exfs : ∀ b ∈ X.ex, b ∉ X.fs
 funs : X.s₀.heap.FunFrames X.base X.outer
 frf : ∀ b ∈ X.fs, X.H₀ b = none
structure Inv (X : Cx) (pins : List (Addr × Obj)) (σ : List (Option V)) (H : Hp) (s : Shared) : Prop where
 ok : X.Ok
 os : s.os = X.s₀.os
 bare : AllBare s.gens
 base : Un X.fs X.ex X.H₀ H X.s₀.heap s.heap
 loc : ∃ m, s.heap.Ns X.env.locals m /\ ∀ (i : Nat) (x : Str) (v : V), X.N[i]? = some x -> σ[i]? = some (some v) -> Vis X.env.scope x -> ∃ u, RelV v u /\ Look X.env s.heap m x u
 cell : ∀ x c, X.env.cells.lookup x = some c -> ∃ v, s.heap.IsCell c v
 free : H X.env.locals = none
 freeC : ∀ x c, X.env.cells.lookup x = some c -> H c = none
 pin : ∀ p ∈ X.pn ++ pins, s.heap.get? p.1 = some p.2 /\ H p.1 = none /\ p.1 ≠ X.env.locals /\ p.1 ∉ X.fs /\ ∀ v, p.2.data ≠ .cell v
 hok : HOk X.prog X.w H s.heap
 len : σ.length = X.N.length
section
variable {X : Cx} {pins : List (Addr × Obj)} {σ : List (Option V)} {H H' : Hp} {s : Shared} {h' : Heap}
theorem Cx.Ok.nofr (ok : X.Ok) {b : Addr} {o : Obj} (e : X.base.get? b = some o) : b ∉ X.fs := fun hb => by
 have := (ok.funs.mem hb).1
 rw [e] at this; cases this
theorem Inv.bs (I : Inv X pins σ H s) : ∀ b o, X.base.get? b = some o -> s.heap.get? b = some o /\ H b = none := fun b o e =>
 ⟨I.base.keep b o (I.ok.bs b o e).1 (I.ok.bs b o e).2 (I.ok.nofr e) (I.ok.noex b o e), I.base.free b o (I.ok.bs b o e).1 (I.ok.bs b o e).2 (I.ok.noex b o e)⟩
theorem Inv.bk (I : Inv X pins σ H s) : ∀ b o, X.base.get? b = some o -> s.heap.get? b = some o := fun b o e => (I.bs b o e).1
theorem Inv.mod (I : Inv X pins σ H s) : Mod X.K X.mg X.base := I.ok.mod
theorem Inv.kIn (I : Inv X pins σ H s) : X.K.In s.heap := I.ok.mod.kin.keeps I.bk
theorem Inv.lt (I : Inv X pins σ H s) : X.env.locals < s.heap.objs.size := let ⟨_, hn, _⟩ := I.loc; hn.lt
theorem Inv.sz (I : Inv X pins σ H s) : X.s₀.heap.objs.size <= s.heap.objs.size := Nat.le_trans I.ok.above (Nat.le_of_lt I.lt)
theorem Inv.nofs (I : Inv X pins σ H s) {a : Addr} (h : s.heap.objs.size <= a) : a ∉ X.fs := fun hb => by
 obtain ⟨_, o, ho, _⟩ := I.ok.funs.mem hb
 exact absurd (Nat.lt_of_lt_of_le (Heap.lt_size ho) (Nat.le_trans I.sz h)) (Nat.lt_irrefl _)
theorem Inv.cne (I : Inv X pins σ H s) : ∀ x c, X.env.cells.lookup x = some c -> c ≠ X.env.locals := fun x c e z => by
 obtain ⟨v, o, ho, hd⟩ := I.cell x c e
 obtain ⟨m, ⟨o', es, ep, ho', hd', _⟩, _⟩ := I.loc
 rw [z, ho'] at ho; cases ho; rw [hd'] at hd; cases hd
theorem Inv.funs (I : Inv X pins σ H s) : s.heap.FunFrames X.base X.outer := by
 have all : ∀ (l : List Env), (∀ b ∈ frs l, b ∈ X.fs) -> X.s₀.heap.FunFrames X.base l -> s.heap.FunFrames X.base l := by
  intro l
  induction l with
  | nil => intro _ _; trivial
  | cons env r ih =>
   intro hs hl
   obtain ⟨hk, ⟨L, o, hf, hn, ho, hd⟩, hr⟩ := hl
   have hL : L ∈ X.fs := hs L (by unfold frs; rw [List.filterMap_cons, hf]; exact List.mem_cons_self)
   obtain ⟨sl, e⟩ := I.base.slot L o ho (I.ok.frf L hL) hL fun z => I.ok.exfs L z hL
   exact ⟨hk, ⟨L, _, hf, hn, e, hd⟩, ih (fun b hb => hs b (by unfold frs; rw [List.filterMap_cons, hf]; exact List.mem_cons_of_mem _ hb)) hr⟩
 exact all X.outer (fun _ hb => hb) I.ok.funs
theorem Inv.stack (I : Inv X pins σ H s) : s.heap.FunFrames X.base X.stack := by
 rcases I.ok.stk with e | ⟨e, hf⟩
 ·rw [e]; exact I.funs
 ·rw [e]
  obtain ⟨m, hn, _⟩ := I.loc
  refine .cons (by rw [I.ok.kind]; decide) hf hn ?_ I.funs
  exact Heap.get?_none_of_le (Nat.le_trans I.ok.bsz I.ok.above)
theorem Inv.stkSub (I : Inv X pins σ H s) : ∀ b ∈ frs X.stack, b ∈ X.env.locals :: X.fs := fun b hb => by
 rcases I.ok.stk with e | ⟨e, hf⟩
 ·rw [e] at hb; exact List.mem_cons_of_mem _ hb
 ·rw [e] at hb
  unfold frs at hb
  rw [List.filterMap_cons, hf] at hb
  exact hb
theorem Inv.stkFree (I : Inv X pins σ H s) : ∀ b ∈ frs X.stack, H b = none := fun b hb => by
 rcases List.mem_cons.mp (I.stkSub b hb) with e | hb
 ·rw [e]; exact I.free
 ·obtain ⟨_, o, ho, _⟩ := I.ok.funs.mem hb
  exact I.base.free b o ho (I.ok.frf b hb) fun z => I.ok.exfs b z hb
theorem Inv.step {g' : Array GenState} {t' : Nat} {d' : Drawn} {ch : List Addr} (I : Inv X pins σ H s)
  (hch : ∀ b ∈ ch, (b ∈ X.ex ∨ X.s₀.heap.objs.size <= b) /\ b ≠ X.env.locals /\ (∀ x c, X.env.cells.lookup x = some c -> c ≠ b) /\ ∀ p ∈ X.pn ++ pins, p.1 ≠ b)
  (keep : ∀ b o, b ≠ X.env.locals -> b ∉ X.fs -> b ∉ ch -> s.heap.get? b = some o -> H b = none -> h'.get? b = some o)
  (slot : ∀ b o, b ≠ X.env.locals -> b ∈ X.fs -> b ∉ ch -> s.heap.get? b = some o -> H b = none -> ∃ sl, h'.get? b = some { o with slots := sl }) (free : ∀ b o, b ∉ ch -> s.heap.get? b = some o -> H b = none -> H' b = none)
  (there : ∀ b o, b ∉ ch -> s.heap.get? b = some o -> ∃ o', h'.get? b = some o')
  (tups : ∀ b xs, H b = some (.tup xs) -> H' b = some (.tup xs)) (frzs : ∀ b o u, H b = some (.frz o u) -> H' b = some (.frz o u)) (tbls : ∀ b ps, H b = some (.tbl ps) -> ∃ more, H' b = some (.tbl (ps ++ more)))
  (ns : ∀ m, s.heap.Ns X.env.locals m -> h'.Ns X.env.locals m) (hok : HOk X.prog X.w H' h') (hg : AllBare g') :
  Inv X pins σ H' { s with heap := h', gens := g', drawn := d', toks := t' } := by
 have neL : ∀ b o, X.s₀.heap.get? b = some o -> b ≠ X.env.locals := fun b o e => Nat.ne_of_lt (Nat.lt_of_lt_of_le (Heap.lt_size e) I.ok.above)
 have neC : ∀ b o, X.s₀.heap.get? b = some o -> b ∉ X.ex -> b ∉ ch := fun b o e hx hb => by
  rcases (hch b hb).1 with z | z
  ·exact hx z
  ·exact absurd (Nat.lt_of_lt_of_le (Heap.lt_size e) z) (Nat.lt_irrefl _)
 have cellK : ∀ x c, X.env.cells.lookup x = some c -> ∀ v, s.heap.IsCell c v -> h'.IsCell c v := fun x c e v ⟨o, ho, hd⟩ => by
  have nch : c ∉ ch := fun z => (hch c z).2.2.1 x c e rfl
  by_cases hc : c ∈ X.fs
  ·obtain ⟨sl, q⟩ := slot c o (I.cne x c e) hc nch ho (I.freeC x c e)
   exact ⟨_, q, hd⟩
  ·exact ⟨o, keep c o (I.cne x c e) hc nch ho (I.freeC x c e), hd⟩
 refine ⟨I.ok, I.os, hg, ⟨fun b o e n hb hx => ?_, fun b o e n hb hx => ?_, fun b o e n hx => ?_, fun b o e hx => ?_, fun b xs e => tups b xs (I.base.tups b xs e), fun b o xs e => frzs b o xs (I.base.frzs b o xs e), fun b ps e => ?_⟩, ?_, fun x c e => ?_, ?_, fun x c e => ?_, fun p hp => ?_, hok, I.len⟩
 ·exact keep b o (neL b o e) hb (neC b o e hx) (I.base.keep b o e n hb hx) (I.base.free b o e n hx)
 ·obtain ⟨sl, e1⟩ := I.base.slot b o e n hb hx
  obtain ⟨sl', e2⟩ := slot b _ (neL b o e) hb (neC b o e hx) e1 (I.base.free b o e n hx)
  exact ⟨sl', e2⟩
 ·obtain ⟨o', e1⟩ := I.base.there b o e hx
  exact free b o' (neC b o e hx) e1 (I.base.free b o e n hx)
 ·obtain ⟨o', e1⟩ := I.base.there b o e hx
  exact there b o' (neC b o e hx) e1
 ·obtain ⟨m1, e1⟩ := I.base.tbls b ps e
  obtain ⟨m2, e2⟩ := tbls b _ e1
  exact ⟨m1 ++ m2, by rw [e2, Array.append_assoc]⟩
 ·obtain ⟨m, hn, hl⟩ := I.loc
  refine ⟨m, ns m hn, fun i x v e1 e2 e3 => ?_⟩
  obtain ⟨u, r, l⟩ := hl i x v e1 e2 e3
  refine ⟨u, r, ?_⟩
  rcases l with l | ⟨k, c, e, z⟩
  ·exact .inl l
  ·exact .inr ⟨k, c, e, cellK x c e _ z⟩
 ·obtain ⟨v, z⟩ := I.cell x c e
  exact ⟨v, cellK x c e v z⟩
 ·obtain ⟨m, ⟨o, _, _, ho, _⟩, _⟩ := I.loc
  exact free _ o (fun z => (hch _ z).2.1 rfl) ho I.free
 ·obtain ⟨v, o, ho, hd⟩ := I.cell x c e
  exact free c o (fun z => (hch c z).2.2.1 x c e rfl) ho (I.freeC x c e)
 ·obtain ⟨e, n, ne, nf, d⟩ := I.pin p hp
  have nch : p.1 ∉ ch := fun z => (hch p.1 z).2.2.2 p hp rfl
  exact ⟨keep p.1 p.2 ne nf nch e n, free p.1 p.2 nch e n, ne, nf, d⟩
theorem Inv.un {t' : Nat} (I : Inv X pins σ H s) (u : Un X.fs [] H H' s.heap h') (hok : HOk X.prog X.w H' h') : Inv X pins σ H' { s with heap := h', toks := t' } := by
 obtain ⟨m, ⟨o, es, ep, ho, r⟩, _⟩ := id I.loc
 obtain ⟨sl, hL⟩ := u.any ho I.free (by simp)
 exact I.step (g' := s.gens) (d' := s.drawn) (ch := []) (fun _ z => nomatch z) (fun b o _ hb _ e n => u.keep b o e n hb (by simp)) (fun b o _ hb _ e n => u.slot b o e n hb (by simp)) (fun b o _ e n => u.free b o e n (by simp)) (fun b o _ e => u.there b o e (by simp)) u.tups u.frzs u.tbls (fun m' hm => by
  obtain ⟨o', es', ep', ho', r'⟩ := hm
  rw [ho] at ho'; cases ho'
  exact ⟨_, es', ep', hL, r'⟩) hok I.bare
theorem Inv.call {g' : Array GenState} {t' : Nat} {d' : Drawn} {ch : List Addr} (I : Inv X pins σ H s) (u : Un (frs X.stack) ch H H' s.heap h') (hok : HOk X.prog X.w H' h') (hg : AllBare g')
  (hch : ∀ b ∈ ch, (b ∈ X.ex ∨ X.s₀.heap.objs.size <= b) /\ b ≠ X.env.locals /\ (∀ x c, X.env.cells.lookup x = some c -> c ≠ b) /\ ∀ p ∈ X.pn ++ pins, p.1 ≠ b) :
  Inv X pins σ H' { s with heap := h', gens := g', drawn := d', toks := t' } := by
 obtain ⟨m, ⟨o, es, ep, ho, r⟩, _⟩ := id I.loc
 obtain ⟨sl, hL⟩ := u.any ho I.free fun z => (hch _ z).2.1 rfl
 exact I.step (ch := ch) hch (fun b o hL hb hc e n => u.keep b o e n (fun z => (List.mem_cons.mp (I.stkSub b z)).elim hL hb) hc) (fun b o _ _ hc e n => u.any e n hc) (fun b o hc e n => u.free b o e n hc) (fun b o hc e => u.there b o e hc) u.tups u.frzs u.tbls (fun m' hm => by
  obtain ⟨o', es', ep', ho', r'⟩ := hm
  rw [ho] at ho'; cases ho'
  exact ⟨_, es', ep', hL, r'⟩) hok hg
theorem Inv.turned {t' : Nat} {it : Addr} (I : Inv X pins σ H s) (k : ∀ b o, b ≠ it -> s.heap.get? b = some o -> h'.get? b = some o) (hn : H it = none) (hL : it ≠ X.env.locals)
  (h1 : it ∈ X.ex ∨ X.s₀.heap.objs.size <= it) (h2 : ∀ x c, X.env.cells.lookup x = some c -> c ≠ it) (h3 : ∀ p ∈ X.pn ++ pins, p.1 ≠ it) : Inv X pins σ H { s with heap := h', toks := t' } := by
 have nit : ∀ b u, H b = some u -> b ≠ it := fun b u e z => by rw [z, hn] at e; cases e
 refine I.step (g' := s.gens) (d' := s.drawn) (ch := [it]) (fun b hb => ?_) (fun b o _ _ hc e _ => k b o (fun z => hc (by simp [z])) e) (fun b o _ _ hc e _ => ⟨o.slots, k b o (fun z => hc (by simp [z])) e⟩) (fun _ _ _ _ n => n)
  (fun b o hc e => ⟨o, k b o (fun z => hc (by simp [z])) e⟩) (fun _ _ e => e) (fun _ _ _ e => e) (fun b ps e => ⟨#[], by rw [e]; simp⟩) (fun m hm => ?_) (fun b u e => ?_) I.bare
 ·have e : b = it := by simpa using hb
  subst e
  exact ⟨h1, hL, h2, h3⟩
 ·obtain ⟨o, es, ep, ho, r⟩ := hm
  exact ⟨o, es, ep, k _ o (Ne.symm hL) ho, r⟩
 ·refine (I.hok b u e).stay (fun c v hc q => k c v ?_ q) (fun _ q => q) fun _ _ q => q
  rcases hc with z | z
  ·rw [z]; exact nit b u e
  ·exact nit c _ z
theorem Inv.tok (I : Inv X pins σ H s) (t : Nat) : Inv X pins σ H { s with toks := t } := I.un (h' := s.heap) (t' := t) Un.refl I.hok
theorem Inv.kept {t' : Nat} (I : Inv X pins σ H s) (k : ∀ b u, s.heap.get? b = some u -> h'.get? b = some u) : Inv X pins σ H { s with heap := h', toks := t' } := I.un (Un.kept k) (I.hok.kept k)
theorem Inv.laid {a : Addr} {o : HO} {t' : Nat} (I : Inv X pins σ H s) (k : ∀ b u, s.heap.get? b = some u -> h'.get? b = some u) (hp : s.heap.objs.size <= a) (new : ObjOk X.prog X.w (upd H a o) h' a o) :
  Inv X pins σ (upd H a o) { s with heap := h', toks := t' } := I.un (Un.laid k hp (I.hok.fresh hp)) (I.hok.laid k hp new)
theorem Inv.write {x e : Addr} {o : HO} {t' : Nat} (I : Inv X pins σ H s) (mu : Mut (H x)) (he : e = x ∨ H e = some (.own x)) (k : ∀ b u, b ≠ e -> s.heap.get? b = some u -> h'.get? b = some u) (heo : ∃ u, h'.get? e = some u)
  (new : ObjOk X.prog X.w (upd H x o) h' x o) : Inv X pins σ (upd H x o) { s with heap := h', toks := t' } := I.un (Un.write mu he k heo) (I.hok.write mu he k heo new)
theorem Inv.pins_of {pins' : List (Addr × Obj)} (I : Inv X pins σ H s) (h : ∀ p ∈ pins', s.heap.get? p.1 = some p.2 /\ H p.1 = none /\ p.1 ≠ X.env.locals /\ p.1 ∉ X.fs /\ ∀ v, p.2.data ≠ .cell v) : Inv X pins' σ H s :=
 ⟨I.ok, I.os, I.bare, I.base, I.loc, I.cell, I.free, I.freeC, fun p hp => (List.mem_append.mp hp).elim (fun z => I.pin p (List.mem_append_left _ z)) (h p), I.hok, I.len⟩
theorem zeR {N : List Str} (hN : N.Nodup) {i j : Nat} {x : Str} (a : N[i]? = some x) (b : N[j]? = some x) : i = j := by
 obtain ⟨h1, e1⟩ := List.getElem?_eq_some_iff.mp a
 obtain ⟨h2, e2⟩ := List.getElem?_eq_some_iff.mp b
 exact (List.getElem_inj hN).mp (e1.trans e2.symm)
theorem ziR {M : Model} {A : Around} {E : Value -> Shared -> Prop} {i : Nat} {x : Str} {v : V} {u : Value} {Q : Unit -> Shared -> Prop} (I : Inv X pins σ H s) (hN : X.N.Nodup) (hi : X.N[i]? = some x) (hx : Loc X.env.scope x) (r : RelV v u)
  (h : ∀ s', Inv X pins (σ.set i (some v)) H s' -> (∃ a, Heap.SameBut a s.heap s'.heap /\ (a = X.env.locals ∨ X.env.cells.lookup x = some a)) -> Q () s') (hf : autoParam (X.fn x = true ∨ X.env.scope.names.lookup x = some .local) AutoP.a0._auto_1) : wpAny M A (storeName X.env x u) Q E s := by
 obtain ⟨m, hn, hl⟩ := id I.loc
 have hcls : (X.env.scope.kind == .class || (X.env.scope.kind == .module && X.env.locals != X.env.globals)) = false := by rw [I.ok.kind]; rfl
 have hiσ : i < σ.length := by rw [I.len]; exact (List.getElem?_eq_some_iff.mp hi).1
 have cne := I.cne
 have tracked : ∀ {a : Addr} {h' : Heap}, (∃ o, s.heap.get? a = some o /\ H a = none) -> Heap.SameBut a s.heap h' -> HOk X.prog X.w H h' := fun {a h'} ha hs b ob e => by
  obtain ⟨_, _, hfree⟩ := ha
  refine (I.hok b ob e).stay (fun c w' hc q => (hs.2 c ?_).trans q) (fun _ q => q) fun _ _ q => q
  rintro rfl
  rcases hc with rfl | hc
  ·rw [hfree] at e; cases e
  ·rw [hfree] at hc; cases hc
 rcases hx with hk | hk
 ·refine wpAny_storeName_local hk hn (fun h' hn' hs => ?_) hcls
  obtain ⟨oL, _, _, hoL, _⟩ := id hn
  refine h _ ⟨I.ok, I.os, I.bare, ⟨fun b o e n hb hx => ?_, fun b o e n hb hx => ?_, I.base.free, fun b o e hx => ?_, I.base.tups, I.base.frzs, I.base.tbls⟩, ⟨_, hn', fun j y v' e1 e2 e3 => ?_⟩, fun y c e => ?_, I.free, I.freeC, fun p hp => ?_, tracked ⟨oL, hoL, I.free⟩ hs, by simpa using I.len⟩ ⟨_, hs, .inl rfl⟩
  ·exact (hs.2 b (Nat.ne_of_lt (Nat.lt_of_lt_of_le (Heap.lt_size e) I.ok.above))).trans (I.base.keep b o e n hb hx)
  ·obtain ⟨sl, e1⟩ := I.base.slot b o e n hb hx
   exact ⟨sl, (hs.2 b (Nat.ne_of_lt (Nat.lt_of_lt_of_le (Heap.lt_size e) I.ok.above))).trans e1⟩
  ·obtain ⟨o', e1⟩ := I.base.there b o e hx
   exact ⟨o', (hs.2 b (Nat.ne_of_lt (Nat.lt_of_lt_of_le (Heap.lt_size e) I.ok.above))).trans e1⟩
  ·by_cases hj : j = i
   ·subst hj
    rw [hi] at e1; cases e1
    rw [List.getElem?_set_self hiσ] at e2
    cases e2
    exact ⟨u, r, .inl ⟨hk, by simp⟩⟩
   ·rw [List.getElem?_set_ne (Ne.symm hj)] at e2
    obtain ⟨u', r', q⟩ := hl j y v' e1 e2 e3
    refine ⟨u', r', ?_⟩
    rcases q with ⟨k, e⟩ | ⟨k, c, e, z⟩
    ·refine .inl ⟨k, ?_⟩
     have : y ≠ x := fun e => hj (zeR hN e1 (e ▸ hi))
     simp [this, e]
    ·exact .inr ⟨k, c, e, z.sameBut hs (cne y c e)⟩
  ·obtain ⟨w', z⟩ := I.cell y c e
   exact ⟨w', z.sameBut hs (cne y c e)⟩
  ·obtain ⟨e, n, ne, nf, d⟩ := I.pin p hp
   exact ⟨(hs.2 p.1 ne).trans e, n, ne, nf, d⟩
 ·have hfn : X.fn x = true := by
   rcases hf with z | z
   ·exact z
   ·rw [z] at hk; cases hk
  obtain ⟨c, hc⟩ := I.ok.has x (.inl hk)
  obtain ⟨w', z⟩ := I.cell x c hc
  refine wpAny_storeName_cell I.ok.kind hk hc z (fun h' hc' hs => ?_)
  obtain ⟨oc, hoc, hocd⟩ := id z
  refine h { s with heap := h' } ⟨I.ok, I.os, I.bare, ⟨fun b o e n hb hx => ?_, fun b o e n hb hx => ?_, I.base.free, fun b o e hx => ?_, I.base.tups, I.base.frzs, I.base.tbls⟩, ⟨m, hn.sameBut hs (Ne.symm (cne x c hc)), fun j y v' e1 e2 e3 => ?_⟩, fun y c' e => ?_, I.free, I.freeC, fun p hp => ?_, tracked ⟨oc, hoc, I.freeC x c hc⟩ hs, by simpa using I.len⟩ ⟨c, hs, .inr hc⟩
  ·exact (hs.2 b (Nat.ne_of_lt (Nat.lt_of_lt_of_le (Heap.lt_size e) (I.ok.cab x c hfn hc)))).trans (I.base.keep b o e n hb hx)
  ·obtain ⟨sl, e1⟩ := I.base.slot b o e n hb hx
   exact ⟨sl, (hs.2 b (Nat.ne_of_lt (Nat.lt_of_lt_of_le (Heap.lt_size e) (I.ok.cab x c hfn hc)))).trans e1⟩
  ·obtain ⟨o', e1⟩ := I.base.there b o e hx
   exact ⟨o', (hs.2 b (Nat.ne_of_lt (Nat.lt_of_lt_of_le (Heap.lt_size e) (I.ok.cab x c hfn hc)))).trans e1⟩
  ·by_cases hj : j = i
   ·subst hj
    rw [hi] at e1; cases e1
    rw [List.getElem?_set_self hiσ] at e2
    cases e2
    exact ⟨u, r, .inr ⟨.inl hk, c, hc, hc'⟩⟩
   ·rw [List.getElem?_set_ne (Ne.symm hj)] at e2
    obtain ⟨u', r', q⟩ := hl j y v' e1 e2 e3
    refine ⟨u', r', ?_⟩
    rcases q with q | ⟨k, c', e, z'⟩
    ·exact .inl q
    ·refine .inr ⟨k, c', e, z'.sameBut hs ?_⟩
     rintro rfl
     exact hj (zeR hN e1 (I.ok.inj _ _ _ e hc ▸ hi))
  ·by_cases hcc : c' = c
   ·subst hcc; exact ⟨_, hc'⟩
   ·obtain ⟨w2, z2⟩ := I.cell y c' e
    exact ⟨w2, z2.sameBut hs hcc⟩
  ·obtain ⟨e, n, ne, nf, d⟩ := I.pin p hp
   refine ⟨(hs.2 p.1 ?_).trans e, n, ne, nf, d⟩
   intro q
   rw [q, hoc] at e
   have q' : oc = p.2 := Option.some.inj e
   exact d w' (by rw [<- q']; exact hocd)
theorem zbD {M : Model} {A : Around} {E : Value -> Shared -> Prop} {i : Nat} {x : Str} {v : V} {u : Value} {Q : Unit -> Shared -> Prop} (I : Inv X pins σ H s) (hN : X.N.Nodup) (hi : X.N[i]? = some x) (hx : Loc X.env.scope x) (r : RelV v u)
  (h : ∀ s', Inv X pins (σ.set i (some v)) H s' -> Q () s') (hf : autoParam (X.fn x = true ∨ X.env.scope.names.lookup x = some .local) AutoP.a0._auto_1) : wpAny M A (storeName X.env x u) Q E s :=
 ziR I hN hi hx r (fun s' I' _ => h s' I') hf
theorem Inv.call' {s' : Shared} {ch : List Addr} (I : Inv X pins σ H s) (ho : s'.os = s.os) (u : Un (frs X.stack) ch H H' s.heap s'.heap) (hok : HOk X.prog X.w H' s'.heap) (hg : AllBare s'.gens)
  (hch : ∀ b ∈ ch, (b ∈ X.ex ∨ X.s₀.heap.objs.size <= b) /\ b ≠ X.env.locals /\ (∀ x c, X.env.cells.lookup x = some c -> c ≠ b) /\ ∀ p ∈ X.pn ++ pins, p.1 ≠ b) : Inv X pins σ H' s' := by
 obtain ⟨h', g', d', t', o'⟩ := s'
 have e : o' = s.os := ho
 subst e
 exact I.call (g' := g') (t' := t') (d' := d') u hok hg hch
end
abbrev XK := Value -> Option Addr -> Hp -> Prop
abbrev St := List (Option V)
abbrev VK := V -> Hp -> Prop
abbrev TE := St -> Hp -> VK -> Prop
abbrev TT := St -> Hp -> (Bool -> Hp -> Prop) -> Prop
abbrev TA := St -> Hp -> (List V -> Hp -> Prop) -> Prop
structure Ends where
 nx : St -> Hp -> Prop
 rt : VK
 bk : St -> Hp -> Prop := fun _ _ => False
 ct : St -> Hp -> Prop := fun _ _ => False
abbrev TS := Ends -> St -> Hp -> Prop
def EP (X : Cx) (pins : List (Addr × Obj)) (σ : St) (Q : VK) (u : Value) (s' : Shared) : Prop := ∃ v H', Inv X pins σ H' s' /\ RelV v u /\ Q v H'
def TP (X : Cx) (pins : List (Addr × Obj)) (σ : St) (Q : Bool -> Hp -> Prop) (b : Bool) (s' : Shared) : Prop := ∃ H', Inv X pins σ H' s' /\ Q b H'
def AP (X : Cx) (pins : List (Addr × Obj)) (σ : St) (Q : List V -> Hp -> Prop) (us : List Value) (s' : Shared) : Prop := ∃ vs H', Inv X pins σ H' s' /\ Vals vs us /\ Q vs H'
def SP (X : Cx) (pins : List (Addr × Obj)) (D : Ends) (f : Flow) (s' : Shared) : Prop :=
 match f with
 | .next => ∃ σ' H', Inv X pins σ' H' s' /\ D.nx σ' H'
 | .brk => ∃ σ' H', Inv X pins σ' H' s' /\ D.bk σ' H'
 | .cont => ∃ σ' H', Inv X pins σ' H' s' /\ D.ct σ' H'
 | .ret u => ∃ v σ' H', Inv X pins σ' H' s' /\ RelV v u /\ D.rt v H'
def PE (X : Cx) (e : Expr) (t : TE) : Prop :=
 ∀ (pins : List (Addr × Obj)) (s : Shared) (σ : St) (H : Hp) (Q : VK), Inv X pins σ H s -> t σ H Q -> wpAny (model X.prog X.w) X.A (eval e X.env) (EP X pins σ Q) X.xe s
def PT (X : Cx) (e : Expr) (t : TT) : Prop :=
 ∀ (pins : List (Addr × Obj)) (s : Shared) (σ : St) (H : Hp) (Q : Bool -> Hp -> Prop), Inv X pins σ H s -> t σ H Q -> wpAny (model X.prog X.w) X.A (isTrue e X.env (eval e X.env)) (TP X pins σ Q) X.xe s
def PW (X : Cx) (e : Expr) (t : TT) : Prop :=
 ∀ (whole : Sem Value) (pins : List (Addr × Obj)) (s : Shared) (σ : St) (H : Hp) (Q : Bool -> Hp -> Prop), Inv X pins σ H s -> t σ H Q -> wpAny (model X.prog X.w) X.A (isTrue e X.env whole) (TP X pins σ Q) X.xe s
theorem PW.pt {X : Cx} {e : Expr} {t : TT} (h : PW X e t) : PT X e t := h _
def PA (X : Cx) (es : List Expr) (t : TA) : Prop :=
 ∀ (pos : Pos) (pins : List (Addr × Obj)) (s : Shared) (σ : St) (H : Hp) (Q : List V -> Hp -> Prop), Inv X pins σ H s -> t σ H Q -> wpAny (model X.prog X.w) X.A (spliced (backTo pos (starEach es X.env))) (AP X pins σ Q) X.xe s
def PS (X : Cx) (st : Stmt) (t : TS) : Prop :=
 ∀ (pins : List (Addr × Obj)) (s : Shared) (σ : St) (H : Hp) (D : Ends), Inv X pins σ H s -> t D σ H -> wpAny (model X.prog X.w) X.A (exec st X.env) (SP X pins D) X.xe s
def PSs (X : Cx) (st : List Stmt) (t : TS) : Prop :=
 ∀ (pins : List (Addr × Obj)) (s : Shared) (σ : St) (H : Hp) (D : Ends), Inv X pins σ H s -> t D σ H -> wpAny (model X.prog X.w) X.A (execs st X.env) (SP X pins D) X.xe s
theorem thn {α : Type} {t : Sem α} {Q Q' : α -> Shared -> Prop} {M : Model} {A : Around} {E : Value -> Shared -> Prop} {s : Shared} (h : wpAny M A t Q E s) (hQ : ∀ a s, Q a s -> Q' a s) : wpAny M A t Q' E s := wpAny_mono h hQ fun _ _ x => x
section
variable {X : Cx}
def tVar (i : Nat) : TE := fun σ H Q => ∃ v, σ[i]? = some (some v) /\ Q v H
def tC (v : V) : TE := fun _ H Q => Q v H
theorem zfo {i : Nat} {x : Str} {pos : Pos} (hN : X.N[i]? = some x) (hv : Vis X.env.scope x) (hd : autoParam ((x == ("__debug__" : Str)) = false) AutoP.a1._auto_1) (hcd : autoParam ((x == ("__classdict__" : Str)) = false) AutoP.a1._auto_1) : PE X (.Name x pos) (tVar i) := by
 intro pins s σ H Q I h
 obtain ⟨v, e, h⟩ := h
 obtain ⟨m, hn, hl⟩ := I.loc
 obtain ⟨u, r, l⟩ := hl i x v hN e hv
 have fin : EP X pins σ Q u s := ⟨v, H, I, r, h⟩
 rcases l with ⟨hk, hm⟩ | ⟨hk, c, hc, hcell⟩
 ·exact wpAny_Name (wpAny_loadName_local I.ok.kind hk hn hm fin) hd
 ·rcases hk with hk | hk
  ·exact wpAny_Name (wpAny_loadName_cell I.ok.kind hk hc hcell fin) hd
  ·exact wpAny_Name (wpAny_loadName_free I.ok.kind hk hc hcell fin hcd) hd
theorem pe_int {i j pos} : PE X (.Constant (.int i) j pos) (tC (.int i)) := fun _ _ _ H _ I h => wpAny_Constant_int ⟨.int i, H, I.tok _, ⟨_, rfl⟩, h⟩
theorem pe_bl {b j pos} : PE X (.Constant (.bool b) j pos) (tC (.bl b)) := fun _ _ _ H _ I h => Constant_bool ⟨.bl b, H, I, rfl, h⟩
theorem pe_non {j pos} : PE X (.Constant .none j pos) (tC .non) := fun _ _ _ H _ I h => Constant_none ⟨.non, H, I, rfl, h⟩
theorem zl7 {x j pos} : PE X (.Constant (.str x) j pos) (tC (.str x)) := fun _ _ _ H _ I h => Calls.Constant_str ⟨.str x, H, I.tok _, ⟨_, rfl⟩, h⟩
def Gl (X : Cx) (x : Str) : Prop := X.env.kindOf x = some .globalImplicit
theorem zcj {E : Value -> Shared -> Prop} {pins : List (Addr × Obj)} {s : Shared} {σ : St} {H : Hp} {x : Str} {u : Value} {pos : Pos} {Q : Value -> Shared -> Prop} (I : Inv X pins σ H s) (hg : Gl X x) (hm : X.mg x = some u) (h : Q u s)
  (hd : autoParam ((x == ("__debug__" : Str)) = false) AutoP.a1._auto_1) : wpAny (model X.prog X.w) X.A (eval (.Name x pos) X.env) Q E s :=
 Calls.Name_function_global I.ok.kind hg (Calls.loadGlobal_global (by rw [I.ok.glob]; exact I.mod.glob.keeps I.bk) hm h) hd
theorem zcV {E : Value -> Shared -> Prop} {pins : List (Addr × Obj)} {s : Shared} {σ : St} {H : Hp} {x : Str} {u : Value} {pos : Pos} {Q : Value -> Shared -> Prop} (I : Inv X pins σ H s) (hg : Gl X x) (hm : X.mg x = none) (hv : bootBuiltins x = some u) (h : Q u s)
  (hn : autoParam (x ≠ "__name__") AutoP.a1._auto_1) (hd : autoParam ((x == ("__debug__" : Str)) = false) AutoP.a1._auto_1) : wpAny (model X.prog X.w) X.A (eval (.Name x pos) X.env) Q E s := by
 obtain ⟨mb, h1, h2⟩ := I.mod.blt
 exact Calls.Name_function_global I.ok.kind hg (Calls.loadGlobal_builtin (by rw [I.ok.glob]; exact I.mod.glob.keeps I.bk) hm (by rw [I.ok.blt]; exact h1.keeps I.bk) ((h2 x hn).trans hv) h) hd
theorem zeI {x : Str} {v : V} {u : Value} {pos : Pos} (hg : Gl X x) (hm : X.mg x = none) (hv : bootBuiltins x = some u) (r : RelV v u) (hn : autoParam (x ≠ "__name__") AutoP.a1._auto_1) (hd : autoParam ((x == ("__debug__" : Str)) = false) AutoP.a1._auto_1) : PE X (.Name x pos) (tC v) :=
 fun _ _ _ H _ I h => zcV I hg hm hv ⟨v, H, I, r, h⟩ hn hd
variable {a b : Expr} {ta tb : TE} {pos : Pos}
def tB (t : TE) : TT := fun σ H Q => t σ H fun x H1 => ∃ c, x = .bl c /\ Q c H1
theorem pt_val {e : Expr} {t : TE} (h : PE X e t) (he : autoParam (∀ whole, isTrue e X.env whole = (do let v <- whole; standAt e.pos; holding [v] (truthy v))) AutoP.a2._auto_1) : PT X e (tB t) := by
 intro pins s σ H Q I hw
 refine isTrue_plain (thn (h pins s σ H _ I hw) fun v s1 ⟨x, H1, I1, r1, q1⟩ => ?_) (he _)
 obtain ⟨d, rfl, q⟩ := q1
 cases r1
 exact wpAny_truthy_bool ⟨H1, I1, q⟩
variable {tA tB' : TT} {rest : List Expr}
def tAnd (t u : TT) : TT := fun σ H Q => t σ H fun c H1 => if c = true then u σ H1 Q else Q false H1
def tOr (t u : TT) : TT := fun σ H Q => t σ H fun c H1 => if c = true then Q true H1 else u σ H1 Q
def tNot (t : TT) : TT := fun σ H Q => t σ H fun c H1 => Q (!c) H1
theorem zmV (ha : PT X a tA) : PW X (.BoolOp .And [a] pos) tA := by
 intro wh pins s σ H Q I h
 refine isTrue_and (thn (ha pins s σ H Q I h) fun c s1 e => ?_)
 cases c with
 | true => exact isTrue_and_nil e
 | false => exact e
theorem pw_or1 (ha : PT X a tA) : PW X (.BoolOp .Or [a] pos) tA := by
 intro wh pins s σ H Q I h
 refine isTrue_or (thn (ha pins s σ H Q I h) fun c s1 e => ?_)
 cases c with
 | false => exact isTrue_or_nil e
 | true => exact e
theorem pw_and (ha : PT X a tA) (hb : PW X (.BoolOp .And (b :: rest) pos) tB') : PW X (.BoolOp .And (a :: b :: rest) pos) (tAnd tA tB') := by
 intro wh pins s σ H Q I h
 refine isTrue_and (thn (ha pins s σ H _ I h) fun c s1 ⟨H1, I1, q1⟩ => ?_)
 cases c with
 | true => exact hb wh pins s1 σ H1 Q I1 q1
 | false => exact ⟨H1, I1, q1⟩
theorem pw_or (ha : PT X a tA) (hb : PW X (.BoolOp .Or (b :: rest) pos) tB') : PW X (.BoolOp .Or (a :: b :: rest) pos) (tOr tA tB') := by
 intro wh pins s σ H Q I h
 refine isTrue_or (thn (ha pins s σ H _ I h) fun c s1 ⟨H1, I1, q1⟩ => ?_)
 cases c with
 | true => exact ⟨H1, I1, q1⟩
 | false => exact hb wh pins s1 σ H1 Q I1 q1
theorem pt_not (ha : PT X a tA) : PT X (.UnaryOp .Not a pos) (tNot tA) := by
 intro pins s σ H Q I h
 exact isTrue_not (ha pins s σ H (fun c H1 => Q (!c) H1) I h)
def tAndV (ta tb : TE) : TE := fun σ H Q => ta σ H fun x H1 => ∃ c, x = .bl c /\ if c = true then tb σ H1 Q else Q (.bl false) H1
def tNotV (ta : TE) : TE := fun σ H Q => ta σ H fun x H1 => ∃ c, x = .bl c /\ Q (.bl (!c)) H1
theorem pe_one {op} {t : TE} (h : PE X a t) : PE X (.BoolOp op [a] pos) t := fun pins s σ H Q I hw => BoolOp_one (h pins s σ H Q I hw)
theorem pe_and (ha : PE X a ta) (hb : PE X (.BoolOp .And (b :: rest) pos) tb) : PE X (.BoolOp .And (a :: b :: rest) pos) (tAndV ta tb) := by
 intro pins s σ H Q I h
 refine BoolOp_and (thn (ha pins s σ H _ I h) fun v s1 ⟨x, H1, I1, r1, q1⟩ => ?_)
 obtain ⟨c, rfl, q1⟩ := q1
 cases r1
 refine wpAny_truthy_bool ?_
 cases c with
 | true => exact hb pins s1 σ H1 Q I1 q1
 | false => exact ⟨.bl false, H1, I1, rfl, q1⟩
theorem pe_not (ha : PE X a ta) : PE X (.UnaryOp .Not a pos) (tNotV ta) := by
 intro pins s σ H Q I h
 refine UnaryOp_ (thn (ha pins s σ H _ I h) fun v s1 ⟨x, H1, I1, r1, q1⟩ => ?_)
 obtain ⟨c, rfl, q1⟩ := q1
 cases r1
 exact not_of (wpAny_truthy_bool ⟨.bl (!c), H1, I1, rfl, q1⟩)
def tIf (t : TT) (ta tb : TE) : TE := fun σ H Q => t σ H fun c H1 => if c = true then ta σ H1 Q else tb σ H1 Q
theorem zlf {c : Expr} (hc : PT X c tA) (ha : PE X a ta) (hb : PE X b tb) : PE X (.IfExp c a b pos) (tIf tA ta tb) := by
 intro pins s σ H Q I h
 refine wpAny_IfExp (thn (hc pins s σ H _ I h) fun d s1 ⟨H1, I1, q1⟩ => ?_)
 cases d with
 | true => exact ha pins s1 σ H1 Q I1 q1
 | false => exact hb pins s1 σ H1 Q I1 q1
end
def SqL (K : PySem.W.Frag) (H : Hp) (a : Addr) (xs : List V) : Prop :=
 Rd H a (.lst xs) ∨
  ∃ (o : Obj) (its : Array Value) (n : Nat), K.lookup a = some o /\ o.cls = .type "list" /\ o.dict = none /\ o.data = .seq its n /\ its.size <= sizeLine /\ Vals xs its.toList
def SqT (K : PySem.W.Frag) (H : Hp) (a : Addr) (xs : List V) : Prop :=
 Rd H a (.tup xs) ∨
  ∃ (o : Obj) (its : Array Value) (n : Nat), K.lookup a = some o /\ o.cls = .type "tuple" /\ o.data = .seq its n /\ its.size <= sizeLine /\ Vals xs its.toList
def absV : Value -> Option V
 | .none => some .non
 | .bool b => some (.bl b)
 | .int i _ => some (.int i)
 | .str x _ => some (.str x)
 | .bytes b _ => some (.byt b)
 | .float b _ => some (.flt b)
 | .ref a => some (.ref a)
 | .type n => some (.ty n)
 | _ => none
theorem RelV.abs {x : V} {u : Value} (r : RelV x u) : absV u = some x := by
 cases x with
 | non => cases r; rfl
 | bl _ => cases r; rfl
 | int _ => obtain ⟨t, rfl⟩ := r; rfl
 | str _ => obtain ⟨t, rfl⟩ := r; rfl
 | byt _ => obtain ⟨t, rfl⟩ := r; rfl
 | flt _ => obtain ⟨t, rfl⟩ := r; rfl
 | ref _ => cases r; rfl
 | ty _ => cases r; rfl
theorem RelV.inj {x y : V} {u : Value} (r : RelV x u) (q : RelV y u) : x = y := Option.some.inj (r.abs.symm.trans q.abs)
theorem Vals.inj : ∀ {xs ys : List V} {us : List Value}, Vals xs us -> Vals ys us -> xs = ys
 | _, _, _, .nil, .nil => rfl
 | _, _, _, .cons r t, .cons r' t' => by rw [r.inj r', Vals.inj t t']
section
variable {X : Cx} {pins : List (Addr × Obj)} {σ : St} {H : Hp} {s : Shared} {a : Addr} {xs ys : List V}
theorem SqL.of {K : PySem.W.Frag} (h : H a = some (.lst xs)) : SqL K H a xs := .inl (.inl h)
theorem SqT.of {K : PySem.W.Frag} (h : H a = some (.tup xs)) : SqT K H a xs := .inl (.inl h)
theorem Inv.list (I : Inv X pins σ H s) (h : SqL X.K H a xs) : ∃ its : List Value, Vals xs its /\ PlainL s.heap a its.toArray /\ xs.length <= sizeLine := by
 rcases h with h | ⟨o, its, n, hk, hc, hd, hs, hz, r⟩
 ·obtain ⟨z, its, n, r, e⟩ := h.ok I.hok
  exact ⟨its, r, ⟨_, n, e, rfl, rfl, rfl⟩, z⟩
 ·refine ⟨its.toList, r, ⟨o, n, I.kIn a o hk, hc, hd, by simpa using hs⟩, ?_⟩
  have e := r.length
  simp only [Array.length_toList] at e
  omega
theorem Inv.tuple (I : Inv X pins σ H s) (h : SqT X.K H a xs) : ∃ its : List Value, Vals xs its /\ IsTup s.heap a its.toArray /\ xs.length <= sizeLine := by
 rcases h with h | ⟨o, its, n, hk, hc, hs, hz, r⟩
 ·obtain ⟨z, its, r, p, _⟩ := h.ok I.hok
  exact ⟨its, r, p, z⟩
 ·refine ⟨its.toList, r, ⟨o, I.kIn a o hk, hc, n, by simpa using hs⟩, ?_⟩
  have e := r.length
  simp only [Array.length_toList] at e
  omega
theorem Inv.list_inj (I : Inv X pins σ H s) (h : SqL X.K H a xs) (h' : SqL X.K H a ys) : xs = ys := by
 obtain ⟨its, r, ⟨o, n, e, _, _, d⟩, _⟩ := I.list h
 obtain ⟨its', r', ⟨o', n', e', _, _, d'⟩, _⟩ := I.list h'
 rw [e] at e'; cases e'
 rw [d] at d'
 injection d' with d1 _
 have : its = its' := by simpa using congrArg Array.toList d1
 subst this
 exact r.inj r'
theorem Inv.tuple_inj (I : Inv X pins σ H s) (h : SqT X.K H a xs) (h' : SqT X.K H a ys) : xs = ys := by
 obtain ⟨its, r, ⟨o, e, _, n, d⟩, _⟩ := I.tuple h
 obtain ⟨its', r', ⟨o', e', _, n', d'⟩, _⟩ := I.tuple h'
 rw [e] at e'; cases e'
 rw [d] at d'
 injection d' with d1 _
 have : its = its' := by simpa using congrArg Array.toList d1
 subst this
 exact r.inj r'
end
abbrev Cx.wish (X : Cx) (E : Value -> Shared -> Prop) : Cx := { X with xe := E }
abbrev Cx.nox (X : Cx) : Cx := X.wish fun _ _ => False
theorem Cx.Ok.wish {X : Cx} (ok : X.Ok) (E : Value -> Shared -> Prop) : (X.wish E).Ok :=
 ⟨ok.mod, ok.kind, ok.glob, ok.blt, ok.above, ok.inj, ok.has, ok.cab, ok.hd, ok.frames, ok.stk, ok.exf, ok.bs, ok.bsz, ok.noex, ok.exfs, ok.funs, ok.frf⟩
theorem Cx.Ok.unwish {X : Cx} {E : Value -> Shared -> Prop} (ok : (X.wish E).Ok) : X.Ok :=
 ⟨ok.mod, ok.kind, ok.glob, ok.blt, ok.above, ok.inj, ok.has, ok.cab, ok.hd, ok.frames, ok.stk, ok.exf, ok.bs, ok.bsz, ok.noex, ok.exfs, ok.funs, ok.frf⟩
section
variable {X : Cx} {pins : List (Addr × Obj)} {σ : St} {H : Hp} {s : Shared} {E : Value -> Shared -> Prop}
theorem Inv.wish (I : Inv X pins σ H s) (E : Value -> Shared -> Prop) : Inv (X.wish E) pins σ H s := ⟨I.ok.wish E, I.os, I.bare, I.base, I.loc, I.cell, I.free, I.freeC, I.pin, I.hok, I.len⟩
theorem Inv.unwish (I : Inv (X.wish E) pins σ H s) : Inv X pins σ H s := ⟨I.ok.unwish, I.os, I.bare, I.base, I.loc, I.cell, I.free, I.freeC, I.pin, I.hok, I.len⟩
theorem SP.unwish {D : Ends} {f : Flow} {s' : Shared} (h : SP (X.wish E) pins D f s') : SP X pins D f s' := by
 cases f with
 | next => obtain ⟨σ', H', I, q⟩ := h; exact ⟨σ', H', I.unwish, q⟩
 | brk => obtain ⟨σ', H', I, q⟩ := h; exact ⟨σ', H', I.unwish, q⟩
 | cont => obtain ⟨σ', H', I, q⟩ := h; exact ⟨σ', H', I.unwish, q⟩
 | ret u => obtain ⟨v, σ', H', I, r, q⟩ := h; exact ⟨v, σ', H', I.unwish, r, q⟩
theorem PSs.nox {st : List Stmt} {t : TS} (h : PSs X.nox st t) : PSs X st t := fun pins s σ H D I hw =>
 wpAny_mono (h pins s σ H D (I.wish _) hw) (fun _ _ q => q.unwish) fun _ _ z => False.elim z
end
section
variable {X : Cx} {st : Stmt} {rest : List Stmt} {t u : TS} {e : Expr} {te : TE} {pos : Pos}
def tNext : TS := fun D σ H => D.nx σ H
def tSeq (t u : TS) : TS := fun D σ H => t { D with nx := u D } σ H
theorem zmZ : PSs X [] tNext := fun _ _ σ H _ I h => wpAny_execs_nil ⟨σ, H, I, h⟩
theorem zhi (h1 : PS X st t) (h2 : PSs X rest u) : PSs X (st :: rest) (tSeq t u) := by
 intro pins s σ H D I h
 refine wpAny_execs_cons (thn (h1 pins s σ H { D with nx := u D } I h) fun f s1 q => ?_)
 cases f with
 | next =>
  obtain ⟨σ', H', I', q⟩ := q
  exact h2 pins s1 σ' H' D I' q
 | ret v => exact q
 | brk => exact q
 | cont => exact q
theorem zjm (h1 : PS X st t) : PSs X [st] t := by
 intro pins s σ H D I h
 refine wpAny_execs_cons (thn (h1 pins s σ H D I h) fun f s1 q => ?_)
 cases f with
 | next => exact wpAny_execs_nil q
 | ret v => exact q
 | brk => exact q
 | cont => exact q
theorem Inv.quiet {pins : List (Addr × Obj)} {σ : St} {H : Hp} {s : Shared} (I : Inv X pins σ H s) : interactive X.env = false := by simp [interactive, I.ok.kind]
def tDrop (te : TE) : TS := fun D σ H => te σ H fun _ H1 => D.nx σ H1
theorem zm1 (he : PE X e te) (hs : autoParam (swapsWith e none pos.line X.env = pure false) AutoP.a3._auto_1) : PS X (.Expr e pos) (tDrop te) := by
 intro pins s σ H D I h
 exact wpAny_Expr_any (thn (he pins s σ H _ I h) fun v s1 ⟨x, H1, I1, r1, q1⟩ => ⟨σ, H1, I1, q1⟩) I.quiet hs
def tRet (te : TE) : TS := fun D σ H => te σ H D.rt
theorem ps_ret (he : PE X e te) : PS X (.Return (some e) pos) (tRet te) := by
 intro pins s σ H D I h
 exact wpAny_Return_some (thn (he pins s σ H _ I h) fun v s1 ⟨x, H1, I1, r1, q1⟩ => ⟨x, σ, H1, I1, r1, q1⟩)
def tIfS (c : TT) (t u : TS) : TS := fun D σ H => c σ H fun b H1 => if b = true then t D σ H1 else u D σ H1
theorem ps_if {c : Expr} {a b : List Stmt} {tc : TT} (hc : PT X c tc) (ha : PSs X a t) (hb : PSs X b u) : PS X (.If c a b pos) (tIfS tc t u) := by
 intro pins s σ H D I h
 refine wpAny_If (thn (hc pins s σ H _ I h) fun d s1 ⟨H1, I1, q1⟩ => ?_)
 cases d with
 | true => exact ha pins s1 σ H1 D I1 q1
 | false => exact hb pins s1 σ H1 D I1 q1
end
abbrev TG := V -> St -> Hp -> (St -> Hp -> Prop) -> Prop
abbrev TGs := List V -> St -> Hp -> (St -> Hp -> Prop) -> Prop
def PG (X : Cx) (target : Expr) (t : TG) : Prop :=
 ∀ (pins : List (Addr × Obj)) (s : Shared) (σ : St) (H : Hp) (v : V) (u : Value) (Q : St -> Hp -> Prop), Inv X pins σ H s -> RelV v u -> t v σ H Q →
  wpAny (model X.prog X.w) X.A (assign target X.env u) (fun _ s' => ∃ σ' H', Inv X pins σ' H' s' /\ Q σ' H') X.xe s
def PGs (X : Cx) (ts : List Expr) (t : TGs) : Prop :=
 ∀ (pins : List (Addr × Obj)) (s : Shared) (σ : St) (H : Hp) (vs : List V) (us : List Value) (Q : St -> Hp -> Prop), Inv X pins σ H s -> Vals vs us -> t vs σ H Q →
  wpAny (model X.prog X.w) X.A (assignInOrder ((assignEach ts X.env).map (·.2)) us) (fun _ s' => ∃ σ' H', Inv X pins σ' H' s' /\ Q σ' H') X.xe s
abbrev TSet := V -> V -> V -> Hp -> (Hp -> Prop) -> Prop
def PSet (X : Cx) (t : TSet) : Prop :=
 ∀ (pins : List (Addr × Obj)) (s : Shared) (σ : St) (H : Hp) (o i v : V) (ov iv u : Value) (Q : Hp -> Prop), Inv X pins σ H s -> RelV o ov -> RelV i iv -> RelV v u -> t o i v H Q →
  wpAny (model X.prog X.w) X.A (setItem ov iv u) (fun _ s' => ∃ H', Inv X pins σ H' s' /\ Q H') X.xe s
section
variable {X : Cx} {pos : Pos}
def gName (i : Nat) : TG := fun v σ H Q => Q (σ.set i (some v)) H
theorem zju {i : Nat} {x : Str} (hN : X.N.Nodup) (hi : X.N[i]? = some x) (hx : Loc X.env.scope x) (hf : autoParam (X.fn x = true ∨ X.env.scope.names.lookup x = some .local) AutoP.a0._auto_1) : PG X (.Name x pos) (gName i) := by
 intro pins s σ H v u Q I r h
 exact wpAny_assign_Name (zbD I hN hi hx r (fun s' I' => ⟨_, H, I', h⟩) hf)
def gNil : TGs := fun vs σ H Q => vs = [] /\ Q σ H
def gCons (t : TG) (u : TGs) : TGs := fun vs σ H Q => ∃ v r, vs = v :: r /\ t v σ H fun σ' H' => u r σ' H' Q
theorem znb : PGs X [] gNil := by
 intro pins s σ H vs us Q I r h
 obtain ⟨e, h⟩ := h
 subst e
 cases r
 exact assignInOrder_nil ⟨σ, H, I, h⟩
theorem zld {e : Expr} {es : List Expr} {t : TG} {u : TGs} (h1 : PG X e t) (h2 : PGs X es u)
  (hs : autoParam ((assignEach (e :: es) X.env).map (·.2) = assign e X.env :: (assignEach es X.env).map (·.2)) AutoP.a3._auto_1) : PGs X (e :: es) (gCons t u) := by
 intro pins s σ H vs us Q I r h
 obtain ⟨v, vr, e1, h⟩ := h
 subst e1
 cases r with
 | cons r rr =>
  rw [hs]
  refine assignInOrder_cons (thn (h1 pins s σ H _ _ _ I r h) fun _ s1 ⟨σ1, H1, I1, q1⟩ => ?_)
  exact h2 pins s1 σ1 H1 _ _ Q I1 rr q1
def zc4 (K : PySem.W.Frag) (n : Nat) (t : TGs) : TG := fun v σ H Q => ∃ a xs, v = .ref a /\ SqT K H a xs /\ xs.length = n /\ t xs σ H Q
theorem pg_tup {es : List Expr} {k : Nat} {t : TGs} {n : Nat} (hc : X.calm = true) (h : PGs X es t)
  (hn : autoParam ((assignEach es X.env).length = n) AutoP.a3._auto_1) (hst : autoParam ((assignEach es X.env).findIdx? (·.1) = none) AutoP.a3._auto_1) : PG X (.Tuple es k pos) (zc4 X.K n t) := by
 intro pins s σ H v u Q I r hw
 obtain ⟨a, xs, e1, hq, hl, hw⟩ := hw
 subst e1
 cases r
 obtain ⟨its, rv, ht, hz⟩ := I.tuple hq
 refine assign_Tuple_tuple (I.ok.hd hc) ht (by simp [hn, <- hl, rv.length]) hst fun h' hx => ?_
 have I1 : Inv X pins σ H { s with heap := h' } := I.kept (t' := s.toks) fun b o e => hx b o (Nat.ne_of_lt (Heap.lt_size e)) e
 exact h pins _ σ H xs _ Q I1 (by simpa using rv) hw
def gSub (to ti : TE) (t : TSet) : TG := fun v σ H Q => to σ H fun o H1 => ti σ H1 fun i H2 => t o i v H2 fun H3 => Q σ H3
theorem pg_sub {o i : Expr} {to ti : TE} {t : TSet} (ho : PE X o to) (hi : PE X i ti) (hs : PSet X t)
  (ha : autoParam (∀ v, assign (.Subscript o i pos) X.env v = (do
   let ov <- holding [v] (eval o X.env)
   let iv <- holding [v, ov] (eval i X.env)
   standAt pos
   holding [v, ov, iv] (setItem ov iv v)
   release [v, ov, iv] [])) AutoP.a2._auto_1) : PG X (.Subscript o i pos) (gSub to ti t) := by
 intro pins s σ H v u Q I r h
 rw [ha]
 refine wpAny_bind (wpAny_holding (thn (ho pins s σ H _ I h) fun ov s1 ⟨x, H1, I1, r1, q1⟩ => ?_))
 refine wpAny_bind (wpAny_holding (thn (hi pins s1 σ H1 _ I1 q1) fun iv s2 ⟨y, H2, I2, r2, q2⟩ => ?_))
 refine wpAny_bind (wpAny_standAt (wpAny_bind (wpAny_holding (thn (hs pins s2 σ H2 x y v ov iv u _ I2 r1 r2 r q2) fun _ s3 ⟨H3, I3, q3⟩ => ?_))))
 exact wpAny_release ⟨σ, H3, I3, q3⟩
def tAsg (te : TE) (g : TG) : TS := fun D σ H => te σ H fun x H1 => g x σ H1 D.nx
theorem ps_asg {tg e : Expr} {te : TE} {g : TG} (he : PE X e te) (hg : PG X tg g) (hs : autoParam (swapsWithSole [tg] e pos.line X.env = pure false) AutoP.a3._auto_1) (hw : autoParam (swappedStores [tg] e X.env = pure none) AutoP.a3._auto_1)
  (h1 : autoParam ((assignEach [tg] X.env).map (·.2) = [assign tg X.env]) AutoP.a3._auto_1) : PS X (.Assign [tg] e pos) (tAsg te g) := by
 intro pins s σ H D I h
 refine wpAny_Assign_stores (thn (he pins s σ H _ I h) fun v s1 ⟨x, H1, I1, r1, q1⟩ => ?_) hs hw
 rw [h1]
 exact thn (hg pins s1 σ H1 x v _ I1 r1 q1) fun _ s2 q => q
theorem ps_set {i : Nat} {x : Str} {e : Expr} {te : TE} {pos' : Pos} (hN : X.N.Nodup) (hi : X.N[i]? = some x) (hx : Loc X.env.scope x) (he : PE X e te) (hs : autoParam (swapsWith e (some (.Name x pos')) pos.line X.env = pure false) AutoP.a3._auto_1) (hf : autoParam (X.fn x = true ∨ X.env.scope.names.lookup x = some .local) AutoP.a0._auto_1) :
  PS X (.Assign [.Name x pos'] e pos) (tAsg te (gName i)) := by
 intro pins s σ H D I h
 refine wpAny_Assign_Name (thn (he pins s σ H _ I h) fun v s1 ⟨y, H1, I1, r1, q1⟩ => ?_) hs
 exact zbD I1 hN hi hx r1 (fun s2 I2 => ⟨_, H1, I2, q1⟩) hf
def tPar (i j : Nat) (ta : TA) : TS := fun D σ H => ta σ H fun vs H1 => ∃ v w, vs = [v, w] /\ D.nx ((σ.set i (some v)).set j (some w)) H1
theorem ps_par {i j : Nat} {x y : Str} {a b : Expr} {ta : TA} {px py pt : Pos} {kt k2 pt2} (hc : X.calm = true) (hN : X.N.Nodup) (hi : X.N[i]? = some x) (hj : X.N[j]? = some y) (hij : i ≠ j)
  (hx : X.env.scope.names.lookup x = some .local) (hy : X.env.scope.names.lookup y = some .local) (ha : PA X [a, b] ta)
  (hw : swappedStores [.Tuple [.Name x px, .Name y py] kt pt] (.Tuple [a, b] k2 pt2) X.env = pure (some [x, y]))
  (hs : autoParam (swapsWithSole [.Tuple [.Name x px, .Name y py] kt pt] (.Tuple [a, b] k2 pt2) pos.line X.env = pure false) AutoP.a3._auto_1) :
  PS X (.Assign [.Tuple [.Name x px, .Name y py] kt pt] (.Tuple [a, b] k2 pt2) pos) (tPar i j ta) := by
 intro pins s σ H D I h
 rw [exec_Assign_arm]
 refine wpAny_bind (wpAny_standAt ?_)
 rw [hs]
 refine wpAny_bind (wpAny_pure ?_)
 rw [if_neg (by decide)]
 refine wpAny_bind (Tuple_ (thn (ha _ pins s σ H _ I h) fun us s1 ⟨vs, H1, I1, r1, q1⟩ => ?_))
 obtain ⟨v, w, e1, q1⟩ := q1
 subst e1
 obtain ⟨u1, u2, rfl, rv, rw'⟩ : ∃ u1 u2, us = [u1, u2] /\ RelV v u1 /\ RelV w u2 := by
  cases r1 with
  | cons p q =>
   cases q with
   | cons p' q' =>
    cases q'
    exact ⟨_, _, rfl, p, p'⟩
 refine wpAny_newObj_type ?_ (by show 2 <= sizeLine; decide)
 have I2 : Inv X pins σ H1 { s1 with heap := s1.heap.push { cls := .type "tuple", data := .seq [u1, u2].toArray } } := I1.kept (t' := s1.toks) fun b o e => Heap.get?_push_of_some _ e
 rw [hw]
 refine wpAny_bind (wpAny_pure ?_)
 show wpAny (model X.prog X.w) X.A (do rule "assign.swapped-stores"; let items <- unpackItems (.ref s1.heap.objs.size) 2 none; assignInOrder [fun v => bindName X.env y v, fun v => bindName X.env x v] items.reverse; pure Flow.next) _ _ _
 refine wpAny_bind (wpAny_rule (wpAny_bind (unpackItems_tuple (items := #[u1, u2]) (I.ok.hd hc) (IsTup.new s1.heap _) fun h' hx' => ?_)))
 have I3 := I2.kept (h' := h') (t' := s1.toks) fun b o e => hx' b o (Nat.ne_of_lt (Heap.lt_size e)) e
 show wpAny _ _ (assignInOrder [fun v => bindName X.env y v, fun v => bindName X.env x v] [u2, u1] >>= fun _ => pure Flow.next) _ _ _
 refine wpAny_bind (assignInOrder_cons (wpAny_bindName (zbD I3 hN hj (.inl hy) rw' (fun s2 I4 => ?_) (.inr hy))))
 refine assignInOrder_cons (wpAny_bindName (zbD I4 hN hi (.inl hx) rv (fun s3 I5 => assignInOrder_nil (wpAny_pure ?_)) (.inr hx)))
 rw [List.set_comm _ _ (Ne.symm hij)] at I5
 exact ⟨_, H1, I5, q1⟩
end
section
variable {X : Cx} {pos : Pos}
def tWhile (c : TT) (tb : TS) : TS := fun D σ H => ∃ W : Nat -> St -> Hp -> Prop, (∃ m, W m σ H) /\ ∀ m σ H, W m σ H →
 c σ H fun b H1 => if b = true then ∃ N : St -> Hp -> Prop, (∀ σ' H', N σ' H' -> ∃ m', m' < m /\ W m' σ' H') /\ tb { D with nx := N, ct := N, bk := D.nx } σ H1 else D.nx σ H1
theorem zk8 {c : Expr} {body : List Stmt} {tc : TT} {tb : TS} (hp : PassesOwn (model X.prog X.w) X.A X.env X.xe) (hc : PT X c tc) (hb : PSs X body tb) : PS X (.While c body [] pos) (tWhile tc tb) := by
 intro pins s σ H D I h
 obtain ⟨W, ⟨m0, w0⟩, turn⟩ := h
 refine wpAny_While (codeAny_whileLoop (fun n s' => ∃ σ' H', Inv X pins σ' H' s' /\ W n σ' H') ?_ m0 ⟨σ, H, I, w0⟩)
 rintro n s1 ⟨σ1, H1, I1, w1⟩
 refine wpAny_passesOwn hp (thn (hc pins s1 σ1 H1 _ I1 (turn n σ1 H1 w1)) fun b s2 ⟨H2, I2, q2⟩ => ?_)
 cases b with
 | true =>
  obtain ⟨N, hN, q2⟩ := q2
  rw [if_pos rfl]
  refine wpAny_passesOwn hp (thn (hb pins s2 σ1 H2 _ I2 q2) fun f s3 q3 => ?_)
  cases f with
  | next =>
   obtain ⟨σ3, H3, I3, n3⟩ := q3
   obtain ⟨m', hm, w3⟩ := hN σ3 H3 n3
   exact ⟨m', hm, σ3, H3, I3, w3⟩
  | cont =>
   obtain ⟨σ3, H3, I3, n3⟩ := q3
   obtain ⟨m', hm, w3⟩ := hN σ3 H3 n3
   exact ⟨m', hm, σ3, H3, I3, w3⟩
  | brk => exact q3
  | ret v => exact q3
 | false =>
  rw [if_neg Bool.false_ne_true]
  exact wpAny_execs_nil ⟨σ1, H2, I2, q2⟩
end
structure It where
 go : Nat -> Hp -> Prop
 yld : Nat -> Hp -> V -> Hp -> Prop
 stop : Nat -> Hp -> Prop
def zd1 (X : Cx) (pins : List (Addr × Obj)) (H : Hp) (b : Addr) : Prop :=
 H b = none /\ b ≠ X.env.locals /\ b ∉ X.fs /\ (b ∈ X.ex ∨ X.s₀.heap.objs.size <= b) /\ (∀ x c, X.env.cells.lookup x = some c -> c ≠ b) /\ ∀ p ∈ X.pn ++ pins, p.1 ≠ b
theorem Inv.fpOk {X : Cx} {pins : List (Addr × Obj)} {σ : St} {H H' : Hp} {s : Shared} {b : Addr} (I : Inv X pins σ H s) (hb : s.heap.objs.size <= b) (hn : H' b = none) : zd1 X pins H' b := by
 refine ⟨hn, Nat.ne_of_gt (Nat.lt_of_lt_of_le I.lt hb), I.nofs hb, .inr (Nat.le_trans I.sz hb), fun x c e z => ?_, fun p hp z => ?_⟩
 ·obtain ⟨v, q⟩ := I.cell x c e
  exact absurd (Nat.lt_of_lt_of_le q.lt (by rw [z]; exact hb)) (Nat.lt_irrefl _)
 ·exact absurd (Nat.lt_of_lt_of_le (Heap.lt_size (I.pin p hp).1) (by rw [z]; exact hb)) (Nat.lt_irrefl _)
structure Turn (P : Program) (w : World) (K : PySem.W.Frag) (tg : Expr) (J : It) (fp : List Addr) (it : Addr) (tn : Nat -> Heap -> Prop) : Prop where
 mem : it ∈ fp
 obj : ∀ i h, tn i h -> ∀ b ∈ fp, ∃ o, h.get? b = some o /\ ∀ v, o.data ≠ .cell v
 keep : ∀ i h h', tn i h -> (∀ b ∈ fp, ∀ o, h.get? b = some o -> h'.get? b = some o) -> tn i h'
 item : ∀ (X : Cx), X.prog = P -> X.w = w -> X.K = K -> X.calm = true -> ∀ (i : Nat) (pins : List (Addr × Obj)) (s : Shared) (σ : St) (H : Hp) (E : Value -> Shared -> Prop), Inv X pins σ H s -> (∀ b ∈ fp, zd1 X pins H b) -> tn i s.heap -> J.go i H →
  wpAny (model P w) X.A (pyNext (.ref it)) (fun r s1 => ∃ u, r = some u ∧
   wpAny (model P w) X.A (letOwnedTupleGo tg (.ref it) u) (fun _ s2 => ∃ x H', Inv X pins σ H' s2 /\ RelV x u /\ J.yld i H x H' /\ tn (i + 1) s2.heap /\ ∀ b ∈ fp, H' b = none) E s1) E s
 done : ∀ (X : Cx), X.prog = P -> X.w = w -> X.K = K -> X.calm = true -> ∀ (i : Nat) (pins : List (Addr × Obj)) (s : Shared) (σ : St) (H : Hp) (E : Value -> Shared -> Prop), Inv X pins σ H s -> (∀ b ∈ fp, zd1 X pins H b) -> tn i s.heap -> J.stop i H →
  wpAny (model P w) X.A (pyNext (.ref it)) (fun r s1 => r = none /\ Inv X pins σ H s1) E s
 self : ∀ (A : Around) (i : Nat) (s : Shared) (Q : Value -> Shared -> Prop) (E : Value -> Shared -> Prop), tn i s.heap -> Q (.ref it) s -> wpAny (model P w) A (pyIter (.ref it)) Q E s
abbrev TI := St -> Hp -> (It -> Hp -> Prop) -> Prop
def PIE (X : Cx) (pins : List (Addr × Obj)) (σ : St) (tg : Expr) (R : It -> Hp -> Prop) (itv : Value) (s2 : Shared) : Prop :=
 ∃ (it : Addr) (fp : List Addr) (tn : Nat -> Heap -> Prop) (J : It) (H' : Hp), itv = .ref it /\ Inv X pins σ H' s2 /\ Turn X.prog X.w X.K tg J fp it tn /\ tn 0 s2.heap /\ (∀ b ∈ fp, zd1 X pins H' b) /\ R J H'
def PI (X : Cx) (tg iter : Expr) (wi : TI) : Prop :=
 ∀ (pins : List (Addr × Obj)) (s : Shared) (σ : St) (H : Hp) (R : It -> Hp -> Prop), Inv X pins σ H s -> wi σ H R →
  wpAny (model X.prog X.w) X.A (eval iter X.env) (fun v s1 => wpAny (model X.prog X.w) X.A (pyIter v) (PIE X pins σ tg R) X.xe s1) X.xe s
theorem zlE {M : Model} {A : Around} {E : Value -> Shared -> Prop} {s : Shared} {tg : Expr} {it : Addr} {u : Value} {o : Obj} {n : String} {vs : Array Value} {Q : Unit -> Shared -> Prop} (ho : s.heap.get? it = some o) (hc : o.cls = .type n) (hd : o.data = .fields vs)
    (hn : ["enumerate", "zip", "dict_itemiterator", "dict_reverseitemiterator", "odict_iterator", "itertools.zip_longest", "itertools.pairwise"].contains n = false) (hQ : Q () s) : wpAny M A (letOwnedTupleGo tg (.ref it) u) Q E s := by
  unfold letOwnedTupleGo
  cases tg <;> first
    | exact wpAny_pure hQ
    | (cases u <;> first
        | exact wpAny_pure hQ
        | (refine wpAny_bind (wpAny_load ho ?_)
           rw [hc, hd]
           show wpAny M A (if (["enumerate", "zip", "dict_itemiterator", "dict_reverseitemiterator", "odict_iterator", "itertools.zip_longest", "itertools.pairwise"].contains n && vs[0]? == some (rawInt _)) = true then _ else _) Q E s
           rw [if_neg (by intro h; rw [hn, Bool.false_and] at h; cases h)]
           exact wpAny_pure hQ))
def Itl (K : PySem.W.Frag) (a : Addr) : It :=
 ⟨fun i H => ∃ xs x, SqL K H a xs /\ xs[i]? = some x, fun i H x H' => H' = H /\ ∀ xs, SqL K H a xs -> xs[i]? = some x, fun i H => ∃ xs, SqL K H a xs /\ xs.length <= i⟩
def Itt (K : PySem.W.Frag) (a : Addr) : It :=
 ⟨fun i H => ∃ xs x, SqT K H a xs /\ xs[i]? = some x, fun i H x H' => H' = H /\ ∀ xs, SqT K H a xs -> xs[i]? = some x, fun i H => ∃ xs, SqT K H a xs /\ xs.length <= i⟩
def Itr (lo : Int) (n : Nat) : It := ⟨fun i _ => i < n, fun i H x H' => H' = H /\ x = .int (lo + i), fun i _ => n <= i⟩
theorem ziL {P : Program} {w : World} {K : PySem.W.Frag} {tg : Expr} (a it : Addr) : Turn P w K tg (Itl K a) [it] it (fun i h => h.IsListIter it a i) where
 mem := by simp
 obj := fun i h st b hb => by
  have e : b = it := by simpa using hb
  subst e
  obtain ⟨o, e, c, d⟩ := st
  exact ⟨o, e, fun v z => by rw [d] at z; cases z⟩
 keep := fun i h h' st k => st.at fun o e => k it (by simp) o e
 item := by
  intro X hP hw hK hc i pins s σ H E I hf st hg
  subst hP hw hK
  obtain ⟨xs, x, hq, hx⟩ := hg
  obtain ⟨its, rv, p, hz⟩ := I.list hq
  obtain ⟨u, hu, ru⟩ := rv.get hx
  obtain ⟨f0, f1, f2, f3, f4, f5⟩ := hf it (by simp)
  refine wpAny_pyNext_list_item st p.isList (x := u) (by simpa using hu) fun h' st' sb => ?_
  have I1 : Inv X pins σ H { s with heap := h' } := I.turned (t' := s.toks) (fun b o hb e => (sb.2 b hb).trans e) f0 f1 f3 f4 f5
  obtain ⟨o, e, c, d⟩ := id st'
  exact ⟨u, rfl, zlE (s := { s with heap := h' }) e c d (by decide) ⟨x, H, I1, ru, ⟨rfl, fun ys hy => by rw [I.list_inj hy hq]; exact hx⟩, st', fun b hb => (hf b hb).1⟩⟩
 done := by
  intro X hP hw hK hc i pins s σ H E I hf st hg
  subst hP hw hK
  obtain ⟨xs, hq, hx⟩ := hg
  obtain ⟨its, rv, p, hz⟩ := I.list hq
  obtain ⟨f0, f1, f2, f3, f4, f5⟩ := hf it (by simp)
  have hl := rv.length
  exact wpAny_pyNext_list_end (I.ok.hd hc) st p.isList (by simp; omega) fun h' eb => ⟨rfl, I.turned (t' := s.toks) (fun b o hb e => eb b o hb e) f0 f1 f3 f4 f5⟩
 self := fun _ _ _ _ _ st h => wpAny_pyIter_listiter st h
theorem zhV {P : Program} {w : World} {K : PySem.W.Frag} {tg : Expr} (a it : Addr) : Turn P w K tg (Itt K a) [it] it (fun i h => h.IsTupleIter it a i) where
 mem := by simp
 obj := fun i h st b hb => by
  have e : b = it := by simpa using hb
  subst e
  obtain ⟨o, e, c, d⟩ := st
  exact ⟨o, e, fun v z => by rw [d] at z; cases z⟩
 keep := fun i h h' st k => st.at fun o e => k it (by simp) o e
 item := by
  intro X hP hw hK hc i pins s σ H E I hf st hg
  subst hP hw hK
  obtain ⟨xs, x, hq, hx⟩ := hg
  obtain ⟨its, rv, p, hz⟩ := I.tuple hq
  obtain ⟨u, hu, ru⟩ := rv.get hx
  obtain ⟨f0, f1, f2, f3, f4, f5⟩ := hf it (by simp)
  refine wpAny_pyNext_tuple_item st (show s.heap.IsTuple a its.toArray from p) (x := u) (by simpa using hu) fun h' st' sb => ?_
  have I1 : Inv X pins σ H { s with heap := h' } := I.turned (t' := s.toks) (fun b o hb e => (sb.2 b hb).trans e) f0 f1 f3 f4 f5
  obtain ⟨o, e, c, d⟩ := id st'
  exact ⟨u, rfl, zlE (s := { s with heap := h' }) e c d (by decide) ⟨x, H, I1, ru, ⟨rfl, fun ys hy => by rw [I.tuple_inj hy hq]; exact hx⟩, st', fun b hb => (hf b hb).1⟩⟩
 done := by
  intro X hP hw hK hc i pins s σ H E I hf st hg
  subst hP hw hK
  obtain ⟨xs, hq, hx⟩ := hg
  obtain ⟨its, rv, p, hz⟩ := I.tuple hq
  obtain ⟨f0, f1, f2, f3, f4, f5⟩ := hf it (by simp)
  have hl := rv.length
  exact wpAny_pyNext_tuple_end (I.ok.hd hc) st (show s.heap.IsTuple a its.toArray from p) (by simp; omega) fun h' eb => ⟨rfl, I.turned (t' := s.toks) (fun b o hb e => eb b o hb e) f0 f1 f3 f4 f5⟩
 self := fun _ _ _ _ _ st h => wpAny_pyIter_tupleiter st h
theorem zhW {P : Program} {w : World} {K : PySem.W.Frag} {tg : Expr} (it : Addr) (lo : Int) (n : Nat) : Turn P w K tg (Itr lo n) [it] it (fun i h => IsRangeIter h it (lo + (i : Nat) * 1) ((n : Int) - (i : Nat)) 1) where
 mem := by simp
 obj := fun i h st b hb => by
  have e : b = it := by simpa using hb
  subst e
  exact ⟨_, st, fun v z => by
   have z' : Data.fields _ = Data.cell v := z
   cases z'⟩
 keep := fun i h h' st k => k it (by simp) _ st
 item := by
  intro X hP hw hK hc i pins s σ H E I hf st hg
  subst hP hw hK
  obtain ⟨f0, f1, f2, f3, f4, f5⟩ := hf it (by simp)
  have W := Walks.range (prog := X.prog) (w := X.w) (I.ok.hd hc) it lo 1 n
  refine W.item i s _ _ hg st fun v h' tk hv st' kk => ?_
  obtain ⟨t, rfl⟩ := hv
  have I1 : Inv X pins σ H { s with heap := h', toks := tk } := I.turned (fun b o hb e => kk b o (by simpa using hb) e) f0 f1 f3 f4 f5
  refine ⟨_, rfl, zlE (s := { s with heap := h', toks := tk }) (n := "range_iterator") st' rfl rfl (by decide) ⟨.int (lo + i), H, I1, ⟨t, ?_⟩, ⟨rfl, rfl⟩, st', fun b hb => (hf b hb).1⟩⟩
  rw [Int.mul_one]
 done := by
  intro X hP hw hK hc i pins s σ H E I hf st hg
  subst hP hw hK
  obtain ⟨f0, f1, f2, f3, f4, f5⟩ := hf it (by simp)
  exact wpAny_pyNext_range_end (I.ok.hd hc) st (by have : n <= i := hg; omega) fun h' eb => ⟨rfl, I.turned (t' := s.toks) (fun b o hb e => eb b o hb e) f0 f1 f3 f4 f5⟩
 self := fun _ _ _ _ _ st h => wpAny_pyIter_rangeiter st h
section
variable {X : Cx} {tg : Expr}
def iList (K : PySem.W.Frag) (tl : TE) : TI := fun σ H R => tl σ H fun x H1 => ∃ a, x = .ref a /\ (∃ xs, SqL K H1 a xs) /\ R (Itl K a) H1
def iTup (K : PySem.W.Frag) (tl : TE) : TI := fun σ H R => tl σ H fun x H1 => ∃ a, x = .ref a /\ (∃ xs, SqT K H1 a xs) /\ R (Itt K a) H1
theorem zna {l : Expr} {tl : TE} (hl : PE X l tl) : PI X tg l (iList X.K tl) := by
 intro pins s σ H R I h
 refine thn (hl pins s σ H _ I h) fun v s1 ⟨x, H1, I1, r1, q1⟩ => ?_
 obtain ⟨a, e, ⟨xs, hq⟩, q⟩ := q1
 subst e
 cases r1
 obtain ⟨its, rv, p, hz⟩ := I1.list hq
 refine wpAny_pyIter_list p.isList ?_
 refine ⟨s1.heap.objs.size, [s1.heap.objs.size], _, _, H1, rfl, I1.kept (t' := s1.toks) fun b o e => Heap.get?_push_of_some _ e, ziL a _, ⟨_, Heap.get?_push_size _ rfl, rfl, rfl⟩, fun b hb => ?_, q⟩
 have e : b = s1.heap.objs.size := by simpa using hb
 subst e
 exact I1.fpOk (Nat.le_refl _) (I1.hok.fresh (Nat.le_refl _))
theorem pi_tup {l : Expr} {tl : TE} (hl : PE X l tl) : PI X tg l (iTup X.K tl) := by
 intro pins s σ H R I h
 refine thn (hl pins s σ H _ I h) fun v s1 ⟨x, H1, I1, r1, q1⟩ => ?_
 obtain ⟨a, e, ⟨xs, hq⟩, q⟩ := q1
 subst e
 cases r1
 obtain ⟨its, rv, p, hz⟩ := I1.tuple hq
 refine wpAny_pyIter_tuple (show s1.heap.IsTuple a its.toArray from p) ?_
 refine ⟨s1.heap.objs.size, [s1.heap.objs.size], _, _, H1, rfl, I1.kept (t' := s1.toks) fun b o e => Heap.get?_push_of_some _ e, zhV a _, ⟨_, Heap.get?_push_size _ rfl, rfl, rfl⟩, fun b hb => ?_, q⟩
 have e : b = s1.heap.objs.size := by simpa using hb
 subst e
 exact I1.fpOk (Nat.le_refl _) (I1.hok.fresh (Nat.le_refl _))
theorem zk1 {pins : List (Addr × Obj)} {σ : St} {H : Hp} {s : Shared} {R : It -> Hp -> Prop} {E : Value -> Shared -> Prop} {lo hi : Int} {t u v : Tok} {tk : Nat} (I : Inv X pins σ H s) (h1 : -(2 ^ 62) <= lo) (h2 : lo < 2 ^ 62) (h3 : -(2 ^ 62) <= hi) (h4 : hi < 2 ^ 62)
  (q : R (Itr lo (hi - lo).toNat) H) : wpAny (model X.prog X.w) X.A (pyIter (.ref s.heap.objs.size)) (PIE X pins σ tg R) E { s with heap := s.heap.push { cls := .type "range", data := .fields #[.int lo t, .int hi u, .int 1 v] }, toks := tk } := by
 refine wpAny_pyIter_range (IsRange.new ..) (small_one h1 h2 h3 h4) ?_
 have I1 : Inv X pins σ H { s with heap := s.heap.push { cls := .type "range", data := .fields #[.int lo t, .int hi u, .int 1 v] }, toks := tk } := I.kept fun b o e => Heap.get?_push_of_some _ e
 refine ⟨(s.heap.push { cls := .type "range", data := .fields #[.int lo t, .int hi u, .int 1 v] }).objs.size, [(s.heap.push { cls := .type "range", data := .fields #[.int lo t, .int hi u, .int 1 v] }).objs.size], _, _, H, rfl,
  I1.kept (t' := tk) fun b o e => Heap.get?_push_of_some _ e, zhW _ lo (hi - lo).toNat, ?_, fun b hb => ?_, q⟩
 ·have e1 : lo + ((0 : Nat) : Int) * 1 = lo := by simp
  have e2 : (((hi - lo).toNat : Nat) : Int) - ((0 : Nat) : Int) = Builtin.Range.rangeSize lo hi 1 := by rw [rangeSize_one]; split <;> omega
  show IsRangeIter _ _ (lo + ((0 : Nat) : Int) * 1) ((((hi - lo).toNat : Nat) : Int) - ((0 : Nat) : Int)) 1
  rw [e1, e2]
  exact Heap.get?_push_size _ rfl
 ·have e : b = (s.heap.push { cls := .type "range", data := .fields #[.int lo t, .int hi u, .int 1 v] }).objs.size := by simpa using hb
  subst e
  exact I1.fpOk (Nat.le_refl _) (I1.hok.fresh (Nat.le_refl _))
def iRng1 (ta : TA) : TI := fun σ H R => ta σ H fun vs H1 => ∃ j : Int, vs = [.int j] /\ -(2 ^ 62) <= j /\ j < 2 ^ 62 /\ R (Itr 0 j.toNat) H1
theorem zjt {a : Expr} {ta : TA} {p pos : Pos} (hg : Gl X "range") (hm : X.mg "range" = none) (ha : PA X [a] ta) (hs : autoParam (starEach [a] X.env = [(false, eval a X.env)]) AutoP.a3._auto_1) : PI X tg (.Call (.Name "range" p) [a] [] pos) (iRng1 ta) := by
 intro pins s σ H R I h
 refine Call_ (zcV I hg hm boot_range (PyProof.Rows.callWith_type1 (thn (ha pos pins s σ H _ I h) fun us s1 ⟨vs, H1, I1, r1, q1⟩ => ?_) hs rfl))
 obtain ⟨j, e, q1, q2, q⟩ := q1
 subst e
 cases r1 with
 | cons r rr =>
  cases rr
  obtain ⟨t, rfl⟩ := r
  exact call_range_1 (zk1 I1 (by omega) (by omega) q1 q2 (by simpa using q))
def tFor (wi : TI) (g : TG) (tb : TS) : TS := fun D σ H => wi σ H fun J H1 => ∃ W : Nat -> Nat -> St -> Hp -> Prop, (∃ m, W 0 m σ H1) /\ ∀ i m σ H, W i m σ H →
 (J.stop i H /\ D.nx σ H) ∨ (J.go i H /\ ∃ N : St -> Hp -> Prop, (∀ σ' H', N σ' H' -> ∃ m', m' < m /\ W (i + 1) m' σ' H') /\ ∀ x H', J.yld i H x H' -> g x σ H' fun σ2 H2 => tb { D with nx := N, ct := N, bk := D.nx } σ2 H2)
def zct (fp : List Addr) (h : Heap) : List (Addr × Obj) := fp.filterMap fun b => (h.get? b).map fun o => (b, o)
theorem zb2 {fp : List Addr} {h : Heap} {b : Addr} {o : Obj} (hb : b ∈ fp) (e : h.get? b = some o) : (b, o) ∈ zct fp h := List.mem_filterMap.mpr ⟨b, hb, by rw [e]; rfl⟩
theorem zft {fp : List Addr} {h : Heap} {p : Addr × Obj} (hp : p ∈ zct fp h) : p.1 ∈ fp /\ h.get? p.1 = some p.2 := by
 obtain ⟨b, hb, e⟩ := List.mem_filterMap.mp hp
 cases q : h.get? b with
 | none => rw [q] at e; cases e
 | some o =>
  rw [q] at e
  have e' : (b, o) = p := Option.some.inj e
  subst e'
  exact ⟨hb, q⟩
theorem Inv.pinned {pins : List (Addr × Obj)} {σ : St} {H : Hp} {s : Shared} {fp : List Addr} (I : Inv X pins σ H s) (hf : ∀ b ∈ fp, zd1 X pins H b) (ho : ∀ b ∈ fp, ∃ o, s.heap.get? b = some o /\ ∀ v, o.data ≠ .cell v) : Inv X (pins ++ zct fp s.heap) σ H s :=
 I.pins_of fun p hp => (List.mem_append.mp hp).elim (fun z => I.pin p (List.mem_append_right _ z)) fun z => by
  obtain ⟨hb, e⟩ := zft z
  obtain ⟨f0, f1, f2, _⟩ := hf p.1 hb
  obtain ⟨o, e', d⟩ := ho p.1 hb
  rw [e] at e'; cases e'
  exact ⟨e, f0, f1, f2, d⟩
theorem Inv.unpinned {pins pl : List (Addr × Obj)} {σ : St} {H : Hp} {s : Shared} (I : Inv X (pins ++ pl) σ H s) : Inv X pins σ H s := I.pins_of fun p hp => I.pin p (List.mem_append_right _ (List.mem_append_left _ hp))
theorem ps_for {iter : Expr} {body : List Stmt} {wi : TI} {g : TG} {tb : TS} {pos : Pos} (hp : PassesOwn (model X.prog X.w) X.A X.env X.xe) (hc : X.calm = true) (hi : PI X tg iter wi) (hg : PG X tg g) (hb : PSs X body tb)
  (hs : autoParam (∀ x, foldedSetIterable iter X.env x = pure x) AutoP.a2._auto_1) : PS X (.For tg iter body [] pos) (tFor wi g tb) := by
 intro pins s σ H D I h
 refine wpAny_For (thn (hi pins s σ H _ I h) fun v s1 h1 => thn h1 fun itv s2 h2 => ?_) hs
 obtain ⟨it, fp, tn, J, H2, e, I2, T, st2, f2, W, ⟨m0, w0⟩, turn⟩ := h2
 subst e
 have stat : ∀ {H' : Hp}, (∀ b ∈ fp, H' b = none) -> ∀ b ∈ fp, zd1 X pins H' b := fun hn b hb => ⟨hn b hb, (f2 b hb).2⟩
 refine codeAny_forLoop_any (fun n s' => ∃ i σ' H', Inv X pins σ' H' s' /\ tn i s'.heap /\ (∀ b ∈ fp, H' b = none) /\ W i n σ' H') ?_ m0 ⟨0, σ, H2, I2, st2, fun b hb => (f2 b hb).1, w0⟩
 rintro n s3 ⟨i, σ3, H3, I3, st3, fr3, w3⟩
 rcases turn i n σ3 H3 w3 with ⟨stop, qn⟩ | ⟨go, N, hN, step⟩
 ·refine wpAny_passesOwn hp (thn (T.done X rfl rfl rfl hc i pins s3 σ3 H3 X.xe I3 (stat fr3) st3 stop) fun r s4 ⟨hr, I4⟩ => ?_)
  subst hr
  exact wpAny_execs_nil ⟨σ3, H3, I4, qn⟩
 ·refine wpAny_passesOwn hp (thn (T.item X rfl rfl rfl hc i pins s3 σ3 H3 X.xe I3 (stat fr3) st3 go) fun r s4 ⟨u, hr, h4⟩ => ?_)
  subst hr
  refine wpAny_passesOwn hp (thn h4 fun _ s5 ⟨x, H5, I5, r5, y5, st5, fr5⟩ => ?_)
  have I5' := I5.pinned (stat fr5) (T.obj _ _ st5)
  refine wpAny_passesOwn hp (thn (hg _ s5 σ3 H5 x u _ I5' r5 (step x H5 y5)) fun _ s6 ⟨σ6, H6, I6, q6⟩ => ?_)
  refine wpAny_passesOwn hp (thn (hb _ s6 σ6 H6 _ I6 q6) fun f s7 q7 => ?_)
  have again : ∀ {σ7 : St} {H7 : Hp}, Inv X (pins ++ zct fp s5.heap) σ7 H7 s7 -> N σ7 H7 -> ∃ m, m < n /\ ∃ i σ' H', Inv X pins σ' H' s7 /\ tn i s7.heap /\ (∀ b ∈ fp, H' b = none) /\ W i m σ' H' := fun {σ7 H7} I7 n7 => by
   obtain ⟨m', hm, w7⟩ := hN σ7 H7 n7
   refine ⟨m', hm, i + 1, σ7, H7, I7.unpinned, T.keep _ _ _ st5 fun b hb o e => (I7.pin (b, o) (List.mem_append_right _ (List.mem_append_right _ (zb2 hb e)))).1, fun b hb => ?_, w7⟩
   obtain ⟨o, e, d⟩ := T.obj _ _ st5 b hb
   exact (I7.pin (b, o) (List.mem_append_right _ (List.mem_append_right _ (zb2 hb e)))).2.1
  cases f with
  | next => obtain ⟨σ7, H7, I7, n7⟩ := q7; exact again I7 n7
  | cont => obtain ⟨σ7, H7, I7, n7⟩ := q7; exact again I7 n7
  | brk => obtain ⟨σ7, H7, I7, q7⟩ := q7; exact ⟨σ7, H7, I7.unpinned, q7⟩
  | ret v => obtain ⟨x7, σ7, H7, I7, r7, q7⟩ := q7; exact ⟨x7, σ7, H7, I7.unpinned, r7, q7⟩
end
abbrev R2 := V -> V -> Hp -> VK -> Prop
def OpR (X : Cx) (f : Value -> Value -> Sem Value) (r : R2) : Prop :=
 ∀ (pins : List (Addr × Obj)) (s : Shared) (σ : St) (H : Hp) (x y : V) (v u : Value) (Q : VK), Inv X pins σ H s -> RelV x v -> RelV y u -> r x y H Q →
  wpAny (model X.prog X.w) X.A (f v u) (EP X pins σ Q) X.xe s
def UnR (X : Cx) (f : Value -> Sem Value) (r : V -> Hp -> VK -> Prop) : Prop :=
 ∀ (pins : List (Addr × Obj)) (s : Shared) (σ : St) (H : Hp) (x : V) (v : Value) (Q : VK), Inv X pins σ H s -> RelV x v -> r x H Q →
  wpAny (model X.prog X.w) X.A (f v) (EP X pins σ Q) X.xe s
def CallR (X : Cx) (f : Value) (r : List V -> Hp -> VK -> Prop) : Prop :=
 ∀ (pins : List (Addr × Obj)) (s : Shared) (σ : St) (H : Hp) (xs : List V) (us : List Value) (Q : VK), Inv X pins σ H s -> Vals xs us -> r xs H Q →
  wpAny (model X.prog X.w) X.A (call f us) (EP X pins σ Q) X.xe s
def tOp (r : R2) (ta tb : TE) : TE := fun σ H Q => ta σ H fun x H1 => tb σ H1 fun y H2 => r x y H2 Q
def tUn (r : V -> Hp -> VK -> Prop) (ta : TE) : TE := fun σ H Q => ta σ H fun x H1 => r x H1 Q
def rI (C : Int -> Int -> Prop) (g : Int -> Int -> V) : R2 := fun x y H Q => ∃ i j, x = .int i /\ y = .int j /\ C i j /\ Q (g i j) H
def rI0 (g : Int -> Int -> V) : R2 := fun x y H Q => ∃ i j, x = .int i /\ y = .int j /\ Q (g i j) H
def rU (g : Int -> V) : V -> Hp -> VK -> Prop := fun x H Q => ∃ i, x = .int i /\ Q (g i) H
section
variable {X : Cx} {a b c : Expr} {ta tb tc : TE} {pos : Pos}
theorem binT (ha : PE X a ta) (hb : PE X b tb) {pins : List (Addr × Obj)} {s : Shared} {σ : St} {H : Hp} {R : V -> V -> Hp -> Prop} (I : Inv X pins σ H s)
  (h : ta σ H fun x H1 => tb σ H1 fun y H2 => R x y H2) {Q : Value -> Shared -> Prop} {f : Value -> Value -> Sem Value}
  (hf : ∀ v u s2 x y H2, Inv X pins σ H2 s2 -> RelV x v -> RelV y u -> R x y H2 -> wpAny (model X.prog X.w) X.A (f v u) Q X.xe s2) :
  wpAny (model X.prog X.w) X.A (eval a X.env) (fun v s₁ => wpAny (model X.prog X.w) X.A (eval b X.env) (fun u s₂ => wpAny (model X.prog X.w) X.A (f v u) Q X.xe s₂) X.xe s₁) X.xe s := by
 refine thn (ha pins s σ H _ I h) fun v s1 ⟨x, H1, I1, r1, q1⟩ => ?_
 refine thn (hb pins s1 σ H1 _ I1 q1) fun u s2 ⟨y, H2, I2, r2, q2⟩ => ?_
 exact hf v u s2 x y H2 I2 r1 r2 q2
theorem pe_op {op : Operator} {r : R2} (ho : OpR X (binaryOp op) r) (ha : PE X a ta) (hb : PE X b tb) : PE X (.BinOp a op b pos) (tOp r ta tb) := by
 intro pins s σ H Q I h
 exact wpAny_BinOp (binT ha hb I h fun v u s2 x y H2 I2 rx ry q => ho pins s2 σ H2 x y v u Q I2 rx ry q)
theorem pe_un {op : UnaryOp} {r : V -> Hp -> VK -> Prop} (ho : UnR X (unaryOp op) r) (ha : PE X a ta) : PE X (.UnaryOp op a pos) (tUn r ta) := by
 intro pins s σ H Q I h
 exact UnaryOp_ (thn (ha pins s σ H _ I h) fun v s1 ⟨x, H1, I1, r1, q1⟩ => ho pins s1 σ H1 x v Q I1 r1 q1)
theorem opI {f : Value -> Value -> Sem Value} {C : Int -> Int -> Prop} {g : Int -> Int -> Int}
  (rule : ∀ (i j : Int) (t u : Tok) (s : Shared) (Q : Value -> Shared -> Prop) (E : Value -> Shared -> Prop), C i j -> Q (.int (g i j) s.toks) { s with toks := s.toks + 1 } -> wpAny (model X.prog X.w) X.A (f (.int i t) (.int j u)) Q E s) :
  OpR X f (rI C fun i j => .int (g i j)) := by
 intro pins s σ H x y v u Q I rx ry h
 obtain ⟨i, j, rfl, rfl, hc, q⟩ := h
 obtain ⟨t, rfl⟩ := rx
 obtain ⟨t', rfl⟩ := ry
 exact rule i j t t' s _ _ hc ⟨.int (g i j), H, I.tok _, ⟨_, rfl⟩, q⟩
theorem opI0 {f : Value -> Value -> Sem Value} {g : Int -> Int -> Int}
  (rule : ∀ (i j : Int) (t u : Tok) (s : Shared) (Q : Value -> Shared -> Prop) (E : Value -> Shared -> Prop), Q (.int (g i j) s.toks) { s with toks := s.toks + 1 } -> wpAny (model X.prog X.w) X.A (f (.int i t) (.int j u)) Q E s) :
  OpR X f (rI0 fun i j => .int (g i j)) := by
 intro pins s σ H x y v u Q I rx ry h
 obtain ⟨i, j, rfl, rfl, q⟩ := h
 obtain ⟨t, rfl⟩ := rx
 obtain ⟨t', rfl⟩ := ry
 exact rule i j t t' s _ _ ⟨.int (g i j), H, I.tok _, ⟨_, rfl⟩, q⟩
theorem opB0 {f : Value -> Value -> Sem Value} {g : Int -> Int -> Bool}
  (rule : ∀ (i j : Int) (t u : Tok) (s : Shared) (Q : Value -> Shared -> Prop) (E : Value -> Shared -> Prop), Q (.bool (g i j)) s -> wpAny (model X.prog X.w) X.A (f (.int i t) (.int j u)) Q E s) :
  OpR X f (rI0 fun i j => .bl (g i j)) := by
 intro pins s σ H x y v u Q I rx ry h
 obtain ⟨i, j, rfl, rfl, q⟩ := h
 obtain ⟨t, rfl⟩ := rx
 obtain ⟨t', rfl⟩ := ry
 exact rule i j t t' s _ _ ⟨.bl (g i j), H, I, rfl, q⟩
def CPow (i j : Int) : Prop := 0 <= j /\ j <= 1000000 /\ i.natAbs < 2 ^ 64
def CMul (i j : Int) : Prop := (-(2 ^ 64) < i /\ i < 2 ^ 64) ∨ (-(2 ^ 64) < j /\ j < 2 ^ 64)
theorem CMul.ok {i j : Int} (h : CMul i j) : IntMulOk i j := by
 rcases h with ⟨h1, h2⟩ | ⟨h1, h2⟩
 ·exact .of_left (intBits_le_64 h1 h2)
 ·exact .of_right (intBits_le_64 h1 h2)
theorem op_add : OpR X (binaryOp .Add) (rI0 fun i j => .int (i + j)) := opI0 fun _ _ _ _ _ _ _ q => add_int q
theorem zea : OpR X (binaryOp .Sub) (rI0 fun i j => .int (i - j)) := opI0 fun _ _ _ _ _ _ _ q => sub_int q
theorem op_mul : OpR X (binaryOp .Mult) (rI CMul fun i j => .int (i * j)) := opI fun _ _ _ _ _ _ _ hc q => mul_int q hc.ok
theorem zbI : OpR X (binaryOp .Mod) (rI (fun _ j => 0 < j) fun i j => .int (i % j)) := opI fun i j _ _ _ _ _ hc q => by
 have h1 : (0 : Int) < j := hc
 exact mod_int' (by omega) (by rw [Int.fmod_eq_emod_of_nonneg i (by omega)]; exact q)
theorem zcv : OpR X (binaryOp .Pow) (rI CPow fun i j => .int (i ^ j.toNat)) := opI fun _ _ _ _ _ _ _ hc q => pow_int_small hc.1 hc.2.1 hc.2.2 q
theorem zfp : OpR X (binaryOp .LShift) (rI CPow fun i j => .int (i * 2 ^ j.toNat)) := opI fun _ _ _ _ _ _ _ hc q => lshift_int_small hc.1 hc.2.1 hc.2.2 q
theorem unI {f : Value -> Sem Value} {g : Int -> Int}
  (rule : ∀ (i : Int) (t : Tok) (s : Shared) (Q : Value -> Shared -> Prop) (E : Value -> Shared -> Prop), Q (.int (g i) s.toks) { s with toks := s.toks + 1 } -> wpAny (model X.prog X.w) X.A (f (.int i t)) Q E s) :
  UnR X f (rU fun i => .int (g i)) := by
 intro pins s σ H x v Q I rx h
 obtain ⟨i, rfl, q⟩ := h
 obtain ⟨t, rfl⟩ := rx
 exact rule i t s _ _ ⟨.int (g i), H, I.tok _, ⟨_, rfl⟩, q⟩
theorem zlS : UnR X (unaryOp .USub) (rU fun i => .int (-i)) := unI fun _ _ _ _ _ q => neg_int q
end
def scal : V -> V -> Bool
 | .non, .non => true | .non, .int _ => true | .int _, .non => true | .non, .bl _ => true | .bl _, .non => true | .non, .str _ => true | .str _, .non => true
 | .int _, .int _ => true | .bl _, .bl _ => true | .str _, .str _ => true | .byt _, .byt _ => true
 | .int _, .str _ => true | .str _, .int _ => true | .bl _, .str _ => true | .str _, .bl _ => true
 | _, _ => false
def rEq : R2 := fun x y H Q => scal x y = true /\ Q (.bl (decide (x = y))) H
def rNe : R2 := fun x y H Q => scal x y = true /\ Q (.bl (!decide (x = y))) H
theorem zkt {i j : Int} : decide (V.int i = V.int j) = (i == j) := by
 rw [Bool.eq_iff_iff]
 simp
theorem zml {i j : Bool} : decide (V.bl i = V.bl j) = (i == j) := by
 rw [Bool.eq_iff_iff]
 simp
theorem zks {i j : Str} : decide (V.str i = V.str j) = (i == j) := by
 rw [Bool.eq_iff_iff]
 simp
theorem zku {i j : Array UInt8} : decide (V.byt i = V.byt j) = (i.toList == j.toList) := by
 rw [Bool.eq_iff_iff]
 cases i
 cases j
 simp
section
variable {X : Cx} {a b c : Expr} {ta tb tc : TE} {pos : Pos}
theorem zay {pins : List (Addr × Obj)} {σ : St} {H : Hp} {s : Shared} {Q : VK} {k k' : Bool} (I : Inv X pins σ H s) (q : Q (.bl k) H) (e : k = k') : EP X pins σ Q (.bool k') s := by
 subst e
 exact ⟨.bl k, H, I, rfl, q⟩
theorem op_eq : OpR X (compareOp .Eq) rEq := by
 intro pins s σ H x y v u Q I rx ry h
 obtain ⟨hs, q⟩ := h
 cases x with
 | non =>
  cases rx
  cases y with
  | non => cases ry; exact PySem.EqNone.eq_none_none (zay I q (by simp))
  | bl j => cases ry; exact PySem.EqNone.eq_none_bool (zay I q (by simp))
  | int j => obtain ⟨t', rfl⟩ := ry; exact PySem.EqNone.eq_none_int (zay I q (by simp))
  | str j => obtain ⟨t', rfl⟩ := ry; exact PySem.EqNone.eq_none_str (zay I q (by simp))
  | _ => exact absurd (show false = true from hs) Bool.false_ne_true
 | bl i =>
  cases rx
  cases y with
  | non => cases ry; exact PySem.EqNone.eq_bool_none (zay I q (by simp))
  | bl j => cases ry; exact eq_bool (zay I q zml)
  | str j => obtain ⟨t', rfl⟩ := ry; exact PySem.EqMixed.eq_bool_str (zay I q (by simp))
  | _ => exact absurd (show false = true from hs) Bool.false_ne_true
 | int i =>
  obtain ⟨t, rfl⟩ := rx
  cases y with
  | non => cases ry; exact PySem.EqNone.eq_int_none (zay I q (by simp))
  | int j => obtain ⟨t', rfl⟩ := ry; exact eq_int (zay I q zkt)
  | str j => obtain ⟨t', rfl⟩ := ry; exact PySem.EqMixed.eq_int_str (zay I q (by simp))
  | _ => exact absurd (show false = true from hs) Bool.false_ne_true
 | str i =>
  obtain ⟨t, rfl⟩ := rx
  cases y with
  | non => cases ry; exact PySem.EqNone.eq_str_none (zay I q (by simp))
  | bl j => cases ry; exact PySem.EqMixed.eq_str_bool (zay I q (by simp))
  | int j => obtain ⟨t', rfl⟩ := ry; exact PySem.EqMixed.eq_str_int (zay I q (by simp))
  | str j => obtain ⟨t', rfl⟩ := ry; exact eq_str (zay I q zks)
  | _ => exact absurd (show false = true from hs) Bool.false_ne_true
 | byt i =>
  obtain ⟨t, rfl⟩ := rx
  cases y with
  | byt j => obtain ⟨t', rfl⟩ := ry; exact PySem.W.eq_bytes (zay I q zku)
  | _ => exact absurd (show false = true from hs) Bool.false_ne_true
 | _ => cases y <;> exact absurd (show false = true from hs) Bool.false_ne_true
theorem op_ne : OpR X (compareOp .NotEq) rNe := by
 intro pins s σ H x y v u Q I rx ry h
 obtain ⟨hs, q⟩ := h
 cases x with
 | non =>
  cases rx
  cases y with
  | non => cases ry; exact PySem.EqNone.ne_none_none (zay I q (by simp))
  | bl j => cases ry; exact PySem.EqNone.ne_none_bool (zay I q (by simp))
  | int j => obtain ⟨t', rfl⟩ := ry; exact PySem.EqNone.ne_none_int (zay I q (by simp))
  | str j => obtain ⟨t', rfl⟩ := ry; exact PySem.EqNone.ne_none_str (zay I q (by simp))
  | _ => exact absurd (show false = true from hs) Bool.false_ne_true
 | bl i =>
  cases rx
  cases y with
  | non => cases ry; exact PySem.EqNone.ne_bool_none (zay I q (by simp))
  | bl j => cases ry; exact ne_bool (zay I q (congrArg not zml))
  | str j => obtain ⟨t', rfl⟩ := ry; exact PySem.EqMixed.ne_bool_str (zay I q (by simp))
  | _ => exact absurd (show false = true from hs) Bool.false_ne_true
 | int i =>
  obtain ⟨t, rfl⟩ := rx
  cases y with
  | non => cases ry; exact PySem.EqNone.ne_int_none (zay I q (by simp))
  | int j => obtain ⟨t', rfl⟩ := ry; exact ne_int (zay I q (congrArg not zkt))
  | str j => obtain ⟨t', rfl⟩ := ry; exact PySem.EqMixed.ne_int_str (zay I q (by simp))
  | _ => exact absurd (show false = true from hs) Bool.false_ne_true
 | str i =>
  obtain ⟨t, rfl⟩ := rx
  cases y with
  | non => cases ry; exact PySem.EqNone.ne_str_none (zay I q (by simp))
  | bl j => cases ry; exact PySem.EqMixed.ne_str_bool (zay I q (by simp))
  | int j => obtain ⟨t', rfl⟩ := ry; exact PySem.EqMixed.ne_str_int (zay I q (by simp))
  | str j => obtain ⟨t', rfl⟩ := ry; exact ne_str (zay I q (congrArg not zks))
  | _ => exact absurd (show false = true from hs) Bool.false_ne_true
 | byt i =>
  obtain ⟨t, rfl⟩ := rx
  cases y with
  | byt j => obtain ⟨t', rfl⟩ := ry; exact PySem.W.ne_bytes (zay I q (congrArg not zku))
  | _ => exact absurd (show false = true from hs) Bool.false_ne_true
 | _ => cases y <;> exact absurd (show false = true from hs) Bool.false_ne_true
theorem op_lt : OpR X (compareOp .Lt) (rI0 fun i j => .bl (decide (i < j))) := opB0 fun _ _ _ _ _ _ _ q => lt_int q
theorem op_le : OpR X (compareOp .LtE) (rI0 fun i j => .bl (decide (i <= j))) := opB0 fun _ _ _ _ _ _ _ q => le_int q
theorem op_gt : OpR X (compareOp .Gt) (rI0 fun i j => .bl (decide (j < i))) := opB0 fun _ _ _ _ _ _ _ q => gt_int q
theorem op_ge : OpR X (compareOp .GtE) (rI0 fun i j => .bl (decide (j <= i))) := opB0 fun _ _ _ _ _ _ _ q => ge_int q
theorem zjx : OpR X (compareOp .Lt) (fun x y H Q => ∃ i j, x = .str i /\ y = .str j /\ Q (.bl (decide (i.cps.toList < j.cps.toList))) H) := by
 intro pins s σ H x y v u Q I rx ry h
 obtain ⟨i, j, rfl, rfl, q⟩ := h
 obtain ⟨t, rfl⟩ := rx
 obtain ⟨t', rfl⟩ := ry
 exact lt_str (zay I q rfl)
theorem zjz : OpR X (compareOp .In) (fun x y H Q => ∃ i j, x = .str i /\ y = .str j /\ Q (.bl (!(Builtin.Str.occurrences j i 0 j.length 1).isEmpty)) H) := by
 intro pins s σ H x y v u Q I rx ry h
 obtain ⟨i, j, rfl, rfl, q⟩ := h
 obtain ⟨t, rfl⟩ := rx
 obtain ⟨t', rfl⟩ := ry
 exact in_str (zay I q rfl)
theorem op_isN : OpR X (compareOp .Is) (fun x y H Q => y = .non /\ Q (.bl (decide (x = .non))) H) := by
 intro pins s σ H x y v u Q I rx ry h
 obtain ⟨rfl, q⟩ := h
 cases ry
 refine is_none_gen (zay I q ?_)
 cases x <;> first
  | (cases rx; rfl)
  | (obtain ⟨t, rfl⟩ := rx; rfl)
theorem OpR.or {f : Value -> Value -> Sem Value} {r r' : R2} (h : OpR X f r) (h' : OpR X f r') : OpR X f (fun x y H Q => r x y H Q ∨ r' x y H Q) := by
 intro pins s σ H x y v u Q I rx ry q
 rcases q with q | q
 ·exact h pins s σ H x y v u Q I rx ry q
 ·exact h' pins s σ H x y v u Q I rx ry q
theorem zaw (b : Expr) {op : CmpOp} (h : autoParam (op ≠ .In) AutoP.a1._auto_1) (h2 : autoParam (op ≠ .NotIn) AutoP.a1._auto_1) : behindInMarks op b = false := by
 have e1 : (op == CmpOp.In) = false := by cases op <;> first | rfl | exact absurd rfl h
 have e2 : (op == CmpOp.NotIn) = false := by cases op <;> first | rfl | exact absurd rfl h2
 cases b <;> simp [behindInMarks, e1, e2]
theorem zne {op : CmpOp} {r : R2} (ho : OpR X (compareOp op) r) (ha : PE X a ta) (hb : PE X b tb) (hm : behindInMarks op b = false) : PE X (.Compare a [op] [b] pos) (tOp r ta tb) := by
 intro pins s σ H Q I h
 exact wpAny_Compare1 (binT ha hb I h fun v u s2 x y H2 I2 rx ry q => ho pins s2 σ H2 x y v u Q I2 rx ry q) hm
def zmu (t : TE) : TT := fun σ H Q => t σ H fun x H' => ∃ k, x = .bl k /\ Q k H'
theorem zmY {op : CmpOp} {r : R2} (ho : OpR X (compareOp op) r) (ha : PE X a ta) (hb : PE X b tb) (hm : behindInMarks op b = false) : PT X (.Compare a [op] [b] pos) (zmu (tOp r ta tb)) := by
 intro pins s σ H Q I h
 refine wpAny_isTrue_Compare1 (thn (ha pins s σ H _ I h) fun v s1 ⟨x, H1, I1, r1, q1⟩ => thn (hb pins s1 σ H1 _ I1 q1) fun u s2 ⟨y, H2, I2, r2, q2⟩ =>
  thn (ho pins s2 σ H2 x y v u _ I2 r1 r2 q2) fun c s3 ⟨z, H3, I3, r3, k, e, q3⟩ => ?_) hm
 subst e
 cases r3
 exact wpAny_truthy_bool ⟨H3, I3, q3⟩
def ziN (r r' : R2) (ta tb tc : TE) : TE := fun σ H Q => ta σ H fun x H1 => tb σ H1 fun y H2 => r x y H2 fun z H3 => ∃ k, z = .bl k ∧
 (if k = true then tc σ H3 fun w' H4 => r' y w' H4 Q else Q (.bl false) H3)
theorem zlh {op op' : CmpOp} {r r' : R2} (ho : OpR X (compareOp op) r) (ho' : OpR X (compareOp op') r') (ha : PE X a ta) (hb : PE X b tb) (hc : PE X c tc)
  (hm : autoParam (lastMarks [op, op'] [b, c] = false) AutoP.a4._auto_1) : PE X (.Compare a [op, op'] [b, c] pos) (ziN r r' ta tb tc) := by
 intro pins s σ H Q I h
 refine Compare_chain (thn (ha pins s σ H _ I h) fun v s1 ⟨x, H1, I1, r1, q1⟩ => chain_link (thn (hb pins s1 σ H1 _ I1 q1) fun u s2 ⟨y, H2, I2, r2, q2⟩ =>
  thn (ho pins s2 σ H2 x y v u _ I2 r1 r2 q2) fun d s3 ⟨z, H3, I3, r3, k, e, q3⟩ => ?_)) hm
 subst e
 cases r3
 refine wpAny_truthy_bool ?_
 cases k with
 | false => exact ite_ff ⟨.bl false, H3, I3, rfl, q3⟩
 | true => exact ite_tt (chain_last (thn (hc pins s3 σ H3 _ I3 q3) fun w' s4 ⟨z', H4, I4, r4, q4⟩ => ho' pins s4 σ H4 y z' u w' Q I4 r2 r4 q4))
theorem zk7 {op op' : CmpOp} {r r' : R2} (ho : OpR X (compareOp op) r) (ho' : OpR X (compareOp op') r') (ha : PE X a ta) (hb : PE X b tb) (hc : PE X c tc)
  (hm : autoParam (lastMarks [op, op'] [b, c] = false) AutoP.a4._auto_1) : PT X (.Compare a [op, op'] [b, c] pos) (zmu (ziN r r' ta tb tc)) := by
 intro pins s σ H Q I h
 refine isTrue_chain (thn (ha pins s σ H _ I h) fun v s1 ⟨x, H1, I1, r1, q1⟩ => test_link (thn (hb pins s1 σ H1 _ I1 q1) fun u s2 ⟨y, H2, I2, r2, q2⟩ =>
  thn (ho pins s2 σ H2 x y v u _ I2 r1 r2 q2) fun d s3 ⟨z, H3, I3, r3, k, e, q3⟩ => ?_)) hm
 subst e
 cases r3
 refine wpAny_truthy_bool ?_
 cases k with
 | false =>
  obtain ⟨k', e', q'⟩ := q3
  cases e'
  exact ite_ff ⟨H3, I3, q'⟩
 | true =>
  refine ite_tt (test_last (thn (hc pins s3 σ H3 _ I3 q3) fun w' s4 ⟨z', H4, I4, r4, q4⟩ => thn (ho' pins s4 σ H4 y z' u w' _ I4 r2 r4 q4) fun d' s5 ⟨z2, H5, I5, r5, k2, e2, q5⟩ => ?_))
  subst e2
  cases r5
  exact wpAny_truthy_bool ⟨H5, I5, q5⟩
theorem zdA : (sizeLine : Nat) < 2 ^ 63 := by rw [sizeLine_eq]; decide
theorem zh8 : OpR X (binaryOp .Add) (fun x y H Q => ∃ i j, x = .str i /\ y = .str j /\ i.length + j.length <= sizeLine /\ Q (.str (i ++ j)) H) := by
 intro pins s σ H x y v u Q I rx ry h
 obtain ⟨i, j, rfl, rfl, hz, q⟩ := h
 obtain ⟨t, rfl⟩ := rx
 obtain ⟨t', rfl⟩ := ry
 exact add_str (fun t' tk => ⟨.str (i ++ j), H, I.tok _, ⟨_, rfl⟩, q⟩) hz
theorem zbC {x : V} {us : List Value} (r : Vals [x] us) : ∃ u, us = [u] /\ RelV x u := by
 cases r with
 | cons r1 r2 => cases r2; exact ⟨_, rfl, r1⟩
theorem zdR {x y : V} {us : List Value} (r : Vals [x, y] us) : ∃ u w', us = [u, w'] /\ RelV x u /\ RelV y w' := by
 cases r with
 | cons r1 r2 =>
  cases r2 with
  | cons r3 r4 => cases r4; exact ⟨_, _, rfl, r1, r3⟩
theorem zhP : CallR X (.builtin "abs") (fun xs H Q => ∃ i, xs = [.int i] /\ Q (.int (if i < 0 then -i else i)) H) := by
 intro pins s σ H xs us Q I r h
 obtain ⟨i, rfl, q⟩ := h
 obtain ⟨u, rfl, t, rfl⟩ := zbC r
 exact call_abs_int fun u tk => ⟨.int (if i < 0 then -i else i), H, I.tok _, ⟨_, rfl⟩, q⟩
theorem zfT (hc : X.calm = true) : CallR X (.builtin "min") (fun xs H Q => ∃ i j, xs = [.int i, .int j] /\ Q (.int (if j < i then j else i)) H) := by
 intro pins s σ H xs us Q I r h
 obtain ⟨i, j, rfl, q⟩ := h
 obtain ⟨u, w', rfl, ⟨t, rfl⟩, ⟨t', rfl⟩⟩ := zdR r
 refine min_two_ints (I.ok.hd hc) fun h' tk k => ⟨_, H, I.kept k, ?_, q⟩
 by_cases hj : j < i
 ·rw [if_pos hj, if_pos hj]; exact ⟨_, rfl⟩
 ·rw [if_neg hj, if_neg hj]; exact ⟨_, rfl⟩
theorem zkD : CallR X (.type "int") (fun xs H Q => (∃ i, xs = [.int i] /\ Q (.int i) H) ∨ ∃ k, xs = [.bl k] /\ Q (.int (if k then 1 else 0)) H) := by
 intro pins s σ H xs us Q I r h
 rcases h with ⟨i, rfl, q⟩ | ⟨k, rfl, q⟩
 ·obtain ⟨u, rfl, t, rfl⟩ := zbC r
  exact call_int_int ⟨.int i, H, I, ⟨_, rfl⟩, q⟩
 ·obtain ⟨u, rfl, r1⟩ := zbC r
  cases r1
  exact call_int_bool ⟨.int (if k then 1 else 0), H, I.tok _, ⟨_, rfl⟩, q⟩
theorem za5 : CallR X (.type "str") (fun xs H Q => ∃ i, xs = [.int i] /\ i.natAbs.log2 < 1920 /\ Q (.str (toString i)) H) := by
 intro pins s σ H xs us Q I r h
 obtain ⟨i, rfl, hz, q⟩ := h
 obtain ⟨u, rfl, t, rfl⟩ := zbC r
 exact PySem.P.str_of_int hz ⟨.str _, H, I.tok _, ⟨_, rfl⟩, q⟩
end
structure ObjM (h : Heap) (x dx C : Addr) (mA : Str -> Option Value) : Prop where
 obj : h.get? x = some (PySem.W.instObj C dx)
 ns : h.Ns1 dx mA
 ne : dx ≠ x
theorem zjT {h : Heap} {dx : Addr} {mA : Str -> Option Value} (n : h.Ns1 dx mA) : ∃ od, h.get? dx = some od /\ ∀ name, PySem.W.lookIn name od = some (mA name) := by
 obtain ⟨o, es, ep, ho, hd, hk, _, hm⟩ := n
 refine ⟨o, ho, fun name => ?_⟩
 have e := hm name
 unfold nsFind findBy at e
 rw [<- Array.find?_toList] at e
 unfold PySem.W.lookIn
 rw [hd]
 dsimp only
 split
 ·rename_i y q
  rw [q] at e
  exact congrArg some e
 ·rename_i q
  rw [q] at e
  have a : es.toList.any (·.refKey) = false := by
   rw [List.any_eq_false]
   intro y hy
   obtain ⟨z, t, hkey⟩ := hk y (Array.mem_toList_iff.mp hy)
   simp [DictEntry.refKey, hkey]
  have a' : ¬ es.toList.any (·.refKey) = true := by rw [a]; exact Bool.false_ne_true
  rw [if_neg a']
  exact congrArg some e
theorem ObjM.look {h : Heap} {x dx C : Addr} {mA : Str -> Option Value} (I : ObjM h x dx C mA) : ∃ od, PySem.W.InstAt h x (PySem.W.instObj C dx) C (some od) /\ ∀ name, PySem.W.lookIn name od = some (mA name) :=
 let ⟨od, ho, hl⟩ := zjT I.ns
 ⟨od, ⟨I.obj, rfl, rfl, ho⟩, hl⟩
section
variable {prog : Program} {w : World} {A : Around} {E : Value -> Shared -> Prop} {s : Shared} {K : PySem.W.Frag} {x dx C f : Addr} {mA : Str -> Option Value} {name : Str} {v : Value}
end
theorem RelO.some_of {v : V} {o : Option Value} (r : RelO (some v) o) : ∃ u, o = some u /\ RelV v u := by
 cases o with
 | none => exact (show False from r).elim
 | some u => exact ⟨u, rfl, r⟩
section
variable {P : Program} {w : World} {H H' : Hp} {h h' : Heap} {a C dx : Addr} {fs fs' : List (Str × V)}
theorem znG (hok : HOk P w H h) (e : H a = some (.ins C dx fs)) : ∃ mA, ObjM h a dx C mA /\ (∀ f, RelO (fs.lookup f) (mA f)) /\ PySem.Within mA (fs.map (·.1)) /\ fs.length <= 1000 /\ H dx = some (.own a) := by
 obtain ⟨d, z, ne, ob, mA, n, r, q⟩ := (show ObjOk P w H h a (.ins C dx fs) from hok a _ e)
 exact ⟨mA, ⟨ob, n, ne⟩, r, q, z, d⟩
end
structure Cls (K : PySem.W.Frag) (C : Addr) : Prop where
 pg : PySem.W.plainGet K C Str.empty = true
 hd : PySem.W.hasDictIn K C = true
 po : PySem.W.plainOver K C = true
 sa : PySem.W.findIn K (.ref C) "__setattr__" = some (some (.builtin "object.__setattr__"))
theorem Cls.get {K : PySem.W.Frag} {C : Addr} (c : Cls K C) (f : Str) : PySem.W.plainGet K C f = true := c.pg
section
variable {X : Cx} {pins : List (Addr × Obj)} {σ : St} {H : Hp} {s : Shared} {a C dx : Addr} {fs : List (Str × V)} {f : Str} {v : V} {A : Around} {E : Value -> Shared -> Prop}
theorem znX {prog : Program} {w : World} {env : Env} {e : Expr} {f : Str} {pos : Pos} {s : Shared} {Q : Value -> Shared -> Prop} (hb : attributeBase e f env (eval e env) = eval e env)
  (h : wpAny (model prog w) A (eval e env) (fun o s₁ => wpAny (model prog w) A (getAttr o f true) Q E s₁) E s) : wpAny (model prog w) A (eval (.Attribute e f pos) env) Q E s :=
 Attribute_any_ h (by rw [arm_eval_Attribute, hb])
end
section
variable {X : Cx} {pins : List (Addr × Obj)} {σ : St} {H : Hp} {s : Shared} {A : Around} {E : Value -> Shared -> Prop} {Q : Value -> Shared -> Prop} {c : Value} {b : Bool}
inductive TyOf (K : PySem.W.Frag) (H : Hp) : V -> Value -> Prop where
 | non : TyOf K H .non (.type "NoneType")
 | bl (x : Bool) : TyOf K H (.bl x) (.type "bool")
 | int (i : Int) : TyOf K H (.int i) (.type "int")
 | str (x : Str) : TyOf K H (.str x) (.type "str")
 | flt (x : UInt64) : TyOf K H (.flt x) (.type "float")
 | lst {a : Addr} {xs : List V} (e : H a = some (.lst xs)) : TyOf K H (.ref a) (.type "list")
 | frz {a : Addr} {o : Obj} {xs : List V} (e : H a = some (.frz o (.lst xs))) : TyOf K H (.ref a) (.type "list")
 | tup {a : Addr} {xs : List V} (e : H a = some (.tup xs)) : TyOf K H (.ref a) (.type "tuple")
 | dK {a : Addr} {kvs : List (Key × V)} (e : H a = some (.dK kvs)) : TyOf K H (.ref a) (.type "dict")
 | dT {a : Addr} {kvs : List (List Key × V)} (e : H a = some (.dT kvs)) : TyOf K H (.ref a) (.type "dict")
 | ins {a C dx : Addr} {fs : List (Str × V)} (e : H a = some (.ins C dx fs)) (cl : Cls K C) (ha : PySem.W.findIn K (.ref C) "__class__" = some (some (.builtin "object.__class__")))
   (hn : PySem.W.specialIn K (.builtin "object.__class__") "__get__" = some (some (.builtin "getset_descriptor.__get__"))) (htk : PySem.W.takesIn K (.builtin "object.__class__") = some true)
   (hm : PySem.W.mroIn K C (.type "object") = some true) : TyOf K H (.ref a) (.ref C)
theorem zdC {x : V} {u t : Value} (I : Inv X pins σ H s) (rx : RelV x u) (ty : TyOf X.K H x t) (e : PySem.W.kitOne X.K t c = some b) (h : ∀ tk, Q (.bool b) { s with toks := tk }) :
  wpAny (model X.prog X.w) A (call (.builtin "isinstance") [u, c]) Q E s := by
 cases ty with
 | non => cases (show u = Value.none from rx); exact PySem.W.kia_one PySem.W.kitx_none I.kIn True.intro e (fun z => nomatch z) h
 | bl y => cases (show u = Value.bool y from rx); exact PySem.W.kia_one PySem.W.kitx_bool I.kIn True.intro e (fun z => nomatch z) h
 | int i => obtain ⟨t, q⟩ := (show ∃ t, u = Value.int i t from rx); cases q; exact PySem.W.kia_one PySem.W.kitx_int I.kIn True.intro e (fun z => nomatch z) h
 | str y => obtain ⟨t, q⟩ := (show ∃ t, u = Value.str y t from rx); cases q; exact PySem.W.kia_one PySem.W.kitx_str I.kIn True.intro e (fun z => nomatch z) h
 | flt y => obtain ⟨t, q⟩ := (show ∃ t, u = Value.float y t from rx); cases q; exact PySem.W.kia_one PySem.W.kitx_float I.kIn True.intro e (fun z => nomatch z) h
 | @lst a xs ea =>
  cases (show u = Value.ref a from rx)
  obtain ⟨_, _, n, _, h1⟩ := (show ObjOk X.prog X.w H s.heap a (.lst xs) from I.hok a _ ea)
  exact PySem.W.kia_one PySem.W.kitx_list I.kIn ⟨_, h1, rfl⟩ e (fun z => nomatch z) h
 | @frz a ob xs ea =>
  cases (show u = Value.ref a from rx)
  obtain ⟨_, _, _, n, _, h1⟩ := (show ObjOk X.prog X.w H s.heap a (.frz ob (.lst xs)) from I.hok a _ ea)
  exact PySem.W.kia_one PySem.W.kitx_list I.kIn ⟨_, h1, rfl⟩ e (fun z => nomatch z) h
 | @tup a xs ea =>
  cases (show u = Value.ref a from rx)
  obtain ⟨_, _, _, p, _⟩ := (show ObjOk X.prog X.w H s.heap a (.tup xs) from I.hok a _ ea)
  obtain ⟨o, h1, h2, _⟩ := p
  exact PySem.W.kia_one PySem.W.kitx_tuple I.kIn ⟨o, h1, h2⟩ e (fun z => nomatch z) h
 | @dK a kvs ea =>
  cases (show u = Value.ref a from rx)
  obtain ⟨_, _, vs, _, p⟩ := (show ObjOk X.prog X.w H s.heap a (.dK kvs) from I.hok a _ ea)
  obtain ⟨o, es, ep, h1, h2, _⟩ := p
  exact PySem.W.kia_one PySem.W.kitx_dict I.kIn ⟨o, h1, h2.1⟩ e (fun z => nomatch z) h
 | @dT a kvs ea =>
  cases (show u = Value.ref a from rx)
  obtain ⟨_, _, xs, _, o, es, ep, h1, h2, _⟩ := (show ObjOk X.prog X.w H s.heap a (.dT kvs) from I.hok a _ ea)
  exact PySem.W.kia_one PySem.W.kitx_dict I.kIn ⟨o, h1, h2.1⟩ e (fun z => nomatch z) h
 | @ins a C dx fs ea cl ha hn htk hm =>
  cases (show u = Value.ref a from rx)
  obtain ⟨mA, O, _⟩ := znG I.hok ea
  obtain ⟨od, J, _⟩ := O.look
  exact PySem.W.kia_one (PySem.W.kitx_own (cl.get _) cl.hd ha hn htk hm) I.kIn J e (fun z => nomatch z) h
end
structure Room (k : Nat) (A : Around) : Prop where
 hd : A.handled = none
 dp : A.depth + 3 * k + 5 < recursionLimit
 un : A.units + 16 * k + 200 < cLine
 gd : A.guards = some []
theorem Room.mono {j k : Nat} {A : Around} (r : Room k A) (h : j <= k) : Room j A := ⟨r.hd, by have := r.dp; omega, by have := r.un; omega, r.gd⟩
theorem Room.deeper {k : Nat} {A : Around} (r : Room (k + 1) A) (env : Env) : Room k (A.deeper env) :=
 ⟨r.hd, by have := r.dp; show A.depth + 1 + 3 * k + 5 < _; omega, by have := r.un; show A.units + 3 + 16 * k + 200 < _; omega, r.gd⟩
theorem zil {A : Around} {C : Addr} {us : List Value} {kw : List (Str × Value)} : (A.under (.builtin "type.__call__" ⟨.ref C :: us, kw⟩)).depth = A.depth + 1 := by
 first | rfl | simp [Around.under, Code.weight, Code.isCreation, Code.isGuard, Code.isCaller, Code.frames, Code.isFrame, guardIds]
theorem zik {A : Around} {C : Addr} {us : List Value} {kw : List (Str × Value)} : (A.under (.builtin "type.__call__" ⟨.ref C :: us, kw⟩)).units = A.units + 1 := by
 first | rfl | simp [Around.under, Code.cUnits, Code.frames, Code.isFrame]
theorem Room.make {k : Nat} {A : Around} (r : Room (k + 1) A) (C : Addr) (us : List Value) (kw : List (Str × Value)) : Room k (A.under (.builtin "type.__call__" ⟨.ref C :: us, kw⟩)) :=
 ⟨r.hd, by have := r.dp; rw [zil]; omega, by have := r.un; rw [zik]; omega, r.gd⟩
theorem Room.depth {k : Nat} {A : Around} (r : Room k A) : A.depth < recursionLimit := by have := r.dp; omega
theorem Room.units {k : Nat} {A : Around} (r : Room k A) : A.units + 64 < cLine := by have := r.un; omega
def tNil : TA := fun _ H Q => Q [] H
def zmy (ta : TE) (tr : TA) : TA := fun σ H Q => ta σ H fun x H1 => tr σ H1 fun xs H2 => Q (x :: xs) H2
section
variable {X : Cx} {e : Expr} {es : List Expr} {te : TE} {t : TA} {pos : Pos}
theorem zbU : PA X [] tNil := fun _ _ _ _ H Q I h => Calls.spliced_nil ⟨[], H, I, .nil, h⟩
theorem zaH (ha : PE X e te) (hr : PA X es t) (hs : autoParam (starEach (e :: es) X.env = (false, eval e X.env) :: starEach es X.env) AutoP.a3._auto_1) : PA X (e :: es) (zmy te t) := by
 intro pos pins s σ H Q I h
 rw [hs]
 show wpAny _ _ (spliced ((false, eval e X.env) :: backTo pos (starEach es X.env))) _ _ s
 refine Calls.spliced_cons (thn (ha pins s σ H _ I h) fun u s1 ⟨x, H1, I1, r1, q1⟩ => ?_)
 exact thn (hr pos pins s1 σ H1 _ I1 q1) fun us s2 ⟨xs, H2, I2, r2, q2⟩ => ⟨x :: xs, H2, I2, .cons r1 r2, q2⟩
def tTup (t : TA) : TE := fun σ H Q => t σ H fun xs H1 => xs.length <= sizeLine /\ ∀ p, H1 p = none -> Q (.ref p) (upd H1 p (.tup xs))
def tLst (t : TA) : TE := fun σ H Q => t σ H fun xs H1 => xs.length <= sizeLine /\ ∀ p, H1 p = none -> Q (.ref p) (upd H1 p (.lst xs))
theorem zl6 {x1} (h : PA X es t) : PE X (.Tuple es x1 pos) (tTup t) := by
 intro pins s σ H Q I hq
 refine wpAny_Tuple_spliced (thn (h pos pins s σ H _ I hq) fun us s1 ⟨xs, H1, I1, r, z, q⟩ => ⟨by rw [<- r.length]; exact z, ?_⟩)
 have hf : H1 s1.heap.objs.size = none := I1.hok.fresh (Nat.le_refl _)
 refine ⟨.ref s1.heap.objs.size, upd H1 s1.heap.objs.size (.tup xs), I1.laid (t' := s1.toks) (fun b u e => Heap.get?_push_of_some _ e) (Nat.le_refl _) ?_, rfl, q _ hf⟩
 exact ⟨z, us, r, ⟨_, Heap.get?_push_size _ rfl, rfl, _, rfl⟩, _, Heap.get?_push_size _ rfl, rfl⟩
theorem zl8 (h : PA X es t) : PE X (.List es pos) (tLst t) := by
 intro pins s σ H Q I hq
 refine wpAny_List_spliced (thn (h pos pins s σ H _ I hq) fun us s1 ⟨xs, H1, I1, r, z, q⟩ => ⟨by rw [<- r.length]; exact z, ?_⟩)
 have hf : H1 s1.heap.objs.size = none := I1.hok.fresh (Nat.le_refl _)
 refine ⟨.ref s1.heap.objs.size, upd H1 s1.heap.objs.size (.lst xs), I1.laid (t' := s1.toks) (fun b u e => Heap.get?_push_of_some _ e) (Nat.le_refl _) ?_, rfl, q _ hf⟩
 exact ⟨z, us, 0, r, Heap.get?_push_size _ rfl⟩
end
abbrev Sp := List V -> Hp -> VK -> XK -> Prop
abbrev CXT := List Env -> Hp -> Shared -> XK -> Value -> Shared -> Prop
structure Env0 (P : Program) (w : World) (K : PySem.W.Frag) (mg : Str -> Option Value) (base : Heap) (A : Around) (outer : List Env) (s : Shared) (H : Hp) : Prop where
 frames : A.frames = some outer
 mod : Mod K mg base
 bs : ∀ b o, base.get? b = some o -> s.heap.get? b = some o /\ H b = none
 bsz : base.objs.size <= s.heap.objs.size
 funs : s.heap.FunFrames base outer
 frf : ∀ b ∈ frs outer, H b = none
 hok : HOk P w H s.heap
 bare : AllBare s.gens
def CE (outer : List Env) (P : Program) (w : World) (H : Hp) (s : Shared) (Q : VK) (u : Value) (s' : Shared) : Prop :=
 ∃ v H', s'.os = s.os /\ AllBare s'.gens /\ Un (frs outer) [] H H' s.heap s'.heap /\ HOk P w H' s'.heap /\ RelV v u /\ Q v H'
def CR (CX : CXT) (outer : List Env) (P : Program) (w : World) (H : Hp) (s : Shared) (Q : VK) (E : XK) (r : Result) (s' : Shared) : Prop :=
 match r with
 | .ok (.ret u) => CE outer P w H s Q u s'
 | .ok _ => False
 | .error e => CX outer H s E e s'
structure FnOk (P : Program) (w : World) (K : PySem.W.Frag) (mg : Str -> Option Value) (base : Heap) (CX : CXT) (k : Nat) (f : Addr) (fd : FuncData) (ps : List Str) (sp : Sp) : Prop where
 len : ∀ vs H Q E, sp vs H Q E -> vs.length = ps.length
 run : ∀ (A : Around) (outer : List Env) (s : Shared) (H : Hp) (args : Args) (us : List Value) (vs : List V) (Q : VK) (E : XK), Room k A -> Env0 P w K mg base A outer s H -> BindsTo s fd args (ps.zip us) -> Vals vs us -> sp vs H Q E →
  codeAny (model P w) A (.call (.ref f) args) (CR CX outer P w H s Q E) s
theorem FnOk.imp {P : Program} {w : World} {K : PySem.W.Frag} {mg : Str -> Option Value} {base : Heap} {CX : CXT} {k : Nat} {f : Addr} {fd : FuncData} {ps : List Str} {sp sp' : Sp} (F : FnOk P w K mg base CX k f fd ps sp)
  (h : ∀ vs H Q E, sp' vs H Q E -> sp vs H Q E) : FnOk P w K mg base CX k f fd ps sp' :=
 ⟨fun vs H Q E q => F.len vs H Q E (h _ _ _ _ q), fun A outer s H args us vs Q E hr he hb hv hs => F.run A outer s H args us vs Q E hr he hb hv (h _ _ _ _ hs)⟩
theorem Env0.make {P : Program} {w : World} {K : PySem.W.Frag} {mg : Str -> Option Value} {base : Heap} {A : Around} {outer : List Env} {s : Shared} {H : Hp} (e : Env0 P w K mg base A outer s H) (C : Addr) (us : List Value) (kw : List (Str × Value)) :
  Env0 P w K mg base (A.under (.builtin "type.__call__" ⟨.ref C :: us, kw⟩)) outer s H := ⟨by first | exact e.frames | (simpa [Around.under, Code.envs, Code.isFrame, pushEnvs] using e.frames), e.mod, e.bs, e.bsz, e.funs, e.frf, e.hok, e.bare⟩
section
variable {X : Cx} {pins : List (Addr × Obj)} {σ : St} {H : Hp} {s s' : Shared}
theorem Inv.env0 (I : Inv X pins σ H s) : Env0 X.prog X.w X.K X.mg X.base X.A X.stack s H :=
 ⟨I.ok.frames, I.ok.mod, I.bs, Nat.le_trans I.ok.bsz I.sz, I.stack, I.stkFree, I.hok, I.bare⟩
theorem Inv.after {Q : VK} {u : Value} (I : Inv X pins σ H s) (h : CE X.stack X.prog X.w H s Q u s') : EP X pins σ Q u s' := by
 obtain ⟨v, H', os, bare, un, hok, r, q⟩ := h
 obtain ⟨hh, g, d, t, os'⟩ := s'
 obtain rfl : os' = s.os := os
 exact ⟨v, H', I.call (h' := hh) (g' := g) (d' := d) (t' := t) (ch := []) un hok bare (fun b z => absurd z (by simp)), r, q⟩
end
def tCall (sp : Sp) (dvs : List V) (E : XK) (t : TA) : TE := fun σ H Q => t σ H fun vs H1 => sp (vs ++ dvs) H1 Q E
def Binds (K : PySem.W.Frag) (fd : FuncData) (ps : List Str) (ds : List Value) : Prop :=
 ∀ (s : Shared) (us : List Value), K.In s.heap -> (us ++ ds).length = ps.length -> BindsTo s fd ⟨us, []⟩ (ps.zip (us ++ ds))
theorem Binds.all {K : PySem.W.Frag} {fd : FuncData} {ps : List Str} (h : ∀ us : List Value, us.length = ps.length -> bindArgs fd ⟨us, []⟩ = pure (ps.zip us)) : Binds K fd ps [] := fun s us _ hl => by
 rw [List.append_nil] at hl ⊢
 exact .of_eq (h us hl)
def zkJ (CX : CXT) (X : Cx) (E : XK) : Prop := ∀ (pins : List (Addr × Obj)) (σ : St) (H : Hp) (s : Shared) (e : Value) (s' : Shared), Inv X pins σ H s -> CX X.stack H s E e s' -> X.xe e s'
section
variable {X : Cx} {CX : CXT} {k : Nat} {f C : Addr} {fd : FuncData} {ps : List Str} {sp : Sp} {dvs : List V} {ds : List Value} {E : XK} {x m : Str} {p pos apos : Pos} {e o : Expr} {es : List Expr} {ta : TE} {t : TA}
theorem run_fn {pins : List (Addr × Obj)} {σ : St} {H : Hp} {s : Shared} {Q : VK} {us : List Value} {vs : List V} (F : FnOk X.prog X.w X.K X.mg X.base CX k f fd ps sp) (hr : Room k X.A) (hb : Binds X.K fd ps ds) (hd : Vals dvs ds) (hx : zkJ CX X E)
  (I : Inv X pins σ H s) (r : Vals vs us) (h : sp (vs ++ dvs) H Q E) : wpAny (model X.prog X.w) X.A (call (.ref f) us) (EP X pins σ Q) X.xe s := by
 have r2 : Vals (vs ++ dvs) (us ++ ds) := r.append hd
 have hl : (us ++ ds).length = ps.length := by rw [<- r2.length]; exact F.len _ _ _ _ h
 refine wpAny_call (codeAny_mono (F.run X.A X.stack s H ⟨us, []⟩ (us ++ ds) (vs ++ dvs) Q E hr I.env0 (hb s us I.kIn hl) r2 h) fun r s' hq => ?_)
 cases r with
 | error e => exact hx pins σ H s e s' I hq
 | ok fl =>
  cases fl with
  | ret u => exact I.after hq
  | next => exact False.elim hq
  | brk => exact False.elim hq
  | cont => exact False.elim hq
theorem znf (F : FnOk X.prog X.w X.K X.mg X.base CX k f fd ps sp) (hr : Room k X.A) (hg : Gl X x) (hm : X.mg x = some (.ref f)) (hk : PySem.W.keepIn X.K (.ref f) = true) (hb : Binds X.K fd ps ds) (hd : Vals dvs ds) (hx : zkJ CX X E)
  (ha : PA X (e :: es) t) (hdb : autoParam ((x == ("__debug__" : Str)) = false) AutoP.a1._auto_1) (he : autoParam (starEach (e :: es) X.env = (false, eval e X.env) :: starEach es X.env) AutoP.a3._auto_1) (hpl : autoParam ((backTo pos (starEach es X.env)).any (·.1) = false) AutoP.a3._auto_1) :
  PE X (.Call (.Name x p) (e :: es) [] pos) (tCall sp dvs E t) := by
 intro pins s σ H Q I h
 refine wpAny_Call_Name_kw (zcj I hg hm ?_ hdb)
 refine PySem.W.callWith_K (h₀ := X.base) I.ok.mod.kin hk (thn (ha pos pins s σ H _ I h) fun us s1 ⟨vs, H1, I1, r, q⟩ => ⟨I1.kIn, ?_⟩) he hpl
 exact run_fn F hr hb hd hx I1 r q
end
structure FnScope (N P : List Str) (sc : Scope) : Prop where
 kind : sc.kind = .function
 co : sc.isCoroutine = false
 gen : sc.isGenerator = false
 nd : N.Nodup
 pre : N.take P.length = P
 par : ∀ x ∈ P, sc.names.lookup x = some .local ∨ sc.names.lookup x = some .cell
 nofree : ∀ y ∈ sc.names, y.2 ≠ .free
theorem zf0 {kindOf : Str -> Option NameKind} {x : Str} : ∀ {binds : List (Str × Value)} {m : Str -> Option Value}, (∀ v, (x, v) ∉ binds) -> bindL kindOf binds m x = m x
 | [], _, _ => rfl
 | (n, v) :: r, m, h => by
  unfold bindL
  rw [zf0 fun w hw => h w (List.mem_cons_of_mem _ hw)]
  split
  ·have : x ≠ n := by rintro rfl; exact h v List.mem_cons_self
   simp [this]
  ·rfl
theorem zf2 {kindOf : Str -> Option NameKind} {x : Str} : ∀ {binds : List (Str × Value)} {m : Str -> Option Value}, (∀ v, (x, v) ∉ binds) -> bindC kindOf binds m x = m x
 | [], _, _ => rfl
 | (n, v) :: r, m, h => by
  unfold bindC
  rw [zf2 fun w hw => h w (List.mem_cons_of_mem _ hw)]
  split
  ·rfl
  ·have : x ≠ n := by rintro rfl; exact h v List.mem_cons_self
   simp [this]
theorem zf1 {kindOf : Str -> Option NameKind} {x : Str} {v : Value} : ∀ {P : List Str} {vs : List Value} {i : Nat} {m : Str -> Option Value}, P.Nodup -> P[i]? = some x -> vs[i]? = some v -> kindOf x = some .local →
  bindL kindOf (P.zip vs) m x = some v
 | [], _, _, _, _, h, _, _ => by simp at h
 | _ :: _, [], _, _, _, _, h, _ => by simp at h
 | p :: P, w :: vs, 0, m, nd, h1, h2, hk => by
  simp at h1 h2; subst h1; subst h2
  show bindL kindOf ((p, w) :: P.zip vs) m p = _
  unfold bindL
  rw [zf0 fun v hv => (List.nodup_cons.mp nd).1 (List.of_mem_zip hv).1, if_pos hk]
  simp
 | p :: P, w :: vs, i + 1, m, nd, h1, h2, hk => by
  show bindL kindOf ((p, w) :: P.zip vs) m x = _
  unfold bindL
  exact zf1 (i := i) (List.nodup_cons.mp nd).2 (by simpa using h1) (by simpa using h2) hk
theorem zf3 {kindOf : Str -> Option NameKind} {x : Str} {v : Value} : ∀ {P : List Str} {vs : List Value} {i : Nat} {m : Str -> Option Value}, P.Nodup -> P[i]? = some x -> vs[i]? = some v -> kindOf x ≠ some .local →
  bindC kindOf (P.zip vs) m x = some v
 | [], _, _, _, _, h, _, _ => by simp at h
 | _ :: _, [], _, _, _, _, h, _ => by simp at h
 | p :: P, w :: vs, 0, m, nd, h1, h2, hk => by
  simp at h1 h2; subst h1; subst h2
  show bindC kindOf ((p, w) :: P.zip vs) m p = _
  unfold bindC
  rw [zf2 fun v hv => (List.nodup_cons.mp nd).1 (List.of_mem_zip hv).1, if_neg hk]
  simp
 | p :: P, w :: vs, i + 1, m, nd, h1, h2, hk => by
  show bindC kindOf ((p, w) :: P.zip vs) m x = _
  unfold bindC
  exact zf3 (i := i) (List.nodup_cons.mp nd).2 (by simpa using h1) (by simpa using h2) hk
def start (N : List Str) (vs : List V) : St := vs.map some ++ List.replicate (N.length - vs.length) none
def zfQ (CX : CXT) (P : Program) (w : World) (K : PySem.W.Frag) (mg : Str -> Option Value) (base : Heap) (N : List Str) (qual : Str) (scope : Scope) (f : Addr) (cd : Value) (A : Around) (outer : List Env) (s : Shared) (H : Hp) (E : XK) : Cx where
 prog := P
 w := w
 K := K
 mg := mg
 base := base
 A := A.deeper (envOfC qual scope s.heap.objs.size f cd)
 N := N
 s₀ := s
 H₀ := H
 env := envOfC qual scope s.heap.objs.size f cd
 outer := outer
 stack := envOfC qual scope s.heap.objs.size f cd :: outer
 ex := []
 calm := true
 fn := fun _ => true
 pn := []
 xe := fun e s' => wpAny (model P w) (A.deeper (envOfC qual scope s.heap.objs.size f cd)) (leaving (envOfC qual scope s.heap.objs.size f cd) e) (fun _ s'' => CX outer H s E e s'') (fun e' s'' => CX outer H s E e' s'') s'
theorem zhN {sc : Scope} {n : Nat} {x : Str} (h : sc.names.lookup x = some .cell) : ∃ c, (cellsFrom n sc.names []).lookup x = some c := by
 have q := PySem.W.cellsFrom_some sc.names n [] (.inl h)
 exact Option.isSome_iff_exists.mp q
theorem zfH {CX : CXT} {P : Program} {w : World} {K : PySem.W.Frag} {mg : Str -> Option Value} {base : Heap} {N ps : List Str} {qual : Str} {scope : Scope} {f : Addr} {cd : Value} {A : Around} {outer : List Env} {s s1 : Shared} {H : Hp} {E : XK} {us : List Value} {vs : List V}
  (S : FnScope N ps scope) (hd : A.handled = none) (e0 : Env0 P w K mg base A outer s H) (hl : vs.length = ps.length) (r : Vals vs us)
  (x : InCallC s s.heap.objs.size (bindL (envOfC qual scope s.heap.objs.size f cd).kindOf (ps.zip us) fun _ => none) (cellsFrom (s.heap.objs.size + 1) scope.names []) (bindC (envOfC qual scope s.heap.objs.size f cd).kindOf (ps.zip us) fun _ => none) s1) :
  Inv (zfQ CX P w K mg base N qual scope f cd A outer s H E) [] (start N vs) H s1 := by
 have hpl : ps.length <= N.length := by have := congrArg List.length S.pre; rw [List.length_take] at this; omega
 obtain ⟨h1, tk, rfl, hk⟩ := x.done
 have noA : ∀ b : Addr, b ∉ (zfQ CX P w K mg base N qual scope f cd A outer s H E).ex := fun b z => absurd (show b ∈ ([] : List Addr) from z) (by simp)
 refine ⟨⟨e0.mod, S.kind, rfl, rfl, Nat.le_refl _, fun y z c h1 h2 => ?_, fun y hy => ?_, fun y c _ h => ?_, fun _ => hd, Around.frames_deeper e0.frames, .inr ⟨rfl, rfl⟩, fun b z => absurd z (noA b), e0.bs, e0.bsz, fun b _ _ => noA b, fun b z => absurd z (noA b), e0.funs, e0.frf⟩,
  rfl, e0.bare, Un.kept hk, ⟨_, x.toInCall.ns, fun i y v h1 h2 h3 => ?_⟩, fun y c h => ⟨_, x.cell y c h⟩, e0.hok.fresh (Nat.le_refl _), fun y c h => ?_, fun p hp => absurd (show p ∈ ([] : List (Addr × Obj)) from hp) (by simp), e0.hok.kept hk, ?_⟩
 ·exact name_of_addr x.apart (PySem.mem_of_lookup h1) (PySem.mem_of_lookup h2)
 ·have hy : scope.names.lookup y = some .cell ∨ scope.names.lookup y = some .free := hy
  rcases hy with hy | hy
  ·exact zhN hy
  ·exact absurd rfl (S.nofree _ (PySem.mem_of_lookup hy))
 ·exact Nat.le_of_lt (x.above y c (PySem.mem_of_lookup h))
 ·have hi : i < vs.length := by
   unfold start at h2
   by_cases hi : i < vs.length
   ·exact hi
   ·rw [List.getElem?_append_right (by simpa using hi)] at h2
    rw [List.getElem?_replicate] at h2
    split at h2 <;> cases h2
  have ha : vs[i]? = some v := by
   unfold start at h2
   rw [List.getElem?_append_left (by simpa using hi), List.getElem?_map] at h2
   cases e : vs[i]? with
   | none => rw [e] at h2; cases h2
   | some a => rw [e] at h2; cases h2; rfl
  obtain ⟨u, hu, rv⟩ := r.get ha
  have hp : ps[i]? = some y := by
   rw [<- S.pre, List.getElem?_take_of_lt (by omega)]; exact h1
  have ndP : ps.Nodup := by rw [<- S.pre]; exact S.nd.sublist (List.take_sublist _ _)
  refine ⟨u, rv, ?_⟩
  rcases S.par y (List.mem_of_getElem? hp) with k | k
  ·exact .inl ⟨k, zf1 ndP hp hu k⟩
  ·obtain ⟨c, e⟩ := zhN (n := s.heap.objs.size + 1) k
   refine .inr ⟨.inl k, c, e, ?_⟩
   have q := x.cell y c e
   rw [zf3 ndP hp hu (by show scope.names.lookup y ≠ _; rw [k]; decide)] at q
   exact q
 ·exact e0.hok.fresh (Nat.le_of_lt (x.above y c (PySem.mem_of_lookup h)))
 ·unfold start
  show _ = N.length
  rw [List.length_append, List.length_map, List.length_replicate]
  omega
theorem fn_of {CX : CXT} {P : Program} {w : World} {K : PySem.W.Frag} {mg : Str -> Option Value} {base : Heap} {k : Nat} {f : Addr} {name qual : Str} {params : Arguments} {body : List Stmt} {scope : Scope} {dV kV doc pm cdv ct oc : Value} {an od : Option Addr}
  {osl : Array (Option Value)} {N ps : List Str} {sp : Sp} (lk : K.lookup f = some ⟨oc, od, .func (PySem.W.fnOf name qual params body scope dV kV doc pm an cdv ct), osl⟩) (hcd : PySem.W.codeIn K cdv qual = true) (S : FnScope N ps scope)
  (len : ∀ vs H Q E, sp vs H Q E -> vs.length = ps.length)
  (hbody : ∀ (A : Around) (outer : List Env) (s : Shared) (H : Hp) (vs : List V) (Q : VK) (E : XK), Room k (A.deeper (envOfC qual scope s.heap.objs.size f cdv)) -> sp vs H Q E →
   ∃ t, PSs (zfQ CX P w K mg base N qual scope f cdv A outer s H E) body t /\ t { nx := fun _ H' => Q .non H', rt := Q } (start N vs) H) :
  FnOk P w K mg base CX (k + 1) f (PySem.W.fnOf name qual params body scope dV kV doc pm an cdv ct) ps sp := by
 refine ⟨len, fun A outer s H args us vs Q E hr e0 hb r hsp => ?_⟩
 have hl := len _ _ _ _ hsp
 have KX : K.In s.heap := e0.mod.kin.keeps fun b o e => (e0.bs b o e).1
 have lim : s.heap.NoLimit := e0.mod.nolimit.keeps fun b o e => (e0.bs b o e).1
 have hkind : ∀ y ∈ ps.zip us, scope.names.lookup y.1 = some .local ∨ (scope.names.lookup y.1 = some .cell /\ ((cellsFrom (s.heap.objs.size + 1) scope.names []).lookup y.1).isSome = true) := fun ⟨n, v⟩ hy => by
  rcases S.par n (List.of_mem_zip hy).1 with q | q
  ·exact .inl q
  ·exact .inr ⟨q, PySem.W.cellsFrom_some _ _ _ (.inl q)⟩
 refine codeAny_call_function hr.depth (KX _ _ lk) rfl S.co S.gen rfl (PySem.W.codeRec_of KX hcd) (hb _ _ _ _ ?_)
 refine wpAny_newFunctionEnv_cells S.kind hkind fun env he s1 x => ?_
 subst he
 refine ⟨lim.keeps x.toInCall.keep, codeAny_func ?_⟩
 obtain ⟨t, ht, hq⟩ := hbody A outer s H vs Q E (hr.deeper _) hsp
 have I : Inv (zfQ CX P w K mg base N qual scope f cdv A outer s H E) [] (start N vs) H s1 := zfH S hr.hd e0 hl r x
 refine wpAny_mono (ht [] s1 (start N vs) H _ I hq) (fun fl s' hs => ?_) fun e s' hs => hs
 have fin : ∀ {σ' : St} {H' : Hp} {v : V} {u : Value}, Inv (zfQ CX P w K mg base N qual scope f cdv A outer s H E) [] σ' H' s' -> RelV v u -> Q v H' -> CE outer P w H s Q u s' :=
  fun {σ' H' v u} J rv q => ⟨v, H', J.os, J.bare, J.base, J.hok, rv, q⟩
 cases fl with
 | ret u =>
  obtain ⟨v, σ', H', J, rv, q⟩ := hs
  exact fin J rv q
 | next =>
  obtain ⟨σ', H', J, q⟩ := hs
  exact fin (v := V.non) (u := Value.none) J rfl q
 | brk =>
  obtain ⟨_, _, _, q⟩ := hs
  exact False.elim q
 | cont =>
  obtain ⟨_, _, _, q⟩ := hs
  exact False.elim q
section
variable {X : Cx} {x : Str} {p pos : Pos} {e : Expr} {es : List Expr} {t : TA} {id T : String} {r : List V -> Hp -> VK -> Prop}
def tCB (r : List V -> Hp -> VK -> Prop) (t : TA) : TE := fun σ H Q => t σ H fun vs H1 => r vs H1 Q
theorem zcu (hc : CallR X (.builtin id) r) (hg : Gl X x) (hm : X.mg x = none) (hv : bootBuiltins x = some (.builtin id)) (ha : PA X (e :: es) t) (hn : autoParam (x ≠ "__name__") AutoP.a1._auto_1) (hdb : autoParam ((x == ("__debug__" : Str)) = false) AutoP.a1._auto_1)
  (he : autoParam (starEach (e :: es) X.env = (false, eval e X.env) :: starEach es X.env) AutoP.a3._auto_1) (hpl : autoParam ((backTo pos (starEach es X.env)).any (·.1) = false) AutoP.a3._auto_1) : PE X (.Call (.Name x p) (e :: es) [] pos) (tCB r t) := by
 intro pins s σ H Q I h
 refine wpAny_Call_Name_kw (zcV I hg hm hv ?_ hn hdb)
 exact PyProof.Rows.callWith_builtin1 (thn (ha pos pins s σ H _ I h) fun us s1 ⟨vs, H1, I1, r1, q1⟩ => hc pins s1 σ H1 vs us Q I1 r1 q1) he hpl
theorem zjv (hc : CallR X (.type T) r) (hg : Gl X x) (hm : X.mg x = none) (hv : bootBuiltins x = some (.type T)) (ha : PA X (e :: es) t) (hn : autoParam (x ≠ "__name__") AutoP.a1._auto_1) (hdb : autoParam ((x == ("__debug__" : Str)) = false) AutoP.a1._auto_1)
  (he : autoParam (starEach (e :: es) X.env = (false, eval e X.env) :: starEach es X.env) AutoP.a3._auto_1) (hpl : autoParam ((backTo pos (starEach es X.env)).any (·.1) = false) AutoP.a3._auto_1) : PE X (.Call (.Name x p) (e :: es) [] pos) (tCB r t) := by
 intro pins s σ H Q I h
 refine wpAny_Call_Name_kw (zcV I hg hm hv ?_ hn hdb)
 exact PyProof.Rows.callWith_type1 (thn (ha pos pins s σ H _ I h) fun us s1 ⟨vs, H1, I1, r1, q1⟩ => hc pins s1 σ H1 vs us Q I1 r1 q1) he hpl
end
end L2
namespace HT
open PySem PyProof.Rows
section
open PySem.SeqAt
open PySem.AutoSeq1 (wpAny_loadPart')
open PySem.MeetsSeq PySem.MeetsSeq2 PySem.MeetsSeq3
end
section
variable {prog : Program} {w : World} {A : Around} {E : Value -> Shared -> Prop} {s : Shared}
theorem cat_tup {t b : Addr} {vs ws : List Value} {Q : Value -> Shared -> Prop} (ht : IsTup s.heap t vs.toArray) (hb : IsTup s.heap b ws.toArray) (hv : vs ≠ [])
  (h1 : ws = [] -> Q (.ref t) s) (h2 : ws ≠ [] -> Q (.ref s.heap.objs.size) { s with heap := s.heap.push { cls := .type "tuple", data := .seq (vs ++ ws).toArray } })
  (hsz : vs.length + ws.length <= sizeLine) : wpAny (model prog w) A (binaryOp .Add (.ref t) (.ref b)) Q E s := by
 obtain ⟨⟨cls, dd, data, sl⟩, ho, hc, n, hd⟩ := id ht
 obtain ⟨⟨cls2, dd2, data2, sl2⟩, ho2, hc2, n2, hd2⟩ := id hb
 simp only at hc hd hc2 hd2
 subst hc hd hc2 hd2
 have e : vs.toArray ++ ws.toArray = (vs ++ ws).toArray := by simp
 by_cases hw : ws = []
 ·exact concat_meets ⟨_, ho, rfl⟩ ⟨_, ho2, rfl⟩ noFill_tuple_add seq_tuple_add PySem.F.slot_tuple_add PySem.F.entry_tuple_add (PySem.F.args_tuple_add_2 _ _)
   (tuple_addW1 t b vs.toArray ws.toArray n n2 dd dd2 sl sl2 (by simpa using hv) (by simp [hw])) ⟨ho, ho2, h1 hw⟩
 ·refine concat_meets ⟨_, ho, rfl⟩ ⟨_, ho2, rfl⟩ noFill_tuple_add seq_tuple_add PySem.F.slot_tuple_add PySem.F.entry_tuple_add (PySem.F.args_tuple_add_2 _ _)
   (tuple_addW2 t b vs.toArray ws.toArray n n2 dd dd2 sl sl2 (by simpa using hv) (by simpa using hw) (by rw [List.size_toArray, List.size_toArray]; exact hsz)) ⟨ho, ho2, ?_⟩
  rw [e]
  exact h2 hw
def sIx (n d : Nat) : Option Int -> Nat
 | none => d
 | some v => if v < 0 then (v + (n : Int)).toNat else min v.toNat n
theorem sIx_none (n d : Nat) : sIx n d none = d := rfl
theorem sIx_nat (n d k : Nat) : sIx n d (some (k : Int)) = min k n := by
 show (if (k : Int) < 0 then ((k : Int) + (n : Int)).toNat else min (k : Int).toNat n) = min k n
 rw [if_neg (by omega), Int.toNat_natCast]
theorem sIx_le (n d : Nat) (hd : d <= n) (o : Option Int) : sIx n d o <= n := by
 cases o with
 | none => exact hd
 | some v =>
  show (if v < 0 then (v + (n : Int)).toNat else min v.toNat n) <= n
  by_cases hv : v < 0
  ·rw [if_pos hv]; omega
  ·rw [if_neg hv]; exact Nat.min_le_right _ _
theorem zkx (v : Int) (n d : Nat) : (if v < 0 then max (v + (n : Int)) 0 else min v (n : Int)) = ((sIx n d (some v) : Nat) : Int) := by
 show (if v < 0 then max (v + (n : Int)) 0 else min v (n : Int)) = (((if v < 0 then (v + (n : Int)).toNat else min v.toNat n) : Nat) : Int)
 by_cases hv : v < 0
 ·simp only [if_pos hv]; omega
 ·simp only [if_neg hv]; omega
theorem ziz (lo hi : Option Int) (n : Nat) : Builtin.Slice.sliceAdjust lo hi 1 (n : Int) = (((sIx n 0 lo : Nat) : Int), ((sIx n n hi : Nat) : Int)) := by
 have h1 : ¬ ((1 : Int) < 0) := by omega
 unfold Builtin.Slice.sliceAdjust
 simp only [h1, if_false]
 refine Prod.ext ?_ ?_
 ·cases lo with
  | none => rfl
  | some v => exact zkx v n 0
 ·cases hi with
  | none => rfl
  | some v => exact zkx v n n
theorem zh5 (i j : Nat) : Builtin.Slice.slicePlaces (i : Int) (j : Int) 1 = j - i := by
 unfold Builtin.Slice.slicePlaces
 have h1 : (1 : Int) > 0 := by omega
 simp only [h1, if_true, Int.ediv_one]
 split <;> omega
theorem zd3 {v : Value} {o : Option Int} {Q : Option Int -> Shared -> Prop} (p : IsPart v o) (h : Q o s) : wpAny (model prog w) A (Builtin.Slice.slicePartIndex v) Q E s := by
 cases p with
 | none => exact slicePart_none h
 | int i t => exact slicePart_int h
theorem zc0 {sl : Addr} {vl vu : Value} {lo hi : Option Int} {n : Nat} {Q : Int × Int × Nat -> Shared -> Prop} (hs : s.heap.IsSliceOf sl vl vu .none) (pl : IsPart vl lo) (pu : IsPart vu hi)
  (h : Q (((sIx n 0 lo : Nat) : Int), 1, sIx n n hi - sIx n 0 lo) s) : wpAny (model prog w) A (Builtin.Slice.sliceApplied (.ref sl) (pure (n : Int))) Q E s := by
 obtain ⟨os, hos, hcs, hds⟩ := id hs
 unfold Builtin.Slice.sliceApplied Builtin.Slice.sliceFields
 refine wpAny_bind (wpAny_bind (wpAny_field hos hds (x := vl) rfl (wpAny_bind (wpAny_field hos hds (x := vu) rfl (wpAny_bind (wpAny_field hos hds (x := .none) rfl (wpAny_pure ?_)))))))
 refine wpAny_bind (slicePart_none ?_)
 show wpAny _ _ (if ((1 : Int) == 0) = true then _ else _) _ _ s
 rw [if_neg (by decide)]
 refine wpAny_bind (zd3 pl (wpAny_bind (zd3 pu (wpAny_bind (wpAny_pure ?_)))))
 show wpAny _ _ (match Builtin.Slice.sliceAdjust lo hi 1 (n : Int) with | (lo, hi) => pure (lo, (1 : Int), Builtin.Slice.slicePlaces lo hi 1)) _ _ s
 rw [ziz lo hi n]
 show wpAny _ _ (pure (((sIx n 0 lo : Nat) : Int), (1 : Int), Builtin.Slice.slicePlaces ((sIx n 0 lo : Nat) : Int) ((sIx n n hi : Nat) : Int) 1)) _ _ s
 rw [zh5]
 exact wpAny_pure h
theorem zlc (xs : Array Value) (i k : Nat) : ((List.range k).filterMap fun (m : Nat) => xs[((i : Int) + (m : Int) * 1).toNat]?).toArray = ((xs.toList.drop i).take k).toArray := by
 have e : (fun (m : Nat) => xs[((i : Int) + (m : Int) * 1).toNat]?) = fun m => xs[i + m]? := by
  funext m
  have : ((i : Int) + (m : Int) * 1).toNat = i + m := by omega
  rw [this]
 rw [e]
 have := pick_run xs i k
 rw [List.filterMap_map] at this
 have e2 : ((fun x => xs[x]?) ∘ fun x => i + x) = fun m => xs[i + m]? := rfl
 rw [e2] at this
 rw [this]
theorem getItem_tuple_cut {t sl : Addr} {items : Array Value} {vl vu : Value} {lo hi : Option Int} {Q : Value -> Shared -> Prop} (ht : IsTup s.heap t items) (hs : s.heap.IsSliceOf sl vl vu .none) (pl : IsPart vl lo) (pu : IsPart vu hi)
  (hw : ¬ (sIx items.size 0 lo = 0 /\ sIx items.size items.size hi = items.size))
  (h : Q (.ref s.heap.objs.size) { s with heap := s.heap.push { cls := .type "tuple", data := .seq ((items.toList.drop (sIx items.size 0 lo)).take (sIx items.size items.size hi - sIx items.size 0 lo)).toArray } })
  (hsz : items.size <= sizeLine) : wpAny (model prog w) A (getItem (.ref t) (.ref sl)) Q E s := by
 have htake : sizeOk (.seq ((items.toList.drop (sIx items.size 0 lo)).take (sIx items.size items.size hi - sIx items.size 0 lo)).toArray) := by
  show ((items.toList.drop (sIx items.size 0 lo)).take (sIx items.size items.size hi - sIx items.size 0 lo)).toArray.size <= sizeLine
  rw [List.size_toArray, List.length_take, List.length_drop, Array.length_toList]
  omega
 have hj : sIx items.size items.size hi <= items.size := sIx_le _ _ (Nat.le_refl _) hi
 obtain ⟨os, hos, hcs, hds⟩ := id hs
 have hTs : s.TypeIs (.ref sl) "slice" := ⟨os, hos, hcs⟩
 unfold getItem
 try with_reducible refine wpAny_holding ?_
 first | refine wpAny_bind (wpAny_pure ?_) | skip
 refine wpAny_bind (wpAny_sequenceKey ht.typeIs (by decide) ?_)
 refine wpAny_bind (wpAny_callSpecial?_slot (name := Str.ofString "__getitem__") ht.typeIs PyProof.Rows.slot_tuple_getitem
  (wpAny_call_entry PyProof.Rows.slot_tuple_getitem ht.typeIs entry_tuple_getitem ?_ (args_tuple_getitem _ _)))
 show wpAny _ _ (Builtin.Tuple.tupleItemsOf (.ref t) >>= _) _ _ s
 refine wpAny_bind (tupleItemsOf_ ht ?_)
 refine wpAny_bind (wpAny_typeOf hTs ?_)
 rw [if_pos (by decide)]
 refine wpAny_bind (zc0 hs pl pu ?_)
 have hno : ¬ ((((sIx items.size 0 lo : Nat) : Int) == 0 && (1 : Int) == 1 && (sIx items.size items.size hi - sIx items.size 0 lo) == items.size) = true) := by
  intro q
  rw [Bool.and_eq_true, Bool.and_eq_true] at q
  have q1 : ((sIx items.size 0 lo : Nat) : Int) = 0 := eq_of_beq q.1.1
  have q2 : sIx items.size items.size hi - sIx items.size 0 lo = items.size := eq_of_beq q.2
  exact hw ⟨by omega, by omega⟩
 show wpAny _ _ (if (((sIx items.size 0 lo : Nat) : Int) == 0 && (1 : Int) == 1 && (sIx items.size items.size hi - sIx items.size 0 lo) == items.size) = true then _ else _) _ _ s
 rw [if_neg hno, zlc]
 first
  | exact wpAny_bind (m := Builtin.Tuple.tupleExact _) (wpAny_newObj_type (wpAny_pure ⟨_, rfl, wpAny_pure h⟩) htake)
  | exact wpAny_bind (m := Builtin.Tuple.tupleExact _) (wpAny_newObj_type (wpAny_bind (wpAny_pure (wpAny_pure ⟨_, rfl, wpAny_pure h⟩))) htake)
  | exact wpAny_bind (wpAny_bind (m := Builtin.Tuple.tupleExact _) (wpAny_newObj_type (wpAny_pure (wpAny_pure ⟨_, rfl, wpAny_pure h⟩)) htake))
  | exact wpAny_bind (wpAny_bind (m := Builtin.Tuple.tupleExact _) (wpAny_newObj_type (wpAny_pure ⟨_, rfl, wpAny_pure h⟩) htake))
end
end HT
namespace L2
open PySem PySem.Spec PyProof.Rows
abbrev TO := St -> Hp -> (Option Int -> Hp -> Prop) -> Prop
def PO (X : Cx) (e : Option Expr) (t : TO) : Prop :=
 ∀ (pins : List (Addr × Obj)) (s : Shared) (σ : St) (H : Hp) (Q : Option Int -> Hp -> Prop), Inv X pins σ H s -> t σ H Q →
  wpAny (model X.prog X.w) X.A (evalPart e X.env) (fun u s' => ∃ o H', Inv X pins σ H' s' /\ IsPart u o /\ Q o H') X.xe s
def zmx : TO := fun _ H Q => Q none H
def tPart (t : TE) : TO := fun σ H Q => t σ H fun x H1 => ∃ i, x = .int i /\ Q (some i) H1
section
variable {X : Cx} {e : Expr} {te : TE} {lo hi : Option Expr} {tl th : TO} {pos p2 : Pos}
theorem zm8 : PO X none zmx := by
 intro pins s σ H Q I h
 rw [evalPart_none]
 exact wpAny_pure ⟨none, H, I, .none, h⟩
theorem zm7 (h : PE X e te) : PO X (some e) (tPart te) := by
 intro pins s σ H Q I hw
 rw [evalPart_some]
 refine thn (h pins s σ H _ I hw) fun u s1 ⟨x, H1, I1, r1, q1⟩ => ?_
 obtain ⟨i, rfl, q⟩ := q1
 obtain ⟨t, rfl⟩ := r1
 exact ⟨some i, H1, I1, .int i t, q⟩
def SlR (X : Cx) (r : V -> Option Int -> Option Int -> Hp -> VK -> Prop) : Prop :=
 ∀ (pins : List (Addr × Obj)) (s : Shared) (σ : St) (H : Hp) (x : V) (v vl vu : Value) (lo hi : Option Int) (sl : Addr) (Q : VK), Inv X pins σ H s -> RelV x v -> s.heap.IsSliceOf sl vl vu .none -> IsPart vl lo -> IsPart vu hi -> r x lo hi H Q →
  ∃ T id, typeLookup (.type T) "__getitem__" = pure (some (.builtin id)) /\ s.TypeIs v T /\ wpAny (model X.prog X.w) X.A (getItem v (.ref sl)) (EP X pins σ Q) X.xe s
theorem SlR.or {r r' : V -> Option Int -> Option Int -> Hp -> VK -> Prop} (h : SlR X r) (h' : SlR X r') : SlR X (fun x lo hi H Q => r x lo hi H Q ∨ r' x lo hi H Q) := by
 intro pins s σ H x v vl vu lo hi sl Q I rx hs pl pu q
 rcases q with q | q
 ·exact h pins s σ H x v vl vu lo hi sl Q I rx hs pl pu q
 ·exact h' pins s σ H x v vl vu lo hi sl Q I rx hs pl pu q
def tSl (r : V -> Option Int -> Option Int -> Hp -> VK -> Prop) (te : TE) (tl th : TO) : TE := fun σ H Q => te σ H fun x H1 => tl σ H1 fun l H2 => th σ H2 fun u H3 => r x l u H3 Q
theorem zle {r : V -> Option Int -> Option Int -> Hp -> VK -> Prop} (hr : SlR X r) (he : PE X e te) (hl : PO X lo tl) (hu : PO X hi th) : PE X (.Subscript e (.Slice lo hi none p2) pos) (tSl r te tl th) := by
 intro pins s σ H Q I h
 refine Subscript_ (thn (he pins s σ H _ I h) fun v s1 ⟨x, H1, I1, r1, q1⟩ => ?_)
 refine wpAny_Slice (thn (hl pins s1 σ H1 _ I1 q1) fun vl s2 ⟨l, H2, I2, pl, q2⟩ => thn (hu pins s2 σ H2 _ I2 q2) fun vu s3 ⟨u, H3, I3, pu, q3⟩ => ?_)
 rw [evalPart_none]
 refine wpAny_pure ?_
 have I4 : Inv X pins σ H3 { s3 with heap := s3.heap.push { cls := .type "slice", data := .fields #[vl, vu, .none] } } := I3.kept (t' := s3.toks) fun b ob q => Heap.get?_push_of_some _ q
 obtain ⟨T, id, hT, ht, hg⟩ := hr pins { s3 with heap := s3.heap.push { cls := .type "slice", data := .fields #[vl, vu, .none] } } σ H3 x v vl vu l u s3.heap.objs.size Q I4 r1 (Heap.IsSliceOf.new ..) pl pu q3
 show wpAny (model X.prog X.w) X.A (subscriptTail e (.Slice lo hi none p2) v (.ref s3.heap.objs.size)) (EP X pins σ Q) X.xe { s3 with heap := s3.heap.push { cls := .type "slice", data := .fields #[vl, vu, .none] } }
 exact tail_any (ops := [.ref s3.heap.objs.size, v]) ht hT hg (by with_unfolding_all rfl)
def zmm (xs : List V) (lo hi : Option Int) : List V := (xs.drop (HT.sIx xs.length 0 lo)).take (HT.sIx xs.length xs.length hi - HT.sIx xs.length 0 lo)
theorem zdJ (xs : List V) (lo hi : Option Int) : (zmm xs lo hi).length <= xs.length := by
 unfold zmm
 rw [List.length_take, List.length_drop]
 omega
def rSlT (K : PySem.W.Frag) : V -> Option Int -> Option Int -> Hp -> VK -> Prop := fun x lo hi H Q => ∃ a xs, x = .ref a /\ SqT K H a xs ∧
 ¬ (HT.sIx xs.length 0 lo = 0 /\ HT.sIx xs.length xs.length hi = xs.length) /\ ∀ p, H p = none -> Q (.ref p) (upd H p (.tup (zmm xs lo hi)))
theorem sl_tup : SlR X (rSlT X.K) := by
 intro pins s σ H x v vl vu lo hi sl Q I rx hs pl pu h
 obtain ⟨a, xs, rfl, hx, hw, q⟩ := h
 cases rx
 obtain ⟨its, r, ht, hz⟩ := I.tuple hx
 have hlen : its.toArray.size = xs.length := by rw [List.size_toArray]; exact r.length.symm
 refine ⟨"tuple", _, PyProof.Rows.slot_tuple_getitem.lookup, ht.typeIs, ?_⟩
 refine HT.getItem_tuple_cut ht hs pl pu (by rw [hlen]; exact hw) ?_ (by rw [hlen]; exact hz)
 rw [hlen]
 refine ⟨.ref s.heap.objs.size, _, I.laid (t' := s.toks) (o := .tup (zmm xs lo hi)) (fun b ob q => Heap.get?_push_of_some _ q) (Nat.le_refl _) ?_, rfl, q _ (I.hok.fresh (Nat.le_refl _))⟩
 exact ⟨Nat.le_trans (zdJ xs lo hi) hz, _, (r.drop (HT.sIx xs.length 0 lo)).take (HT.sIx xs.length xs.length hi - HT.sIx xs.length 0 lo), IsTup.new _ _, _, Heap.get?_push_size _ rfl, rfl⟩
def rCatT (K : PySem.W.Frag) : R2 := fun x y H Q => ∃ a b xs ys, x = .ref a /\ y = .ref b /\ SqT K H a xs /\ SqT K H b ys /\ xs ≠ [] /\ xs.length + ys.length <= sizeLine ∧
 (ys = [] -> Q (.ref a) H) /\ (ys ≠ [] -> ∀ p, H p = none -> Q (.ref p) (upd H p (.tup (xs ++ ys))))
theorem Vals.nil_iff {xs : List V} {us : List Value} (r : Vals xs us) : us = [] ↔ xs = [] := by
 cases r with
 | nil => simp
 | cons _ _ => simp
theorem znj : OpR X (binaryOp .Add) (rCatT X.K) := by
 intro pins s σ H x y v u Q I rx ry h
 obtain ⟨a, b, xs, ys, rfl, rfl, ha, hb, hx, hz, q1, q2⟩ := h
 cases rx
 cases ry
 obtain ⟨its, r1, p1, _⟩ := I.tuple ha
 obtain ⟨its2, r2, p2, _⟩ := I.tuple hb
 refine HT.cat_tup p1 p2 (fun z => hx (r1.nil_iff.mp z)) (fun z => ⟨.ref a, H, I, rfl, q1 (r2.nil_iff.mp z)⟩) (fun z => ?_) (by rw [<- r1.length, <- r2.length]; exact hz)
 refine ⟨.ref s.heap.objs.size, _, I.laid (t' := s.toks) (o := .tup (xs ++ ys)) (fun b ob q => Heap.get?_push_of_some _ q) (Nat.le_refl _) ?_, rfl, q2 (fun w => z (r2.nil_iff.mpr w)) _ (I.hok.fresh (Nat.le_refl _))⟩
 exact ⟨by rw [List.length_append]; exact hz, _, r1.append r2, IsTup.new _ _, _, Heap.get?_push_size _ rfl, rfl⟩
end
def ixN (n : Nat) (i : Int) : Option Nat := if 0 <= i then (if i < n then some i.toNat else none) else if -(n : Int) <= i then some (i + n).toNat else none
def atI {α : Type} (xs : List α) (i : Int) : Option α := (ixN xs.length i).bind fun j => xs[j]?
theorem zj8 {n : Nat} {i : Int} {j : Nat} (h : ixN n i = some j) : seqIndex? i n = some j /\ j < n /\ -(n : Int) <= i /\ i < n := by
 unfold ixN at h
 by_cases h0 : 0 <= i
 ·rw [if_pos h0] at h
  by_cases h1 : i < n
  ·rw [if_pos h1] at h
   have e : i.toNat = j := Option.some.inj h
   exact ⟨by rw [seqIndex_of h0 h1, e], by omega, by omega, h1⟩
  ·rw [if_neg h1] at h; cases h
 ·rw [if_neg h0] at h
  by_cases h1 : -(n : Int) <= i
  ·rw [if_pos h1] at h
   have e : (i + n).toNat = j := Option.some.inj h
   exact ⟨by rw [seqIndex_neg (by omega) h1, e], by omega, h1, by omega⟩
  ·rw [if_neg h1] at h; cases h
theorem ze1 {α : Type} {xs : List α} {i : Int} {v : α} (h : atI xs i = some v) : ∃ j, seqIndex? i xs.length = some j /\ xs[j]? = some v /\ j < xs.length /\ -(xs.length : Int) <= i /\ i < xs.length := by
 unfold atI at h
 cases e : ixN xs.length i with
 | none => rw [e] at h; cases h
 | some j =>
  rw [e] at h
  obtain ⟨h1, h2, h3, h4⟩ := zj8 e
  exact ⟨j, h1, h, h2, h3, h4⟩
def ze2 (b : Expr) : Prop := ∀ o i, subscripted b false o i = operate [o, i] (getItem o i)
def IxR (X : Cx) (r : R2) : Prop :=
 ∀ (value slice : Expr) (pins : List (Addr × Obj)) (s : Shared) (σ : St) (H : Hp) (x y : V) (v u : Value) (Q : VK), Inv X pins σ H s -> RelV x v -> RelV y u -> r x y H Q →
  subscripted slice false v u = operate [v, u] (getItem v u) -> wpAny (model X.prog X.w) X.A (subscriptTail value slice v u) (EP X pins σ Q) X.xe s
def MtR (X : Cx) (id : String) (r : V -> List V -> Hp -> VK -> Prop) : Prop :=
 ∀ (pins : List (Addr × Obj)) (s : Shared) (σ : St) (H : Hp) (x : V) (xs : List V) (v : Value) (us : List Value) (Q : VK), Inv X pins σ H s -> RelV x v -> Vals xs us -> r x xs H Q →
  wpAny (model X.prog X.w) X.A (call (.builtin id) (v :: us)) (EP X pins σ Q) X.xe s
section
variable {X : Cx} {a b : Expr} {ta tb : TE} {pos : Pos}
theorem IxR.or {r r' : R2} (h : IxR X r) (h' : IxR X r') : IxR X (fun x y H Q => r x y H Q ∨ r' x y H Q) := by
 intro value slice pins s σ H x y v u Q I rx ry q hs
 rcases q with q | q
 ·exact h value slice pins s σ H x y v u Q I rx ry q hs
 ·exact h' value slice pins s σ H x y v u Q I rx ry q hs
theorem pe_ix {r : R2} (hr : IxR X r) (ha : PE X a ta) (hb : PE X b tb) (hs : ze2 b) : PE X (.Subscript a b pos) (tOp r ta tb) := by
 intro pins s σ H Q I h
 exact Subscript_ (binT ha hb I h fun v u s2 x y H2 I2 rx ry q => hr a b pins s2 σ H2 x y v u Q I2 rx ry q (hs _ _))
def rIxL (K : PySem.W.Frag) : R2 := fun x y H Q => ∃ p xs i v, x = .ref p /\ y = .int i /\ SqL K H p xs /\ atI xs i = some v /\ Q v H
def rIxT (K : PySem.W.Frag) : R2 := fun x y H Q => ∃ p xs i v, x = .ref p /\ y = .int i /\ SqT K H p xs /\ atI xs i = some v /\ Q v H
def rIxS : R2 := fun x y H Q => ∃ z i c, x = .str z /\ y = .int i /\ z.length <= sizeLine /\ atI z.cps.toList i = some c /\ Q (.str ⟨#[c]⟩) H
theorem ix_list : IxR X (rIxL X.K) := by
 intro value slice pins s σ H x y v u Q I rx ry h hs
 obtain ⟨p, xs, i, z, rfl, rfl, hq, he, q⟩ := h
 cases rx
 obtain ⟨t, rfl⟩ := ry
 obtain ⟨its, r, pl, hz⟩ := I.list hq
 obtain ⟨j, h1, h2, h3, h4, h5⟩ := ze1 he
 obtain ⟨w, ew, rw'⟩ := r.get h2
 have hl := r.length
 have hn := zdA
 have fin : EP X pins σ Q w s := ⟨z, H, I, rw', q⟩
 by_cases h0 : 0 <= i
 ·have hj : i.toNat = j := by
   rw [seqIndex_of h0 h5] at h1
   exact Option.some.inj h1
  exact item_listR pl.isList h0 (by omega) (by rw [hj]; simpa using ew) fin hs
 ·have hj : (i + (its.toArray.size : Int)).toNat = j := by
   rw [seqIndex_neg (by omega) h4] at h1
   rw [List.size_toArray, <- hl]
   exact Option.some.inj h1
  exact subscriptTail_builtinR (x := w) pl.isList.typeIs slot_list_getitem.lookup
   (wpAny_getItem_list_neg (Q := fun r s' => r = w /\ EP X pins σ Q r s') pl.isList (by omega) (by rw [List.size_toArray] <;> omega) (by omega) (by rw [hj]; simpa using ew) ⟨rfl, fin⟩) hs
theorem ix_tup : IxR X (rIxT X.K) := by
 intro value slice pins s σ H x y v u Q I rx ry h hs
 obtain ⟨p, xs, i, z, rfl, rfl, hq, he, q⟩ := h
 cases rx
 obtain ⟨t, rfl⟩ := ry
 obtain ⟨its, r, pl, hz⟩ := I.tuple hq
 obtain ⟨j, h1, h2, h3, h4, h5⟩ := ze1 he
 obtain ⟨w, ew, rw'⟩ := r.get h2
 have hl := r.length
 have hn := zdA
 have fin : EP X pins σ Q w s := ⟨z, H, I, rw', q⟩
 exact subscriptTail_builtinR (x := w) pl.typeIs slot_tuple_getitem.lookup
  (getItem_tuple (j := j) (Q := fun r s' => r = w /\ EP X pins σ Q r s') pl (by omega) (by omega) (by rw [List.size_toArray, <- hl]; exact h1) (by simpa using ew) ⟨rfl, fin⟩) hs
theorem ix_str : IxR X rIxS := by
 intro value slice pins s σ H x y v u Q I rx ry h hs
 obtain ⟨z, i, c, rfl, rfl, hz, he, q⟩ := h
 obtain ⟨t, rfl⟩ := rx
 obtain ⟨t', rfl⟩ := ry
 obtain ⟨j, h1, h2, h3, h4, h5⟩ := ze1 he
 have hl : z.cps.toList.length = z.length := by simp [Str.length]
 rw [hl] at h1 h4 h5
 have hn := zdA
 exact tail_any (typeIs_str s z t) slot_str_getitem.lookup (getItem_str (c := c) (by
  have e1 : decide (i < -(2 ^ 63 : Int)) = false := decide_eq_false (by omega)
  have e2 : decide (i ≥ 2 ^ 63) = false := decide_eq_false (by omega)
  rw [e1, e2, Bool.or_false]) (by rw [h1]; simpa using h2) ⟨.str ⟨#[c]⟩, H, I.tok _, ⟨_, rfl⟩, q⟩) hs
def rIx (K : PySem.W.Frag) : R2 := fun x y H Q => rIxL K x y H Q ∨ rIxT K x y H Q ∨ rIxS x y H Q
theorem ix_seq : IxR X (rIx X.K) := ix_list.or (ix_tup.or ix_str)
theorem zij (its : List Value) (n j : Nat) (u : Value) : Obj.mapSeq (·.setIfInBounds j u) { cls := .type "list", data := .seq its.toArray n } = { cls := .type "list", data := .seq (its.set j u).toArray n } := by
 simp [Obj.mapSeq]
theorem Inv.lst {pins : List (Addr × Obj)} {σ : St} {H : Hp} {s : Shared} {p : Addr} {xs : List V} (I : Inv X pins σ H s) (h : H p = some (.lst xs)) :
  ∃ (its : List Value) (n : Nat), Vals xs its /\ s.heap.get? p = some { cls := .type "list", data := .seq its.toArray n } /\ xs.length <= sizeLine := by
 obtain ⟨z, its, n, r, e⟩ := I.hok p _ h
 exact ⟨its, n, r, e, z⟩
theorem Inv.lstUpd {pins : List (Addr × Obj)} {σ : St} {H : Hp} {s : Shared} {p : Addr} {xs ys : List V} {its its' : List Value} {n n' : Nat} {f : Obj -> Obj} (I : Inv X pins σ H s) (h : H p = some (.lst xs))
  (ho : s.heap.get? p = some { cls := .type "list", data := .seq its.toArray n }) (hf : f { cls := .type "list", data := .seq its.toArray n } = { cls := .type "list", data := .seq its'.toArray n' }) (r : Vals ys its') (hz : ys.length <= sizeLine) (t : Nat) :
  Inv X pins σ (upd H p (.lst ys)) { s with heap := s.heap.update p f, toks := t } := by
 have e : (s.heap.update p f).get? p = some { cls := .type "list", data := .seq its'.toArray n' } := by
  rw [Heap.get?_update_self f ho (by rw [hf] <;> rfl), hf]
 refine I.write (x := p) (e := p) (by rw [h]; trivial) (.inl rfl) (fun b u hb q => (Heap.get?_update_other _ _ (Ne.symm hb)).trans q) ⟨_, e⟩ ?_
 exact ⟨hz, its', n', r, e⟩
def rSetL : V -> V -> V -> Hp -> (Hp -> Prop) -> Prop := fun o i v H Q => ∃ p xs k j, o = .ref p /\ i = .int k /\ H p = some (.lst xs) /\ ixN xs.length k = some j /\ Q (upd H p (.lst (xs.set j v)))
theorem zkX : PSet X rSetL := by
 intro pins s σ H o i v ov iv u Q I ro ri rv h
 obtain ⟨p, xs, k, j, rfl, rfl, hp, hj, q⟩ := h
 cases ro
 obtain ⟨t, rfl⟩ := ri
 obtain ⟨its, n, r, ho, hz⟩ := I.lst hp
 obtain ⟨h1, h2, h3, h4⟩ := zj8 hj
 have hl := r.length
 have hn := zdA
 have I' : Inv X pins σ (upd H p (.lst (xs.set j v))) { s with heap := s.heap.update p (Obj.mapSeq (·.setIfInBounds j u)) } :=
  I.lstUpd hp ho (zij its n j u) (r.set rv j) (by rw [List.length_set]; exact hz) s.toks
 by_cases h0 : 0 <= k
 ·have hk : k.toNat = j := by
   rw [seqIndex_of h0 h4] at h1
   exact Option.some.inj h1
  exact PySem.W.ki_setAt ho h0 (by omega) (by rw [List.size_toArray, <- hl]; exact h4) (by rw [hk]; exact ⟨_, I', q⟩)
 ·have hk : (k + (its.toArray.size : Int)).toNat = j := by
   rw [seqIndex_neg (by omega) h3] at h1
   rw [List.size_toArray, <- hl]
   exact Option.some.inj h1
  exact PySem.W.ki_setBack ho (by omega) (by rw [List.size_toArray, <- hl]; exact h3) (by omega) (by rw [hk]; exact ⟨_, I', q⟩)
theorem zfa (lo hi : Option Int) (n : Nat) : (sliceBounds lo hi none n).1 = ((HT.sIx n 0 lo : Nat) : Int) /\ (sliceBounds lo hi none n).2.1 = ((HT.sIx n n hi : Nat) : Int) /\ (sliceBounds lo hi none n).2.2 = 1 := by
 refine ⟨?_, ?_, rfl⟩
 ·cases lo with
  | none => simp [sliceBounds, HT.sIx]
  | some i =>
   simp only [sliceBounds, HT.sIx, Option.getD_none, show (1 : Int) > 0 by decide, if_true]
   by_cases h : i < 0
   ·simp only [h, if_true] <;> omega
   ·simp only [h, if_false] <;> omega
 ·cases hi with
  | none => simp [sliceBounds, HT.sIx]
  | some i =>
   simp only [sliceBounds, HT.sIx, Option.getD_none, show (1 : Int) > 0 by decide, if_true]
   by_cases h : i < 0
   ·simp only [h, if_true] <;> omega
   ·simp only [h, if_false] <;> omega
theorem zev (its : List Value) (lo hi : Option Int) : slicePick its.toArray lo hi none = ((its.drop (HT.sIx its.length 0 lo)).take (HT.sIx its.length its.length hi - HT.sIx its.length 0 lo)).toArray := by
 obtain ⟨h1, h2, h3⟩ := zfa lo hi its.toArray.size
 unfold slicePick
 rw [h1, h2, h3]
 simp only [sliceRange_one, pick_run, List.size_toArray] <;> rfl
def rSlL (K : PySem.W.Frag) : V -> Option Int -> Option Int -> Hp -> VK -> Prop := fun x lo hi H Q => ∃ a xs, x = .ref a /\ SqL K H a xs /\ ∀ p, H p = none -> Q (.ref p) (upd H p (.lst (zmm xs lo hi)))
theorem zmE : SlR X (rSlL X.K) := by
 intro pins s σ H x v vl vu lo hi sl Q I rx hs pl pu h
 obtain ⟨a, xs, rfl, hx, q⟩ := h
 cases rx
 obtain ⟨its, r, ht, hz⟩ := I.list hx
 have hlen := r.length
 refine ⟨"list", _, slot_list_getitem.lookup, ht.isList.typeIs, ?_⟩
 refine wpAny_getItem_list_slice ht.isList hs pl pu .none (by simp) ?_ (by rw [List.size_toArray] <;> omega)
 rw [zev, <- hlen]
 refine ⟨.ref s.heap.objs.size, _, I.laid (t' := s.toks) (o := .lst (zmm xs lo hi)) (fun b ob q => Heap.get?_push_of_some _ q) (Nat.le_refl _) ?_, rfl, q _ (I.hok.fresh (Nat.le_refl _))⟩
 exact ⟨Nat.le_trans (zdJ xs lo hi) hz, _, 0, (r.drop (HT.sIx xs.length 0 lo)).take (HT.sIx xs.length xs.length hi - HT.sIx xs.length 0 lo), Heap.get?_push_size _ rfl⟩
def zcC : V -> Bool
 | .non => true
 | .bl _ => true
 | .int _ => true
 | .str _ => true
 | _ => false
def eqV : V -> V -> Bool
 | .non, .non => true
 | .bl a, .bl b => a == b
 | .bl a, .int b => (if a then 1 else 0) == b
 | .int a, .bl b => a == (if b then 1 else 0)
 | .int a, .int b => a == b
 | .str a, .str b => a == b
 | _, _ => false
theorem eqAt_V {A : Around} {s : Shared} {y x : V} {u v : Value} (ry : RelV y u) (rx : RelV x v) (fy : zcC y = true) (fx : zcC x = true) : SeqAt.EqAt A s u v (eqV y x) := by
 cases y with
 | non =>
  cases ry
  cases x with
  | non => cases rx; exact SeqAt.EqAt.same _
  | bl b => cases rx; exact SeqAt.EqAt.none_bool b
  | int b => obtain ⟨t, rfl⟩ := rx; exact SeqAt.EqAt.none_int b t
  | str b => obtain ⟨t, rfl⟩ := rx; exact SeqAt.EqAt.none_str b t
  | _ => exact absurd (show false = true from fx) Bool.false_ne_true
 | bl a =>
  cases ry
  cases x with
  | non => cases rx; exact SeqAt.EqAt.bool_none a
  | bl b => cases rx; exact SeqAt.EqAt.bool_bool a b
  | int b => obtain ⟨t, rfl⟩ := rx; exact SeqAt.EqAt.bool_int a b t
  | str b => obtain ⟨t, rfl⟩ := rx; exact SeqAt.EqAt.bool_str a b t
  | _ => exact absurd (show false = true from fx) Bool.false_ne_true
 | int a =>
  obtain ⟨t', rfl⟩ := ry
  cases x with
  | non => cases rx; exact SeqAt.EqAt.int_none a t'
  | bl b => cases rx; exact SeqAt.EqAt.int_bool a t' b
  | int b => obtain ⟨t, rfl⟩ := rx; exact SeqAt.EqAt.int_int a t' b t
  | str b => obtain ⟨t, rfl⟩ := rx; exact SeqAt.EqAt.int_str a t' b t
  | _ => exact absurd (show false = true from fx) Bool.false_ne_true
 | str a =>
  obtain ⟨t', rfl⟩ := ry
  cases x with
  | non => cases rx; exact SeqAt.EqAt.str_none a t'
  | bl b => cases rx; exact SeqAt.EqAt.str_bool a t' b
  | int b => obtain ⟨t, rfl⟩ := rx; exact SeqAt.EqAt.str_int a t' b t
  | str b => obtain ⟨t, rfl⟩ := rx; exact SeqAt.EqAt.str_str a t' b t
  | _ => exact absurd (show false = true from fx) Bool.false_ne_true
 | _ => exact absurd (show false = true from fy) Bool.false_ne_true
def eqU (x : V) (u : Value) : Bool := match u with
 | .none => eqV .non x
 | .bool b => eqV (.bl b) x
 | .int i _ => eqV (.int i) x
 | .str z _ => eqV (.str z) x
 | _ => false
theorem eqU_of {x y : V} {u : Value} (r : RelV y u) (f : zcC y = true) : eqU x u = eqV y x := by
 cases y with
 | non => cases r; rfl
 | bl b => cases r; rfl
 | int i => obtain ⟨t, rfl⟩ := r; rfl
 | str z => obtain ⟨t, rfl⟩ := r; rfl
 | _ => exact absurd (show false = true from f) Bool.false_ne_true
theorem zeT {A : Around} {s : Shared} {x : V} {v : Value} (rx : RelV x v) (fx : zcC x = true) : ∀ {xs : List V} {us : List Value}, Vals xs us -> xs.all zcC = true -> ∀ u ∈ us, SeqAt.EqAt A s u v (eqU x u)
 | _, _, .nil, _ => fun u hu => by cases hu
 | y :: xs, u :: us, .cons r t, f => fun u' hu => by
  rw [List.all_cons, Bool.and_eq_true] at f
  rcases List.mem_cons.mp hu with rfl | hu
  ·rw [eqU_of r f.1]; exact eqAt_V r rx f.1 fx
  ·exact zeT rx fx t f.2 u' hu
theorem zfW : CallR X (.builtin "len") (fun xs H Q => ∃ p ys, xs = [.ref p] /\ (SqL X.K H p ys ∨ SqT X.K H p ys) /\ Q (.int ys.length) H) := by
 intro pins s σ H xs us Q I r h
 obtain ⟨p, ys, rfl, hq, q⟩ := h
 obtain ⟨u, rfl, rx⟩ := zbC r
 cases rx
 have hn := zdA
 rcases hq with hq | hq
 ·obtain ⟨its, r', pl, hz⟩ := I.list hq
  have hlen := r'.length
  exact Calls.call_len_list pl.isList (by simp only [List.size_toArray] <;> omega) ⟨.int ys.length, H, I.tok _, ⟨s.toks + 1, by rw [List.size_toArray, hlen]⟩, q⟩
 ·obtain ⟨its, r', pl, hz⟩ := I.tuple hq
  have hlen := r'.length
  exact len_tuple pl (by simp only [List.size_toArray] <;> omega) ⟨.int ys.length, H, I.tok _, ⟨s.toks + 1, by rw [List.size_toArray, hlen]⟩, q⟩
theorem zfV : CallR X (.builtin "len") (fun xs H Q => ∃ z, xs = [.str z] /\ z.length <= sizeLine /\ Q (.int z.length) H) := by
 intro pins s σ H xs us Q I r h
 obtain ⟨z, rfl, hz, q⟩ := h
 obtain ⟨u, rfl, t, rfl⟩ := zbC r
 have hn := zdA
 exact len_str (by omega) ⟨.int z.length, H, I.tok _, ⟨_, rfl⟩, q⟩
theorem CallR.or {f : Value} {r r' : List V -> Hp -> VK -> Prop} (h : CallR X f r) (h' : CallR X f r') : CallR X f (fun xs H Q => r xs H Q ∨ r' xs H Q) := by
 intro pins s σ H xs us Q I rs q
 rcases q with q | q
 ·exact h pins s σ H xs us Q I rs q
 ·exact h' pins s σ H xs us Q I rs q
theorem zfU : CallR X (.type "list") (fun xs H Q => ∃ p ys, xs = [.ref p] /\ (SqL X.K H p ys ∨ SqT X.K H p ys) /\ ∀ l, H l = none -> Q (.ref l) (upd H l (.lst ys))) := by
 intro pins s σ H xs us Q I r h
 obtain ⟨p, ys, rfl, hq, q⟩ := h
 obtain ⟨u, rfl, rx⟩ := zbC r
 cases rx
 have fin : ∀ (its : List Value), Vals ys its -> ys.length <= sizeLine -> ∀ (h' : Heap) (c' : Nat), (∀ b o', s.heap.get? b = some o' -> h'.get? b = some o') →
   h'.get? s.heap.objs.size = some { cls := .type "list", dict := none, data := .seq its.toArray c', slots := #[] } -> EP X pins σ Q (.ref s.heap.objs.size) { s with heap := h' } := fun its r' hz h' c' kp e =>
  ⟨.ref s.heap.objs.size, _, I.laid (t' := s.toks) kp (Nat.le_refl _) (show ObjOk X.prog X.w _ h' _ (.lst ys) from ⟨hz, its, c', r', e⟩), rfl, q _ (I.hok.fresh (Nat.le_refl _))⟩
 rcases hq with hq | hq
 ·obtain ⟨its, r', pl, hz⟩ := I.list hq
  have hlen := r'.length
  obtain ⟨o, ho, hc, n, hd⟩ := pl.isList
  exact call_list_seq p (.inl rfl) ho hc hd (fun h' c' kp e => fin its r' hz h' c' kp e) (by simp only [List.size_toArray] <;> omega)
 ·obtain ⟨its, r', pl, hz⟩ := I.tuple hq
  have hlen := r'.length
  obtain ⟨o, ho, hc, n, hd⟩ := pl
  exact call_list_seq p (.inr rfl) ho hc hd (fun h' c' kp e => fin its r' hz h' c' kp e) (by simp only [List.size_toArray] <;> omega)
theorem ze0 : CallR X (.type "tuple") (fun xs H Q => ∃ p ys, xs = [.ref p] /\ ((SqL X.K H p ys /\ ∀ l, H l = none -> Q (.ref l) (upd H l (.tup ys))) ∨ (SqT X.K H p ys /\ Q (.ref p) H))) := by
 intro pins s σ H xs us Q I r h
 obtain ⟨p, ys, rfl, h⟩ := h
 obtain ⟨u, rfl, rx⟩ := zbC r
 cases rx
 rcases h with ⟨hq, q⟩ | ⟨hq, q⟩
 ·obtain ⟨its, r', pl, hz⟩ := I.list hq
  have hlen := r'.length
  refine call_tuple_list pl.isList (fun h' kp => ?_) (by simp only [List.size_toArray] <;> omega)
  have I1 : Inv X pins σ H { s with heap := h' } := I.kept (t' := s.toks) kp
  have I2 : Inv X pins σ (upd H h'.objs.size (.tup ys)) { s with heap := h'.push { cls := .type "tuple", data := .seq its.toArray } } :=
   I1.laid (t' := s.toks) (fun b o e => Heap.get?_push_of_some _ e) (Nat.le_refl _) (show ObjOk X.prog X.w _ _ _ (.tup ys) from ⟨hz, its, r', IsTup.new _ _, _, Heap.get?_push_size _ rfl, rfl⟩)
  exact ⟨.ref h'.objs.size, _, I2, rfl, q _ (I1.hok.fresh (Nat.le_refl _))⟩
 ·obtain ⟨its, r', pl, hz⟩ := I.tuple hq
  exact call_tuple_same pl ⟨.ref p, H, I, rfl, q⟩
def tyV (K : PySem.W.Frag) (T : String) (x : V) (H : Hp) : Prop := match x with
 | .str _ => T = "str"
 | .int _ => T = "int"
 | .ref p => (T = "list" /\ ∃ xs, SqL K H p xs) ∨ (T = "tuple" /\ ∃ o, K.lookup p = some o /\ o.cls = .type "tuple" /\ o.dict = none) ∨
   (T = "dict" /\ ((∃ kvs, H p = some (.dK kvs)) ∨ ∃ kvs, H p = some (.dT kvs))) ∨ (T = "set" /\ ∃ S n, H p = some (.set S n))
 | _ => False
theorem tyV_is {pins : List (Addr × Obj)} {σ : St} {H : Hp} {s : Shared} {T : String} {x : V} {v : Value} (I : Inv X pins σ H s) (r : RelV x v) (ty : tyV X.K T x H) :
  s.TypeIs v T /\ ∀ a, v = .ref a -> ∃ ob, s.heap.get? a = some ob /\ ob.dict = none := by
 cases x with
 | str z =>
  obtain ⟨t, rfl⟩ := r
  cases (show T = "str" from ty)
  exact ⟨typeIs_str s z t, fun _ e => nomatch e⟩
 | int i =>
  obtain ⟨t, rfl⟩ := r
  cases (show T = "int" from ty)
  exact ⟨typeIs_int s i t, fun _ e => nomatch e⟩
 | ref p =>
  cases r
  rcases ty with ⟨rfl, xs, hq⟩ | ⟨rfl, o, hk, hc, hd⟩ | ⟨rfl, hk⟩ | ⟨rfl, S, n, hk⟩
  ·obtain ⟨its, _, pl, _⟩ := I.list hq
   refine ⟨pl.isList.typeIs, fun a e => ?_⟩
   cases e
   obtain ⟨o, n, e, c, hd, _⟩ := pl
   exact ⟨o, e, hd⟩
  ·refine ⟨⟨o, I.kIn p o hk, hc⟩, fun a e => ?_⟩
   cases e
   exact ⟨o, I.kIn _ o hk, hd⟩
  ·have z : ∃ o, s.heap.get? p = some o /\ o.ExactDict := by
    rcases hk with ⟨kvs, hk⟩ | ⟨kvs, hk⟩
    ·obtain ⟨_, _, _, _, o, _, _, e, ex, _⟩ := I.hok p _ hk
     exact ⟨o, e, ex⟩
    ·obtain ⟨_, _, _, _, o, _, _, e, ex, _⟩ := I.hok p _ hk
     exact ⟨o, e, ex⟩
   obtain ⟨o, e, ex⟩ := z
   refine ⟨⟨o, e, ex.1⟩, fun a e2 => ?_⟩
   cases e2
   exact ⟨o, e, ex.2.1⟩
  ·obtain ⟨o, _, _, _, e, ex, _⟩ := I.hok p _ hk
   refine ⟨⟨o, e, ex.1⟩, fun a e2 => ?_⟩
   cases e2
   exact ⟨o, e, ex.2.1⟩
 | _ => exact False.elim ty
def tBM (K : PySem.W.Frag) (T : String) (r : V -> List V -> Hp -> VK -> Prop) (to : TE) (t : TA) : TE := fun σ H Q => to σ H fun x H1 => tyV K T x H1 /\ t σ H1 fun xs H2 => r x xs H2 Q
variable {o e : Expr} {es : List Expr} {to : TE} {t : TA} {name : Str} {apos cpos : Pos} {T id : String} {r : V -> List V -> Hp -> VK -> Prop}
theorem pe_bm (pa : PlainAttrs T) (slot : Slot T name id) (hty : typeOf (.builtin id) = pure (.type "method_descriptor")) (hm : MtR X id r) (ho : PE X o to) (ha : PA X (e :: es) t)
  (hbase : autoParam (attributeBase o name X.env (eval o X.env) = eval o X.env) AutoP.a3._auto_1)
  (hfew : autoParam (((backTo cpos (starEach (e :: es) X.env)).all (fun x => !x.1) && (backToKw cpos (keywordEach [] X.env)).all (fun x => x.1.isSome)
   && decide ((e :: es).length + ([] : List Keyword).length + (if ([] : List Keyword).isEmpty then 0 else 1) < 30)) = true) AutoP.a3._auto_1)
  (hline : autoParam ((apos.endLine == cpos.line) = true) AutoP.a3._auto_1) (hs : autoParam (starEach (e :: es) X.env = (false, eval e X.env) :: starEach es X.env) AutoP.a3._auto_1) (hplain : autoParam ((backTo cpos (starEach es X.env)).any (·.1) = false) AutoP.a3._auto_1) :
  PE X (.Call (.Attribute o name apos) (e :: es) [] cpos) (tBM X.K T r to t) := by
 intro pins s σ H Q I h
 refine wpAny_Call_method_late hbase hfew hline rfl (thn (ho pins s σ H _ I h) fun v s1 ⟨x, H1, I1, r1, ty, q1⟩ => ?_)
 obtain ⟨h1, h2⟩ := tyV_is I1 r1 ty
 refine ⟨T, id, pa, slot, hty, h1, h2, ?_⟩
 have hA := ha cpos pins s1 σ H1 _ I1 q1
 rw [hs] at hA ⊢
 refine Calls.callWith_builtin (by show (false || (backTo cpos (starEach es X.env)).any (·.1)) = false; rw [hplain] <;> rfl) (Calls.evalArgs_plain ?_)
 exact thn hA fun us s2 ⟨vs, H2, I2, r2, q2⟩ => hm pins s2 σ H2 x vs v us Q I2 r1 r2 q2
/- xs.append(e), list.index on a module's tuple .. are MtR facts of 06m -/
end
def MtM (X : Cx) (id : String) (r : V -> List V -> Hp -> VK -> Prop) : Prop :=
 ∀ (pins : List (Addr × Obj)) (s : Shared) (σ : St) (H : Hp) (x : V) (xs : List V) (v : Value) (us : List Value) (Q : VK), Inv X pins σ H s -> RelV x v -> Vals xs us -> r x xs H Q →
  wpAny (model X.prog X.w) X.A (call (.builtin id) (v :: us)) (EP X pins σ Q) X.xe s
theorem Vals.one : ∀ {x : V} {us : List Value}, Vals [x] us -> ∃ u, us = [u] /\ RelV x u
 | _, _, .cons r .nil => ⟨_, rfl, r⟩
theorem Vals.eraseIdx : ∀ {xs : List V} {us : List Value} (i : Nat), Vals xs us -> Vals (xs.eraseIdx i) (us.eraseIdx i)
 | _, _, _, .nil => .nil
 | _, _, 0, .cons _ t => t
 | _, _, i + 1, .cons r t => .cons r (Vals.eraseIdx i t)
theorem Vals.reverse {xs : List V} {us : List Value} (h : Vals xs us) : Vals xs.reverse us.reverse := by
 induction h with
 | nil => exact .nil
 | cons r t ih => rw [List.reverse_cons, List.reverse_cons]; exact Vals.append ih (.cons r .nil)
theorem zfD {α : Type} : ∀ (l : List α) (i : Nat), (l.eraseIdx i).length <= l.length
 | [], _ => Nat.le_refl _
 | _ :: _, 0 => Nat.le_succ _
 | _ :: r, i + 1 => Nat.succ_le_succ (zfD r i)
section
variable {X : Cx} {pins : List (Addr × Obj)} {σ : St} {H : Hp} {s : Shared} {l b : Addr} {xs ys zs : List V}
theorem Inv.lset {its its' : List Value} {n : Nat} {f : Array Value -> Array Value} {t' : Nat} (I : Inv X pins σ H s) (hH : H l = some (.lst xs))
  (e : s.heap.get? l = some { cls := .type "list", data := .seq its.toArray n }) (hf : f its.toArray = its'.toArray) (hv : Vals ys its') (hz : ys.length <= sizeLine) :
  Inv X pins σ (upd H l (.lst ys)) { s with heap := s.heap.update l (Obj.mapSeq f), toks := t' } := by
 have q := PySem.IsL.update e f
 rw [hf] at q
 refine I.write (x := l) (e := l) (by rw [hH]; exact trivial) (.inl rfl) (fun b' u hb hu => (Heap.get?_update_other s.heap (Obj.mapSeq f) (Ne.symm hb)).trans hu) ⟨_, q⟩ ?_
 exact ⟨hz, its', _, hv, q⟩
theorem Inv.lnew {its : List Value} {t' : Nat} (I : Inv X pins σ H s) (hv : Vals ys its) (hz : ys.length <= sizeLine) :
  Inv X pins σ (upd H s.heap.objs.size (.lst ys)) { s with heap := s.heap.push { cls := .type "list", data := .seq its.toArray }, toks := t' } :=
 I.laid (fun _ _ q => Heap.get?_push_of_some _ q) (Nat.le_refl _) ⟨hz, its, 0, hv, Heap.get?_push_size _ rfl⟩
theorem Inv.fresh (I : Inv X pins σ H s) : H s.heap.objs.size = none := I.hok.fresh (Nat.le_refl _)
theorem Inv.lstM (I : Inv X pins σ H s) (hH : H l = some (.lst xs)) : xs.length <= sizeLine /\ ∃ (its : List Value) (n : Nat), Vals xs its /\ xs.length = its.length /\ s.heap.get? l = some { cls := .type "list", data := .seq its.toArray n } := by
 obtain ⟨z, its, n, r, e⟩ := I.hok l _ hH
 exact ⟨z, its, n, r, r.length, e⟩
end
section
variable {X : Cx}
def zjf : V -> List V -> Hp -> VK -> Prop := fun x vs H Q => ∃ l xs y, x = .ref l /\ vs = [y] /\ H l = some (.lst xs) /\ xs.length < sizeLine /\ Q .non (upd H l (.lst (xs ++ [y])))
theorem zfx : MtM X "list.append" zjf := by
 intro pins s σ H x vs v us Q I rx rv h
 obtain ⟨l, xs, y, rfl, rfl, hH, hz, q⟩ := h
 cases rx
 obtain ⟨u, rfl, ru⟩ := rv.one
 obtain ⟨z, its, n, r, hl, e⟩ := I.lstM hH
 refine call_meets F.slot_list_append ⟨_, e, rfl⟩ F.entry_list_append (F.args_list_append_2 _ _) (PySem.list_append l its.toArray n u (by rw [List.size_toArray]; omega)) ⟨e, ?_⟩
 refine ⟨.non, _, I.lset (its' := its ++ [u]) hH e (by simp) (r.append (.cons ru .nil)) ?_, rfl, q⟩
 rw [List.length_append, List.length_singleton]
 omega
def zl2 : V -> List V -> Hp -> VK -> Prop := fun x vs H Q => ∃ l xs i k y, x = .ref l /\ vs = [.int i] /\ H l = some (.lst xs) /\ -(2 ^ 63) <= i /\ i < 2 ^ 63 /\ seqIndex? i xs.length = some k /\ xs[k]? = some y /\ Q y (upd H l (.lst (xs.eraseIdx k)))
theorem zlp : MtM X "list.pop" zl2 := by
 intro pins s σ H x vs v us Q I rx rv h
 obtain ⟨l, xs, i, k, y, rfl, rfl, hH, h1, h2, hk, hy, q⟩ := h
 cases rx
 obtain ⟨u, rfl, ru⟩ := rv.one
 obtain ⟨t, rfl⟩ := ru
 obtain ⟨z, its, n, r, hl, e⟩ := I.lstM hH
 obtain ⟨w, hw, rw'⟩ := r.get hy
 refine call_meets F.slot_list_pop ⟨_, e, rfl⟩ F.entry_list_pop (F.args_list_pop_2 _ _)
  (MeetsSeq.list_pop_at l its.toArray n i t k w (fitsIndex_both h1 h2) (by rw [List.size_toArray, <- hl]; exact hk) (by rw [<- Array.getElem?_toList]; exact hw) (by rw [List.size_toArray]; omega)) ⟨e, ?_⟩
 refine ⟨y, _, I.lset (its' := its.eraseIdx k) hH e ?_ (r.eraseIdx k) ?_, rw', q⟩
 ·show its.toArray.eraseIdxIfInBounds k = (its.eraseIdx k).toArray
  rw [List.eraseIdxIfInBounds_toArray]
 ·have := zfD xs k
  omega
end
end L2
namespace Att
open PySem PySem.W PySem.Calls PyProof.Rows
theorem zdD {P : Params} {h : Heap} : ∀ (ns : List Int) (vs : List Value), WellAll P h vs (ns.map WData.int) -> IntsAre vs ns := by
 intro ns
 induction ns with
 | nil =>
  intro vs w
  rw [List.map_nil] at w
  cases w
  exact .nil
 | cons n ns ih =>
  intro vs w
  rw [List.map_cons] at w
  cases w with
  | cons a b =>
   cases a
   exact .cons _ _ (ih _ b)
theorem ziW {l : OpenLaw} {n : Nat} (hn : l.most = some n) {P : Params} {h : Heap} {args : List WData} {vals : List Value}
  (hpre : l.row.toRowW.claim.pre args = true) (hwl : WellAll P h vals args) :
  ∃ a vs ns, vals = [Value.ref a] /\ args = [WData.list (ns.map WData.int)] /\ h.get? a = some { cls := .type "list", data := .seq vs.toArray } /\ IntsAre vs ns /\ ns.length <= n := by
 have hsh : WShape.hasAll [] args [.list .int] = true := (pre_splitW hpre).1
 have hc : l.pre.holds [] { args := args } = true := (pre_splitW hpre).2
 obtain ⟨d, r, rfl, h1, h2⟩ := hasAllW_cons hsh
 obtain rfl := hasAllW_nil h2
 obtain ⟨xs, rfl, h3⟩ := hasW_list h1
 obtain ⟨ns, rfl⟩ := items_int h3
 have hlen : ns.length <= n := by
  unfold OpenLaw.pre at hc
  have h4 : (WTm.not (.lt (.lit (.int (n : Int))) (.len (.arg 0)))).holds [] { args := [.list (ns.map .int)] } = true := by
   have h4 := (holds_andW hc).1
   rw [hn] at h4
   exact h4
  have h5 := condW_of h4 (w_not (w_lt w_lit (w_len_list (w_arg rfl))))
  rw [List.length_map] at h5
  refine Nat.le_of_not_lt fun q => ?_
  have q' : (n : Int) < ((ns.length : Nat) : Int) := by omega
  first
   | (rw [decide_eq_true q'] at h5; exact absurd h5 (by decide))
   | (simp at h5; omega)
 cases hwl with
 | cons w1 w2 =>
  cases w2
  cases w1 with
  | list ho hall => exact ⟨_, _, ns, rfl, rfl, ho, zdD ns _ hall, hlen⟩
theorem zjo (l : OpenLaw) (args : List WData) : l.row.toRowW.claim.post args (.bool true) args = true :=
 postW_of (r := l.row.toRowW) (X := (true == true))
  (show WShape.has [] (.bool true) .bool = true by first | rfl | decide | simp [WShape.has, WShape.arms, WShape.armsAll])
  (show (WTm.eq .res (.lit (.bool true))).value [] { args := args, res := some (.bool true), after := args } = some (.bool (true == true)) from w_eq_bool (w_res rfl) w_lit) rfl
theorem attach_call {l : OpenLaw} {n : Nat} {q : Program} {loose : List Str} {XP : (Str -> Option Value) -> Heap -> Prop} {YP : World -> Heap -> Prop} {d : DefRec}
  (hn : l.most = some n) (hdf : d.params.defaults = [])
  (call : ∀ (w : World) (s₀ s₁ : Shared) (mg mb : Str -> Option Value) (fa : Addr) (o : Obj) (pm cd doc : Value) (a : Addr) (vs : List Value) (ns : List Int),
   Ground q loose [] XP w s₀ mg mb s₁.heap -> YP w s₁.heap →
   s₁.heap.get? fa = some o -> o.data = .func (docDef d.name d.params d.body d.scope pm cd doc) -> s₁.heap.CodeRec cd d.name -> mg d.name = some (.ref fa) →
   s₁.heap.get? a = some { cls := .type "list", data := .seq vs.toArray } -> IntsAre vs ns -> ns.length <= n -> s₁.gens = #[] →
   codeAny (model l.prog w) callerA (.call (.ref fa) ⟨[.ref a], []⟩) (fun r s' => r = .ok (.ret (.bool true)) /\ OldK s₁.heap s'.heap /\ s'.os = s₁.os /\ AllBare s'.gens) s₁) :
  WalkO q loose XP YP l.row.toRowW d [] (fun f vs => PySem.call f vs) := by
 intro w s₀ s₁ mg mb G Y fa o pm cd doc dV kV ho hd hcd hD hmg hg args vals as hpre hlay hrd hwl hlo
 obtain rfl : dV = .none := Dflts.none hD hdf
 obtain rfl : kV = .none := Dflts.noKw hD
 obtain ⟨a, vs, ns, rfl, rfl, hobj, hints, hlen⟩ := ziW hn hpre hwl
 refine enter_call (codeAny_mono (call w s₀ s₁ mg mb fa o pm cd doc a vs ns G Y ho (fd_plain hd) hcd hmg hobj hints hlen hg) fun r s' hq => ?_)
 obtain ⟨rfl, h2, h3, h4⟩ := hq
 exact ⟨.inl ⟨.bool true, .bool true, [], rfl, fun _ => rfl, .bool true, zjo l _, fun _ => ⟨List.Pairwise.nil, fun _ hm => (nomatch hm)⟩⟩, h2, h3, h4⟩
section
variable {prog : Program} {w : World} {A : Around} {E : Value -> Shared -> Prop} {s : Shared} {K : Frag}
end
end Att
namespace L2
open PySem PySem.Spec PyProof.Rows
theorem ze4 : ∀ {vs : List Value} {ns : List Int}, IntsAre vs ns -> Vals (ns.map V.int) vs
 | _, _, .nil => .nil
 | _, _, .cons n t h => .cons ⟨t, rfl⟩ (ze4 h)
def Only (H : Hp) : Prop := ∀ b, H b = none ∨ ∃ o xs, H b = some (.frz o (.lst xs))
theorem zlt {P : Program} {w : World} {K : PySem.W.Frag} {mg mb : Str -> Option Value} {CX : CXT} {k : Nat} {fa a : Addr} {fd : FuncData} {x : Str} {sp : Sp} {s₁ : Shared} {vs : List Value} {ns : List Int}
  (KX : K.In s₁.heap) (hns : s₁.heap.Ns mainGlobals mg) (hb : s₁.heap.Ns builtinsNs mb) (hbb : ∀ x : Str, x ≠ "__name__" -> mb x = bootBuiltins x) (hlim : s₁.heap.NoLimit) (hg : s₁.gens = #[])
  (ha : s₁.heap.get? a = some { cls := .type "list", data := .seq vs.toArray }) (hi : IntsAre vs ns) (hl : ns.length <= sizeLine) (hr : Room k callerA)
  (F : ∀ base : Heap, K.In base -> base.Ns mainGlobals mg -> FnOk P w K mg base CX k fa fd [x] sp) (hbind : ∀ (s : Shared) (u : Value), BindsTo s fd ⟨[u], []⟩ [(x, u)])
  (hsp : ∀ H : Hp, Only H -> SqL K H a (ns.map V.int) -> sp [.ref a] H (fun v _ => v = .bl true) fun _ _ _ => False)
  (hCX : ∀ H e s', CX [] H s₁ (fun _ _ _ => False) e s' -> False) :
  codeAny (model P w) callerA (.call (.ref fa) ⟨[.ref a], []⟩) (fun r s' => r = .ok (.ret (.bool true)) /\ OldK s₁.heap s'.heap /\ s'.os = s₁.os /\ AllBare s'.gens) s₁ := by
 have rv := ze4 hi
 have lenV := hi.length
 have core : ∀ H : Hp, Only H -> SqL K H a (ns.map V.int) -> HOk P w H s₁.heap -> (∀ b, H b ≠ none -> b = a) -> (H a ≠ none -> K.lookup a = none) →
   codeAny (model P w) callerA (.call (.ref fa) ⟨[.ref a], []⟩) (fun r s' => r = .ok (.ret (.bool true)) /\ OldK s₁.heap s'.heap /\ s'.os = s₁.os /\ AllBare s'.gens) s₁ := by
  intro H hO hS hok hA hK
  have base_of : ∀ {b : Addr} {o : Obj}, s₁.heap.get? b = some o -> H b = none -> (zlD s₁.heap H).get? b = some o := fun e n => zlC e n
  have noA : ∀ {b : Addr} {o : Obj} {es : Array DictEntry} {ep : Nat}, s₁.heap.get? b = some o -> o.data = .dict es ep -> H b = none := fun {b o es ep} e d => by
   cases q : H b with
   | none => rfl
   | some u =>
    have e' : b = a := hA b (by rw [q]; simp)
    subst e'
    rw [ha] at e; cases e
    have d' : Data.seq vs.toArray _ = Data.dict es ep := d
    cases d'
  have nsK : ∀ {b : Addr} {m : Str -> Option Value}, s₁.heap.Ns b m -> (zlD s₁.heap H).Ns b m := fun {b m} ⟨o, es, ep, e, d, r⟩ => ⟨o, es, ep, base_of e (noA e d), d, r⟩
  have hKb : K.In (zlD s₁.heap H) := fun b o e => base_of (KX b o e) (by
   cases q : H b with
   | none => rfl
   | some u =>
    have e' : b = a := hA b (by rw [q]; simp)
    subst e'
    rw [hK (by rw [q]; simp)] at e; cases e)
  have hM : Mod K mg (zlD s₁.heap H) := ⟨hKb, nsK hns, ⟨mb, nsK hb, hbb⟩, let ⟨mc, h1, h2⟩ := hlim; ⟨mc, nsK h1, h2⟩⟩
  have e0 : Env0 P w K mg (zlD s₁.heap H) callerA [] s₁ H := ⟨rfl, hM, fun b o e => zno e, Nat.le_of_eq (zkc _ _), trivial, fun b hb => absurd (show b ∈ ([] : List Addr) from hb) (by simp), hok, .of_eq hg⟩
  refine codeAny_mono ((F _ hKb (nsK hns)).run callerA [] s₁ H ⟨[.ref a], []⟩ [.ref a] [.ref a] _ _ hr e0 (hbind s₁ (.ref a)) (.cons rfl .nil) (hsp H hO hS)) fun r s' h => ?_
  cases r with
  | error e => exact (hCX H e s' h).elim
  | ok fl =>
   cases fl with
   | next => exact False.elim h
   | brk => exact False.elim h
   | cont => exact False.elim h
   | ret u =>
    obtain ⟨v, H', os, bare, un, hok', r', q⟩ := h
    have q' : v = .bl true := q
    subst q'
    obtain rfl : u = Value.bool true := r'
    refine ⟨rfl, OldK.of_keep fun b o e => ?_, os, bare⟩
    cases q : H b with
    | none => exact un.keep b o e q (by intro z; exact absurd (show b ∈ ([] : List Addr) from z) (by simp)) (by simp)
    | some u =>
     rcases hO b with z | ⟨ob, xs, z⟩
     ·rw [q] at z; cases z
     ·have z2 := un.frzs b ob _ z
      obtain ⟨e1, _⟩ := hok b _ z
      obtain ⟨e2, _⟩ := hok' b _ z2
      rw [e] at e1; cases e1
      exact e2
 cases hk : K.lookup a with
 | some o =>
  have e := KX a o hk
  rw [ha] at e
  cases e
  refine core (fun _ => none) (fun _ => .inl rfl) (.inr ⟨_, vs.toArray, _, hk, rfl, rfl, rfl, by rw [List.size_toArray, lenV]; exact hl, by simpa using rv⟩) (fun b u z => by have z' : (none : Option HO) = some u := z; cases z') (fun b z => absurd rfl z) fun z => absurd rfl z
 | none =>
  refine core (fun b => if b = a then some (.frz { cls := .type "list", data := .seq vs.toArray } (.lst (ns.map V.int))) else none) (fun b => ?_) (.inl (.inr ⟨{ cls := .type "list", data := .seq vs.toArray }, if_pos rfl⟩)) (fun b u z => ?_) (fun b z => ?_) fun _ => hk
  ·by_cases hb : b = a
   ·exact .inr ⟨_, _, if_pos hb⟩
   ·exact .inl (if_neg hb)
  ·by_cases hb : b = a
   ·have z' := (if_pos hb).symm.trans z
    cases z'
    subst hb
    exact ⟨ha, by rw [List.length_map]; exact hl, vs, _, rv, ha⟩
   ·have z' := (if_neg hb).symm.trans z
    cases z'
  ·by_cases hb : b = a
   ·exact hb
   ·exact absurd (if_neg hb) z
theorem zmq {l : PySem.W.OpenLaw} {n k : Nat} {q : Program} {loose : List Str} {XP : (Str -> Option Value) -> Heap -> Prop} {YP : World -> Heap -> Prop} {d : DefRec} {K : Params -> PySem.W.Frag} {CX : World -> CXT} {sp : World -> Sp} {x : Str}
  (hn : l.most = some n) (hn2 : n <= sizeLine) (hdf : d.params.defaults = []) (hr : Room k callerA)
  (hY : ∀ (w : World) (h : Heap), YP w h -> (K w.params).In h)
  (F : ∀ (w : World) (mg : Str -> Option Value) (fa : Addr) (h : Heap), (K w.params).In h -> h.Ns mainGlobals mg -> mg d.name = some (.ref fa) →
   ∃ fd : FuncData, (∀ (s : Shared) (u : Value), BindsTo s fd ⟨[u], []⟩ [(x, u)]) ∧
    ∀ base : Heap, (K w.params).In base -> base.Ns mainGlobals mg -> FnOk l.prog w (K w.params) mg base (CX w) k fa fd [x] (sp w))
  (hsp : ∀ (w : World) (H : Hp) (a : Addr) (ns : List Int), ns.length <= n -> Only H -> SqL (K w.params) H a (ns.map V.int) -> sp w [.ref a] H (fun v _ => v = .bl true) fun _ _ _ => False)
  (hCX : ∀ (w : World) (H : Hp) (s : Shared) (e : Value) (s' : Shared), CX w [] H s (fun _ _ _ => False) e s' -> False) :
  PySem.W.WalkO q loose XP YP l.row.toRowW d [] (fun f vs => PySem.call f vs) := by
 refine Att.attach_call hn hdf fun w s₀ s₁ mg mb fa o pm cd doc a vs ns G Y ho hd hcd hmg hobj hints hlen hg => ?_
 have KX := hY w _ Y
 obtain ⟨fd, hb, hF⟩ := F w mg fa _ KX G.T.g hmg
 exact zlt KX G.T.g G.T.b G.T.builtins G.T.nolimit hg hobj hints (Nat.le_trans hlen hn2) hr hF hb (fun H hO hS => hsp w H a ns hlen hO hS) fun H e s' => hCX w H s₁ e s'
theorem walk_ofK {l : PySem.W.OpenLaw} {n k : Nat} {q : Program} {loose : List Str} {XP : (Str -> Option Value) -> Heap -> Prop} {YP : World -> Heap -> Prop} {d : DefRec} {K : Params -> PySem.W.Frag} {CX : CXT} {sp : PySem.W.Frag -> Sp} {x : Str}
  (hn : l.most = some n) (hn2 : n <= sizeLine) (hdf : d.params.defaults = []) (hr : Room k callerA)
  (hY : ∀ (w : World) (h : Heap), YP w h -> (K w.params).In h)
  (F : ∀ (w : World) (mg : Str -> Option Value) (fa : Addr) (h : Heap), (K w.params).In h -> h.Ns mainGlobals mg -> mg d.name = some (.ref fa) →
   ∃ fd : FuncData, (∀ (s : Shared) (u : Value), BindsTo s fd ⟨[u], []⟩ [(x, u)]) ∧
    ∀ base : Heap, (K w.params).In base -> base.Ns mainGlobals mg -> FnOk l.prog w (K w.params) mg base CX k fa fd [x] (sp (K w.params)))
  (hsp : ∀ (K : PySem.W.Frag) (H : Hp) (a : Addr) (ns : List Int), ns.length <= n -> Only H -> SqL K H a (ns.map V.int) -> sp K [.ref a] H (fun v _ => v = .bl true) fun _ _ _ => False)
  (hCX : ∀ (H : Hp) (s : Shared) (e : Value) (s' : Shared), CX [] H s (fun _ _ _ => False) e s' -> False) :
  PySem.W.WalkO q loose XP YP l.row.toRowW d [] (fun f vs => PySem.call f vs) :=
 zmq (K := K) (CX := fun _ => CX) (sp := fun w => sp (K w.params)) hn hn2 hdf hr hY F (fun w H a ns h1 h2 h3 => hsp (K w.params) H a ns h1 h2 h3) fun _ H s e s' => hCX H s e s'
end L2
/- THE LAST THEOREM (shape; LID, My.* are yours):
   My.Adr: a structure of the addresses that your layer names (classes, functions); My.Txt K t: a structure (Prop) of the equations over K;
   My.txt_mk : {K} {implicit addresses ..} (e1 : nsIn K mainGlobals "law" = some (some (.ref f))) (e2 : K.lookup f = some ⟨oc, od, .func (fnOf "law" "law" params body scope dV kV doc pm an cdv ct), sl⟩) (e3 : codeIn K cdv "law" = true) .. : ∃ t, My.Txt K t
(the tactic k_is has no namespace: write k_is) -/
namespace L2
open PySem PySem.Spec PyProof.Rows
def zkb (s : Stmt) (j : Nat) : Stmt := match s with
 | .ClassDef _ _ _ body _ _ _ _ _ _ _ => body.getD j (.Pass ⟨0, 0, 0, 0⟩)
 | _ => .Pass ⟨0, 0, 0, 0⟩
def zcQ (s : Stmt) : Arguments := match s with
 | .FunctionDef _ a _ _ _ _ _ _ _ _ => a
 | _ => { posonlyargs := [], args := [], vararg := none, kwonlyargs := [], kw_defaults := [], kwarg := none, defaults := [] }
def za0 (s : Stmt) : List Stmt := match s with
 | .FunctionDef _ _ b _ _ _ _ _ _ _ => b
 | _ => []
def zah (s : Stmt) : Scope := match s with
 | .FunctionDef _ _ _ _ _ _ sc _ _ _ => sc
 | _ => { kind := .function, names := [], isGenerator := false, isCoroutine := false }
abbrev CX0 : CXT := fun _ _ _ _ _ _ => False
abbrev E0 : XK := fun _ _ _ => False
theorem pass0 {X : Cx} : zkJ CX0 X E0 := fun _ _ _ _ _ _ _ h => h.elim
structure Fun (K : PySem.W.Frag) (x qual : Str) (st : Stmt) (f : Addr) (fd : FuncData) : Prop where
 ex : ∃ (oc : Value) (od : Option Addr) (kV doc pm : Value) (an : Option Addr) (cdv ct : Value) (osl : Array (Option Value)),
  fd = PySem.W.fnOf x qual (zcQ st) (za0 st) (zah st) .none kV doc pm an cdv ct /\ K.lookup f = some ⟨oc, od, .func fd, osl⟩ /\ PySem.W.codeIn K cdv qual = true
 kp : PySem.W.keepIn K (.ref f) = true
section
variable {P : Program} {w : World} {K : PySem.W.Frag} {mg : Str -> Option Value} {base : Heap}
theorem Fun.ok {x qual : Str} {st : Stmt} {f : Addr} {fd : FuncData} {N ps : List Str} {k : Nat} {sp : Sp} (F : Fun K x qual st f fd) (S : FnScope N ps (zah st)) (len : ∀ vs H Q E, sp vs H Q E -> vs.length = ps.length)
  (hbody : ∀ (cdv : Value) (A : Around) (outer : List Env) (s : Shared) (H : Hp) (vs : List V) (Q : VK) (E : XK), Room k (A.deeper (envOfC qual (zah st) s.heap.objs.size f cdv)) -> sp vs H Q E →
   ∃ t, PSs (zfQ CX0 P w K mg base N qual (zah st) f cdv A outer s H E).nox (za0 st) t /\ t { nx := fun _ H' => Q .non H', rt := Q } (start N vs) H) : FnOk P w K mg base CX0 (k + 1) f fd ps sp := by
 obtain ⟨oc, od, kV, doc, pm, an, cdv, ct, osl, rfl, lk, hcd⟩ := F.ex
 refine fn_of lk hcd S len fun A outer s H vs Q E hr hsp => ?_
 obtain ⟨t, h, q⟩ := hbody cdv A outer s H vs Q E hr hsp
 exact ⟨t, h.nox, q⟩
theorem Fun.binds {x qual : Str} {st : Stmt} {f : Addr} {fd : FuncData} {ps : List Str} (F : Fun K x qual st f fd)
  (h : ∀ (kV doc pm : Value) (an : Option Addr) (cdv ct : Value) (us : List Value), us.length = ps.length -> bindArgs (PySem.W.fnOf x qual (zcQ st) (za0 st) (zah st) .none kV doc pm an cdv ct) ⟨us, []⟩ = pure (ps.zip us)) : Binds K fd ps [] := by
 obtain ⟨oc, od, kV, doc, pm, an, cdv, ct, osl, rfl, lk, hcd⟩ := F.ex
 exact .all (h kV doc pm an cdv ct)
end
theorem znJ {A : Around} {k : Nat} (hr : Room k A) : A.units + 1 < cLine := Nat.lt_of_le_of_lt (Nat.add_le_add_left (by decide : 1 <= 64) _) hr.units
def Same (H H' : Hp) : Prop := ∀ b o, H b = some o -> H' b = some o
theorem Same.refl (H : Hp) : Same H H := fun _ _ h => h
end L2
set_option autoImplicit false
namespace MD
open PySem PySem.Spec PyProof.Rows L2
def Kof (n : Nat) (h : Heap) : PySem.W.Frag := (List.range n).filterMap fun a => (h.get? a).map fun o => (a, o)
abbrev FnT := Option (Str × Str × Arguments × List Stmt × Scope)
def ziI (v : Value) : Bool := match v with
 | .none => true
 | _ => false
def fnV (K : PySem.W.Frag) (f : Addr) : FnT × Bool := match K.lookup f with
 | some ⟨_, _, .func ⟨x, q, ps, .stmts b, sc, gl, [], dv, _, _, _, _, cd, _, bl⟩, _⟩ => (some (x, q, ps, b, sc), Nat.beq gl mainGlobals && Nat.beq bl builtinsNs && ziI dv && PySem.W.codeIn K cd q)
 | _ => (none, false)
def viewOf (keep : List Nat) (p : Program) : Program := { p with main := { p.main with body := keep.filterMap fun i => p.main.body[i]? } }
def isX (c d : Str) : Bool := c == d || d == "HeadError" || d == "ValueError"
def bmV : List Value := [.type "ValueError", .type "Exception", .type "BaseException", .type "object"]
def askB (K : PySem.W.Frag) (C : Addr) : Bool := PySem.W.findIn K (.ref C) "__getattribute__" == some (some (.builtin "BaseException.__getattribute__")) && PySem.W.findIn K (.ref C) "__getattr__" == some none && PySem.W.subIn K (.ref C) (.type "BaseException") == some true && PySem.W.mroIn K C (.type "object") == some true && (PySem.W.clsIn K C).isSome && PySem.W.findIn K (.ref C) "__class__" == some (some (.builtin "object.__class__")) && PySem.W.specialIn K (.builtin "object.__class__") "__get__" == some (some (.builtin "getset_descriptor.__get__")) && PySem.W.takesIn K (.builtin "object.__class__") == some true && PySem.W.typeIn K (.ref C) == some (.type "type")
def zmg (K : PySem.W.Frag) (es : List Str) : Bool := es.all fun c => match PySem.W.nsIn K mainGlobals c with
 | some (some (.ref C)) => askB K C && PySem.W.kitOne K (.ref C) (.type "ValueError") == some true && PySem.W.kitOne K (.type "NoneType") (.ref C) == some false && es.all fun d => match PySem.W.nsIn K mainGlobals d with
  | some (some (.ref D)) => PySem.W.kitOne K (.ref C) (.ref D) == some (isX c d) && PySem.W.subIn K (.ref C) (.ref D) == some (isX c d)
  | _ => false
 | _ => false
def zmh (K : PySem.W.Frag) (rs : List Str) : Bool := (K.lookup sysModules).isSome && rs.all fun c => match PySem.W.nsIn K mainGlobals c with
 | some (some (.ref C)) => PySem.W.excIn K C bmV "ValueError.__new__"
 | _ => false
def exnA (K : PySem.W.Frag) (C HE : Addr) : Bool := match K.lookup C with
 | some ⟨.type "type", _, .cls cd, ⟨[_, _, _, _, some (.builtin n), _]⟩⟩ => (match cd.mro with
  | .ref C' :: .ref E' :: bm => Nat.beq C' C && Nat.beq E' HE && bm == bmV && n == "ValueError.__new__" && !cd.hasDel && cd.hasDict
  | _ => false)
 | _ => false
def exnB (K : PySem.W.Frag) (C HE f : Addr) : Bool := exnA K C HE && PySem.W.tailIn K bmV (.ref HE :: bmV) && PySem.W.findIn K (.ref C) "__init__" == some (some (.ref f)) && PySem.W.typeIn K (.ref f) == some (.type "function") && PySem.W.keepIn K (.ref f) && PySem.W.findIn K (.ref C) "__setattr__" == some (some (.builtin "object.__setattr__")) && PySem.W.mroIn K C (.type "object") == some true && PySem.W.findIn K (.ref C) "row" == some none && PySem.W.specialIn K (.ref HE) "__getattribute__" == some (some (.builtin "type.__getattribute__")) && PySem.W.readsIn K HE (.type "type") && (match PySem.W.findCls K (.ref HE) (.type "type") "__init__" with
 | some (.val v) => v == .builtin "ValueError.__init__"
 | _ => false) && PySem.W.keepIn K (.ref C) && PySem.W.hasDictIn K C
end MD
set_option autoImplicit false
namespace MD
open PySem PySem.W
def topT (tb : String -> Option Builtin) (p : Program) (w : World) (n₀ : Nat) (ann : Option Value) : Nat -> SharedT -> Thread -> Option SharedT
 | 0, _, _ => none
 | n + 1, s, t => match through t with
  | true => some s
  | false => match stepOk n₀ ann t with
   | false => none
   | true => match stepT (denote tb) p w s t with
    | some (s', t') => topT tb p w n₀ ann n s' t'
    | none => none
theorem ziM {tb : String -> Option Builtin} {p : Program} {w : World} {n₀ : Nat} {ann : Option Value} : ∀ {n : Nat} {s s' : SharedT} {t : Thread}, topT tb p w n₀ ann n s t = some s' -> topRun tb p w n₀ ann n s.abs t = some s'.abs
 | 0, _, _, _, h => by cases h
 | n + 1, s, s', t, h => by
  unfold topT at h
  unfold topRun
  cases he : through t with
  | true => rw [he] at h; cases h; rfl
  | false =>
   rw [he] at h
   cases hk : stepOk n₀ ann t with
   | false => rw [hk] at h; cases h
   | true =>
    rw [hk] at h
    cases hs : stepT (denote tb) p w s t with
    | none => rw [hs] at h; cases h
    | some r => obtain ⟨s₂, t₂⟩ := r; rw [hs] at h; dsimp only; rw [stepT_spec hs]; exact ziM h
def zg6 : List Obj -> Nat -> BT -> Option BT
 | [], _, T => some T
 | o :: r, n, T => match ((T.ins n o).get n).isSome with
  | true => zg6 r (n + 1) (T.ins n o)
  | false => none
theorem zd2 {life : Life} : ∀ {l : List Obj} {n : Nat} {T T' : BT}, zg6 l n T = some T' -> absHeap T' (n + l.length) life = ⟨(absHeap T n life).objs ++ l.toArray, life⟩
 | [], n, T, T', h => by
  cases h
  show absHeap T n life = _
  simp only [Array.append_empty, List.toArray]
  rfl
 | o :: r, n, T, T', h => by
  unfold zg6 at h
  cases q : ((T.ins n o).get n).isSome with
  | false => rw [q] at h; cases h
  | true =>
   rw [q] at h
   have z := zd2 (life := life) h
   rw [List.length_cons, show n + (r.length + 1) = n + 1 + r.length by omega, z, absHeap_ins q]
   show Heap.mk (((absHeap T n life).objs.push o) ++ r.toArray) life = _
   congr 1
   apply Array.ext'
   simp
def zmt (p : Program) (w : World) (N : Nat) (s₀ : Shared) : Option SharedT :=
 match s₀.heap.isNs mainGlobals && s₀.gens.size == 0 with
 | true => (zg6 s₀.heap.objs.toList 0 .nil).bind fun T => (topT treeTable p w s₀.heap.objs.size (s₀.heap.nsMap mainGlobals "__annotations__") N ⟨T, s₀.heap.objs.toList.length, s₀.heap.life, s₀.gens, s₀.drawn, s₀.toks, s₀.os⟩ (topStub p)).bind fun s₁ =>
   match staticsOk (importedModules p.main.body) s₀.heap s₁.abs.heap && namesBound p s₁.abs.heap && gensDone s₁.abs && laidKept s₀.heap s₁.abs.heap with
   | true => some s₁
   | false => none
 | false => none
theorem zkQ {p : Program} {w : World} {N : Nat} {s₀ : Shared} {s : SharedT} (h : zmt p w N s₀ = some s) : topFrom treeTable p w N s₀ = some s.abs := by
 unfold zmt at h
 unfold topFrom
 cases q : s₀.heap.isNs mainGlobals && s₀.gens.size == 0 with
 | false => rw [q] at h; cases h
 | true =>
  rw [q] at h
  obtain ⟨T, hT, h⟩ := Option.bind_eq_some_iff.mp h
  obtain ⟨s₁, h1, h⟩ := Option.bind_eq_some_iff.mp h
  have e := zd2 (life := s₀.heap.life) hT
  have ab : (⟨T, s₀.heap.objs.toList.length, s₀.heap.life, s₀.gens, s₀.drawn, s₀.toks, s₀.os⟩ : SharedT).abs = s₀ := by
   rw [Nat.zero_add] at e
   show Shared.mk (absHeap T _ _) _ _ _ _ = _
   rw [e]
   obtain ⟨⟨objs, life⟩, gens, drawn, toks, os⟩ := s₀
   simp [absHeap, BT.list]
  have r := ziM h1
  rw [ab] at r
  dsimp only
  rw [r]
  show (match _ with | true => some s₁.abs | false => none) = _
  cases g : staticsOk (importedModules p.main.body) s₀.heap s₁.abs.heap && namesBound p s₁.abs.heap && gensDone s₁.abs && laidKept s₀.heap s₁.abs.heap with
  | false => rw [g] at h; cases h
  | true => rw [g] at h; cases h; rfl
def endsT (p : Program) (w : World) (N : Nat) : Option SharedT := (fencedOpening treeTable p w N).bind (zmt p w N)
theorem zlG {p : Program} {w : World} {N : Nat} {s : SharedT} (h : endsT p w N = some s) : openEnds treeTable p w N = some s.abs := by
 obtain ⟨s₀, h0, h1⟩ := Option.bind_eq_some_iff.mp h
 exact Option.bind_eq_some_iff.mpr ⟨s₀, h0, zkQ h1⟩
def getT (s : SharedT) (a : Nat) : Option Obj := match Nat.blt a s.n with
 | true => alive ((s.tree.get a).getD default)
 | false => none
theorem znK (s : SharedT) (a : Nat) : s.abs.heap.get? a = getT s a := by
 show (absHeap s.tree s.n s.life).get? a = getT s a
 unfold Heap.get? getT
 rw [absHeap_at]
 cases h : Nat.blt a s.n with
 | false => rw [if_neg (fun z => by rw [(Nat.blt_eq).mpr z] at h; cases h)]
 | true =>
  rw [if_pos ((Nat.blt_eq).mp h)]
  generalize (s.tree.get a).getD default = o
  obtain ⟨c, d, dt, sl⟩ := o
  cases dt <;> rfl
def zkK (n : Nat) (s : SharedT) : PySem.W.Frag := (List.range n).filterMap fun a => (getT s a).map fun o => (a, o)
theorem zn0 (n : Nat) (s : SharedT) : zkK n s = Kof n s.abs.heap := by
 unfold zkK Kof
 congr 1
 funext a
 rw [znK]
theorem zkp {p : Program} {w : World} {N n : Nat} {α β : Type} {f : Shared -> α} {g : PySem.W.Frag -> β} {a : α × β} (h : (endsT p w N).map (fun s => (f s.abs, g (zkK n s))) = some a) : (openEnds treeTable p w N).map (fun s => (f s, g (Kof n s.heap))) = some a := by
 obtain ⟨s, h1, h2⟩ := Option.map_eq_some_iff.mp h
 rw [zlG h1]
 refine congrArg some ?_
 rw [<- h2, zn0]
end MD
set_option autoImplicit false
namespace K53
open PySem PyProof.Rows L2 MD
abbrev pw : Program := PySem.Challenge.pw_shorthead_k53_heads_written
def zcF (P : Program) (i : Nat) : Stmt := P.main.body.getD i (.Pass ⟨0, 0, 0, 0⟩)
def top : Nat -> Stmt := zcF pw
abbrev zce : Stmt := zkb (top 11) 0
abbrev zeD : Stmt := top 13
abbrev zcH : Stmt := top 14
abbrev zeE : Stmt := top 15
abbrev zi3 : Stmt := top 16
abbrev zdm : Stmt := top 18
abbrev zgh : Stmt := top 19
abbrev zdf : Stmt := top 21
abbrev zdg : Stmt := top 22
abbrev zcd : Stmt := top 23
abbrev zgg : Stmt := top 25
abbrev zeB : Stmt := top 26
abbrev zhe : Stmt := top 27
abbrev zey : Stmt := top 28
abbrev zdk : Stmt := top 29
abbrev zdh : Stmt := top 30
abbrev zeA : Stmt := top 31
abbrev zdi : Stmt := top 32
abbrev zbQ : Stmt := top 33
abbrev zc8 : Stmt := top 34
abbrev zcf : Stmt := top 35
abbrev zcG : Stmt := top 36
abbrev zez : Stmt := top 37
abbrev zeC : Stmt := top 38
abbrev zdl : Stmt := top 39
abbrev zdj : Stmt := top 40
abbrev sLaw : Stmt := top 41
def nms : List Str := (["is_whole", "is_between", "is_value", "is_row", "breadths", "is_head", "show_head", "read_head", "number_read", "_law_pot", "_law_draw", "_law_of", "_law_size", "_law_names", "_law_value", "_law_kind", "_law_shape", "_law_head_text", "_law_same", "_law_class_of", "_law_number", "_law_read", "_law_bent", "_law_found", "_law_right", "law", "HeadError", "NoHead", "NoLetter", "NoWord"] : List (Str)) ++ (["NoMore", "NoDeed", "NoPlace", "Beyond", "NoStream", "NoLine", "NoText", "ValueError", "all", "tuple", "int", "isinstance", "bool", "any", "range", "str", "min", "list", "len", "abs", "zip"] : List (Str))
def nmsE : List (Option (Option Value)) := ([some (some (.ref 161)), some (some (.ref 168)), some (some (.ref 175)), some (some (.ref 182)), some (some (.ref 187)), some (some (.ref 192)), some (some (.ref 197)), some (some (.ref 202)), some (some (.ref 207)), some (some (.ref 214)), some (some (.ref 221)), some (some (.ref 228)), some (some (.ref 235)), some (some (.ref 240)), some (some (.ref 247)), some (some (.ref 252)), some (some (.ref 259)), some (some (.ref 264)), some (some (.ref 269)), some (some (.ref 276)), some (some (.ref 283)), some (some (.ref 288)), some (some (.ref 293)), some (some (.ref 300)), some (some (.ref 307)), some (some (.ref 312)), some (some (.ref 24)), some (some (.ref 37)), some (some (.ref 49)), some (some (.ref 61))] : List (Option (Option Value))) ++ ([some (some (.ref 73)), some (some (.ref 85)), some (some (.ref 97)), some (some (.ref 109)), some (some (.ref 121)), some (some (.ref 133)), some (some (.ref 152)), some none, some none, some none, some none, some none, some none, some none, some none, some none, some none, some none, some none, some none, some none] : List (Option (Option Value)))
def fnd : List (Addr × Str) := [(152, "__init__")]
def fndE : List (Option (Option Value)) := [some (some (.ref 149))]
def fnsa : List Addr := [149, 161, 168, 175, 182]
def fnsb : List Addr := [187, 192, 197, 202, 207]
def fnsc : List Addr := [214, 221, 228, 235, 240]
def fnsd : List Addr := [247, 252, 259, 264, 269]
def fnse : List Addr := [276, 283, 288, 293, 300]
def fnsf : List Addr := [307, 312]
def fns : List Addr := fnsa ++ fnsb ++ fnsc ++ fnsd ++ fnse ++ fnsf
def fnE (x q : Str) (st : Stmt) : FnT × Bool := (some (x, q, zcQ st, za0 st, zah st), true)
def fnsaZ (P : Program) : List (FnT × Bool) := [fnE "__init__" "NoText.__init__" (zkb (zcF P 11) 0), fnE "is_whole" "is_whole" (zcF P 13), fnE "is_between" "is_between" (zcF P 14), fnE "is_value" "is_value" (zcF P 15), fnE "is_row" "is_row" (zcF P 16)]
def fnsaE : List (FnT × Bool) := fnsaZ pw
def fnsbZ (P : Program) : List (FnT × Bool) := [fnE "breadths" "breadths" (zcF P 18), fnE "is_head" "is_head" (zcF P 19), fnE "show_head" "show_head" (zcF P 21), fnE "read_head" "read_head" (zcF P 22), fnE "number_read" "number_read" (zcF P 23)]
def fnsbE : List (FnT × Bool) := fnsbZ pw
def fnscZ (P : Program) : List (FnT × Bool) := [fnE "_law_pot" "_law_pot" (zcF P 25), fnE "_law_draw" "_law_draw" (zcF P 26), fnE "_law_of" "_law_of" (zcF P 27), fnE "_law_size" "_law_size" (zcF P 28), fnE "_law_names" "_law_names" (zcF P 29)]
def fnscE : List (FnT × Bool) := fnscZ pw
def fnsdZ (P : Program) : List (FnT × Bool) := [fnE "_law_value" "_law_value" (zcF P 30), fnE "_law_kind" "_law_kind" (zcF P 31), fnE "_law_shape" "_law_shape" (zcF P 32), fnE "_law_head_text" "_law_head_text" (zcF P 33), fnE "_law_same" "_law_same" (zcF P 34)]
def fnsdE : List (FnT × Bool) := fnsdZ pw
def fnseZ (P : Program) : List (FnT × Bool) := [fnE "_law_class_of" "_law_class_of" (zcF P 35), fnE "_law_number" "_law_number" (zcF P 36), fnE "_law_read" "_law_read" (zcF P 37), fnE "_law_bent" "_law_bent" (zcF P 38), fnE "_law_found" "_law_found" (zcF P 39)]
def fnseE : List (FnT × Bool) := fnseZ pw
def fnsfZ (P : Program) : List (FnT × Bool) := [fnE "_law_right" "_law_right" (zcF P 40), fnE "law" "law" (zcF P 41)]
def fnsfE : List (FnT × Bool) := fnsfZ pw
def fnsE : List (FnT × Bool) := fnsaE ++ fnsbE ++ fnscE ++ fnsdE ++ fnseE ++ fnsfE
def bls (K : PySem.W.Frag) : List Bool := [PySem.W.isFn K (.ref 149), exnB K 152 24 149, zmg K ["HeadError", "NoHead", "NoLetter", "NoWord", "NoMore", "NoDeed", "NoPlace", "Beyond", "NoStream", "NoLine", "NoText"], zmh K []]
def blsE : List Bool := List.replicate 4 true
def obs (K : PySem.W.Frag) : List (Option (Option Value)) × List (Option (Option Value)) × List (FnT × Bool) × List Bool := (nms.map (PySem.W.nsIn K mainGlobals), fnd.map (fun p => PySem.W.findIn K (.ref p.1) p.2), fns.map (fnV K), bls K)
def expd : List (Option (Option Value)) × List (Option (Option Value)) × List (FnT × Bool) × List Bool := (nmsE, fndE, fnsE, blsE)
def vwP (P : Program) : Program := viewOf (([1, 2, 3, 4, 5, 6, 7, 8, 9, 10, 11, 13, 14, 15, 16, 18, 19, 21, 22, 23, 25, 26, 27, 28, 29, 30, 31, 32, 33, 34] : List (Nat)) ++ ([35, 36, 37, 38, 39, 40, 41] : List (Nat))) P
abbrev vw : Program := vwP pw
def xtP (R : PySem.W.RowW) (P : Program) (s : Shared) : Bool := PySem.W.xlAt (vwP P) [] s && PySem.W.recOk (PySem.W.RowW.records R) s
abbrev rw0 : PySem.W.RowW := PySem.Challenge.rw_shorthead_k53_heads_written.row.toRowW
abbrev xt : Shared -> Bool := xtP rw0 pw
def zO (R : PySem.W.RowW) (P : Program) (s : PySem.W.SharedT) := PySem.W.openSeen (vwP P) [] (importedModules P.main.body) (xtP R P) true s.abs
def zG (P : Program) := PySem.W.openGood (vwP P) []
def zE (P : Program) (w : World) := MD.endsT P w 6408
def hl0 (R : PySem.W.RowW) (P : Program) (w : World) := (zE P w).map fun s => (zO R P s).1.defs.take 18
def hr0 (R : PySem.W.RowW) (P : Program) (_ : World) := some ((zG P).1.defs.take 18)
def hl1 (R : PySem.W.RowW) (P : Program) (w : World) := (zE P w).map fun s => (zO R P s).1.defs.drop 18
def hr1 (R : PySem.W.RowW) (P : Program) (_ : World) := some ((zG P).1.defs.drop 18)
def hl2 (R : PySem.W.RowW) (P : Program) (w : World) := (zE P w).map fun s => (zO R P s).1.ownsOk
def hr2 (R : PySem.W.RowW) (P : Program) (_ : World) := some ((zG P).1.ownsOk)
def hl3 (R : PySem.W.RowW) (P : Program) (w : World) := (zE P w).map fun s => (zO R P s).1.names
def hr3 (R : PySem.W.RowW) (P : Program) (_ : World) := some ((zG P).1.names)
def hl4 (R : PySem.W.RowW) (P : Program) (w : World) := (zE P w).map fun s => ((zO R P s).1.globalsOk, (zO R P s).1.builtinsOk, (zO R P s).1.noLimit, (zO R P s).1.gens)
def hr4 (R : PySem.W.RowW) (P : Program) (_ : World) := some (((zG P).1.globalsOk, (zG P).1.builtinsOk, (zG P).1.noLimit, (zG P).1.gens))
def hl5 (R : PySem.W.RowW) (P : Program) (w : World) := (zE P w).map fun s => (zO R P s).2.1
def hr5 (R : PySem.W.RowW) (P : Program) (_ : World) := some ((zG P).2.1)
def hl6 (R : PySem.W.RowW) (P : Program) (w : World) := (zE P w).map fun s => (zO R P s).2.2.1
def hr6 (R : PySem.W.RowW) (P : Program) (_ : World) := some ((zG P).2.2.1)
def hl7 (R : PySem.W.RowW) (P : Program) (w : World) := (zE P w).map fun s => (zO R P s).2.2.2
def hr7 (R : PySem.W.RowW) (P : Program) (_ : World) := some ((zG P).2.2.2)
def hl8 (N : List Str) (P : Program) (w : World) := (zE P w).map fun s => N.map (PySem.W.nsIn (zkK 313 s) mainGlobals)
def hr8 (N : List Str) (P : Program) (_ : World) := some (nmsE)
def f9 (K : PySem.W.Frag) : List (Option (Option Value)) × List Bool := (fnd.map (fun p => PySem.W.findIn K (.ref p.1) p.2), bls K)
def hl9 (F : PySem.W.Frag -> List (Option (Option Value)) × List Bool) (P : Program) (w : World) := (zE P w).map fun s => F (zkK 313 s)
def hr9 (F : PySem.W.Frag -> List (Option (Option Value)) × List Bool) (P : Program) (_ : World) := some ((fndE, blsE))
def hl10 (R : PySem.W.RowW) (P : Program) (w : World) := (zE P w).map fun s => fnsa.map (fnV (zkK 313 s))
def hr10 (R : PySem.W.RowW) (P : Program) (_ : World) := some ((fnsaZ P))
def hl11 (R : PySem.W.RowW) (P : Program) (w : World) := (zE P w).map fun s => fnsb.map (fnV (zkK 313 s))
def hr11 (R : PySem.W.RowW) (P : Program) (_ : World) := some ((fnsbZ P))
def hl12 (R : PySem.W.RowW) (P : Program) (w : World) := (zE P w).map fun s => fnsc.map (fnV (zkK 313 s))
def hr12 (R : PySem.W.RowW) (P : Program) (_ : World) := some ((fnscZ P))
def hl13 (R : PySem.W.RowW) (P : Program) (w : World) := (zE P w).map fun s => fnsd.map (fnV (zkK 313 s))
def hr13 (R : PySem.W.RowW) (P : Program) (_ : World) := some ((fnsdZ P))
def hl14 (R : PySem.W.RowW) (P : Program) (w : World) := (zE P w).map fun s => fnse.map (fnV (zkK 313 s))
def hr14 (R : PySem.W.RowW) (P : Program) (_ : World) := some ((fnseZ P))
def hl15 (R : PySem.W.RowW) (P : Program) (w : World) := (zE P w).map fun s => fnsf.map (fnV (zkK 313 s))
def hr15 (R : PySem.W.RowW) (P : Program) (_ : World) := some ((fnsfZ P))
end K53
namespace PySem.W.Fast
lay_quick K53.hl0 K53.hr0 K53.hl1 K53.hr1 K53.hl2 K53.hr2 K53.hl3 K53.hr3 K53.hl4 K53.hr4 K53.hl5 K53.hr5 K53.hl6 K53.hr6 K53.hl7 K53.hr7 K53.hl8 K53.hl9 K53.hl10 K53.hl11 K53.hl12 K53.hl13 K53.hl14 K53.hl15
end PySem.W.Fast
namespace K53
open PySem PyProof.Rows L2 MD PySem.W.Fast
theorem hlq0 (w : World) : tw1917563412400616460 rw0 pw w = tw442095879121321045 rw0 pw w := by kernel_rfl
theorem hlq1 (w : World) : tw18260765727614834627 rw0 pw w = tw7194645342805293105 rw0 pw w := by kernel_rfl
theorem hlq2 (w : World) : tw4079013452271798434 rw0 pw w = tw17485833956240765442 rw0 pw w := by kernel_rfl
theorem hlq3 (w : World) : tw7236975247363155290 rw0 pw w = tw14069132705648416181 rw0 pw w := by kernel_rfl
theorem hlq4 (w : World) : tw13765598474515908275 rw0 pw w = tw15033859772150066466 rw0 pw w := by kernel_rfl
theorem hlq5 (w : World) : tw2903299454584443690 rw0 pw w = tw18335841628365256829 rw0 pw w := by kernel_rfl
theorem hlq6 (w : World) : tw10898720501173352396 rw0 pw w = tw196769508550681650 rw0 pw w := by kernel_rfl
theorem hlq7 (w : World) : tw2259758372884667032 rw0 pw w = tw17097896974269231947 rw0 pw w := by kernel_rfl
theorem hlq8 (w : World) : tw6122217650703275299 nms pw w = hr8 nms pw w := by kernel_rfl
theorem hlq9 (w : World) : tw1607676813601109627 f9 pw w = hr9 f9 pw w := by kernel_rfl
theorem hlq10 (w : World) : tw14901537797703024588 rw0 pw w = hr10 rw0 pw w := by kernel_rfl
theorem hlq11 (w : World) : tw579312512792291306 rw0 pw w = hr11 rw0 pw w := by kernel_rfl
theorem hlq12 (w : World) : tw163579757382990779 rw0 pw w = hr12 rw0 pw w := by kernel_rfl
theorem hlq13 (w : World) : tw7533988528007689428 rw0 pw w = hr13 rw0 pw w := by kernel_rfl
theorem hlq14 (w : World) : tw4857224765029012611 rw0 pw w = hr14 rw0 pw w := by kernel_rfl
theorem hlq15 (w : World) : tw13959285882962685665 rw0 pw w = hr15 rw0 pw w := by kernel_rfl
end K53
namespace L2
open PySem PySem.Spec PyProof.Rows
section
variable {X : Cx}
theorem zh7 : OpR X (binaryOp .Mult) (fun x y H Q => ∃ z n, x = .str z /\ y = .int n /\ MulOk z n /\ Q (.str (Txt.mul z n)) H) := by
 intro pins s σ H x y v u Q I rx ry h
 obtain ⟨z, n, rfl, rfl, hz, q⟩ := h
 obtain ⟨t, rfl⟩ := rx
 obtain ⟨t', rfl⟩ := ry
 exact SB.mul hz fun t' tk => ⟨.str _, H, I.tok _, ⟨_, rfl⟩, q⟩
theorem zfX : CallR X (.type "int") (fun xs H Q => ∃ z n, xs = [.str z] /\ PySem.intText? z = some n /\ z.length <= 640 /\ Q (.int n) H) := by
 intro pins s σ H xs us Q I r h
 obtain ⟨z, n, rfl, hn, hl, q⟩ := h
 obtain ⟨u, rfl, t, rfl⟩ := zbC r
 exact PySem.W.KIN.call_text hn hl ⟨.int n, H, I.tok _, ⟨_, rfl⟩, q⟩
theorem zeK : OpR X (binaryOp .FloorDiv) (rI (fun _ j => 0 < j /\ j < 2 ^ 64) fun i j => .int (i / j)) := opI fun i j _ _ _ _ _ hc q => by
 have h1 : (0 : Int) < j := hc.1
 have h2 : j < 2 ^ 64 := hc.2
 refine floordiv_int (by omega) (by rw [Int.fdiv_eq_ediv_of_nonneg i (by omega)]; exact q) (.inl (PyProof.noPylong_of_log2 ?_))
 have h3 : j.natAbs < 2 ^ 64 := by omega
 have h4 : j.natAbs.log2 < 64 := (Nat.log2_lt (by omega)).mpr h3
 omega
end
def clSub : List (Str × Addr) -> List (Str × Addr) -> Prop
 | [], _ => True
 | (n, a) :: r, cells => cells.lookup n = some a /\ clSub r cells
theorem clSub.at : ∀ {cl cells : List (Str × Addr)} {x : Str} {c : Addr}, clSub cl cells -> cl.lookup x = some c -> cells.lookup x = some c
 | [], _, _, _, _, e => by simp at e
 | (n, a) :: r, cells, x, c, h, e => by
  rw [List.lookup_cons] at e
  cases hx : x == n with
  | true =>
   rw [hx] at e
   cases e
   have q : x = n := by simpa using hx
   rw [q]
   exact h.1
  | false =>
   rw [hx] at e
   exact clSub.at h.2 e
structure CompOk (X : Cx) (N0 : List Str) (scope : Scope) (xs : List Str) (cl : List (Str × Addr)) : Prop where
 clos : closureFor scope X.env = pure cl
 kind : scope.kind = .function
 nocell : (scope.names.all fun y => decide (y.2 ≠ .cell)) = true
 locs : (scope.names.all fun y => decide (y.2 ≠ .local) || (decide (scope.names.lookup y.1 = some .local) && decide (y.1 ∉ N0))) = true
 sub : clSub cl X.env.cells
 has : (scope.names.all fun y => decide (y.2 ≠ .free) || ((cl.lookup y.1).isSome && (decide (X.env.kindOf y.1 = some .cell) || decide (X.env.kindOf y.1 = some .free)))) = true
 hid : N0 = X.N ∨ (N0.length = X.N.length /\ ((N0.zip X.N).all fun p => decide (p.1 = p.2) || (scope.names.lookup p.1).isNone) = true)
def Cx.comp (X : Cx) (N0 : List Str) (scope : Scope) (xs : List Str) (cl : List (Str × Addr)) (C : Addr) (s : Shared) (H : Hp) (fp : List Addr) : Cx :=
 { X with N := N0 ++ xs, s₀ := s, H₀ := H, env := compEnvC scope cl C X.env, outer := X.stack, stack := X.stack, ex := fp, fn := fun _ => false, pn := [] }
theorem zbw {env : Env} : ∀ {names : List (Str × NameKind)} {x : Str} {k : NameKind},
  (names.map fun (n, k) => if (k == NameKind.free && env.scope.kind == .function && env.kindOf n == some .cell) then (n, NameKind.cell) else (n, k)).lookup x = some k →
  ∃ k', names.lookup x = some k' /\ (x, k') ∈ names /\ (k' = k ∨ (k' = .free /\ k = .cell))
 | [], _, _, h => by simp at h
 | (n, q) :: r, x, k, h => by
  rw [List.map_cons] at h
  cases hx : x == n with
  | true =>
   have e : x = n := by simpa using hx
   subst e
   refine ⟨q, by simp [List.lookup_cons], List.mem_cons_self, ?_⟩
   dsimp only at h
   split at h
   ·rename_i hc
    simp [List.lookup_cons] at h
    have : q = .free := by
     simp at hc
     exact hc.1.1
    exact .inr ⟨this, h.symm⟩
   ·simp [List.lookup_cons] at h
    exact .inl h
  | false =>
   have h' : (r.map fun (n, k) => if (k == NameKind.free && env.scope.kind == .function && env.kindOf n == some .cell) then (n, NameKind.cell) else (n, k)).lookup x = some k := by
    dsimp only at h
    split at h <;> (simp only [List.lookup_cons, hx] at h; exact h)
   obtain ⟨k', e1, e2, e3⟩ := zbw h'
   exact ⟨k', by simp only [List.lookup_cons, hx]; exact e1, List.mem_cons_of_mem _ e2, e3⟩
section
variable {X : Cx} {N0 : List Str} {scope : Scope} {xs : List Str} {cl : List (Str × Addr)}
theorem CompOk.nc (S : CompOk X N0 scope xs cl) : ∀ y ∈ scope.names, y.2 ≠ .cell := fun y hy => of_decide_eq_true (List.all_eq_true.mp S.nocell y hy)
theorem CompOk.lo (S : CompOk X N0 scope xs cl) {y : Str × NameKind} (hy : y ∈ scope.names) (h : y.2 = .local) : scope.names.lookup y.1 = some .local /\ y.1 ∉ N0 := by
 have q := List.all_eq_true.mp S.locs y hy
 rw [Bool.or_eq_true, Bool.and_eq_true, decide_eq_true_eq, decide_eq_true_eq, decide_eq_true_eq] at q
 rcases q with q | q
 ·exact absurd h q
 ·exact q
theorem CompOk.fr (S : CompOk X N0 scope xs cl) {y : Str × NameKind} (hy : y ∈ scope.names) (h : y.2 = .free) : (∃ c, cl.lookup y.1 = some c) /\ (X.env.kindOf y.1 = some .cell ∨ X.env.kindOf y.1 = some .free) := by
 have q := List.all_eq_true.mp S.has y hy
 rw [Bool.or_eq_true, Bool.and_eq_true, Bool.or_eq_true, decide_eq_true_eq, decide_eq_true_eq, decide_eq_true_eq] at q
 rcases q with q | q
 ·exact absurd h q
 ·exact ⟨Option.isSome_iff_exists.mp q.1, q.2⟩
theorem CompOk.vis (S : CompOk X N0 scope xs cl) {x : Str} (h : Vis (relabel scope X.env) x) (hx : x ∈ N0) : ∃ c, cl.lookup x = some c /\ (X.env.kindOf x = some .cell ∨ X.env.kindOf x = some .free) := by
 have go : ∀ k, (relabel scope X.env).names.lookup x = some k -> (k = .local ∨ k = .cell ∨ k = .free) -> ∃ c, cl.lookup x = some c /\ (X.env.kindOf x = some .cell ∨ X.env.kindOf x = some .free) := fun k e hk => by
  obtain ⟨k', _, e2, e3⟩ := zbw e
  have hf : k' = .free := by
   rcases e3 with e3 | e3
   ·subst e3
    rcases hk with rfl | rfl | rfl
    ·exact absurd hx (S.lo e2 rfl).2
    ·exact absurd rfl (S.nc _ e2)
    ·rfl
   ·exact e3.1
  obtain ⟨⟨c, q⟩, r⟩ := S.fr e2 hf
  exact ⟨c, q, r⟩
 rcases h with h | h | h
 ·exact go _ h (.inl rfl)
 ·exact go _ h (.inr (.inl rfl))
 ·exact go _ h (.inr (.inr rfl))
theorem CompOk.len (S : CompOk X N0 scope xs cl) : N0.length = X.N.length := S.hid.elim (fun h => by rw [h]) fun h => h.1
theorem CompOk.same (S : CompOk X N0 scope xs cl) {i : Nat} {x : Str} (e : N0[i]? = some x) (h : Vis (relabel scope X.env) x) : X.N[i]? = some x := by
 rcases S.hid with q | ⟨q1, q2⟩
 ·rw [<- q]; exact e
 ·have hi : i < N0.length := (List.getElem?_eq_some_iff.mp e).1
  have hx : ∃ k', scope.names.lookup x = some k' := by
   rcases h with h | h | h <;> (obtain ⟨k', z, _⟩ := zbw h; exact ⟨k', z⟩)
  obtain ⟨k', hk⟩ := hx
  have ey := List.getElem?_eq_getElem (show i < X.N.length by omega)
  have hm : (x, X.N[i]'(by omega)) ∈ N0.zip X.N := List.mem_of_getElem? (i := i) (by rw [List.getElem?_zip_eq_some]; exact ⟨e, ey⟩)
  have := List.all_eq_true.mp q2 _ hm
  rw [hk] at this
  simp at this
  rw [ey, <- this]
theorem CompOk.hasC (S : CompOk X N0 scope xs cl) {x : Str} (h : (relabel scope X.env).names.lookup x = some .cell ∨ (relabel scope X.env).names.lookup x = some .free) : ∃ c, cl.lookup x = some c := by
 have go : ∀ k, (relabel scope X.env).names.lookup x = some k -> (k = .cell ∨ k = .free) -> ∃ c, cl.lookup x = some c := fun k e hk => by
  obtain ⟨k', _, e2, e3⟩ := zbw e
  have hf : k' = .free := by
   rcases e3 with e3 | e3
   ·subst e3
    rcases hk with rfl | rfl
    ·exact absurd rfl (S.nc _ e2)
    ·rfl
   ·exact e3.1
  exact (S.fr e2 hf).1
 rcases h with h | h
 ·exact go _ h (.inl rfl)
 ·exact go _ h (.inr rfl)
end
section
variable {X : Cx} {N0 : List Str} {scope : Scope} {xs : List Str} {cl : List (Str × Addr)} {pins : List (Addr × Obj)} {σ : St} {H2 : Hp} {s2 : Shared} {fp : List Addr} {C : Addr}
theorem znV (I2 : Inv X pins σ H2 s2) (S : CompOk X N0 scope xs cl) (f2 : ∀ b ∈ fp, zd1 X pins H2 b) (hfp : ∀ b ∈ fp, b < s2.heap.objs.size) (hC : s2.heap.objs.size <= C) : (X.comp N0 scope xs cl C s2 H2 fp).Ok where
 mod := I2.ok.mod
 kind := S.kind
 glob := I2.ok.glob
 blt := I2.ok.blt
 above := hC
 inj := fun x y c h1 h2 => I2.ok.inj x y c (S.sub.at h1) (S.sub.at h2)
 has := fun x h => S.hasC h
 cab := fun _ _ h => nomatch h
 hd := I2.ok.hd
 frames := I2.ok.frames
 stk := .inl rfl
 exf := fun b hb => ⟨Nat.ne_of_lt (Nat.lt_of_lt_of_le (hfp b hb) hC), fun x c e => (f2 b hb).2.2.2.2.1 x c (S.sub.at e)⟩
 bs := I2.bs
 bsz := Nat.le_trans I2.ok.bsz I2.sz
 noex := fun b o e hb => by
  rcases (f2 b hb).2.2.2.1 with z | z
  ·exact I2.ok.noex b o e z
  ·exact absurd (Nat.lt_of_lt_of_le (Heap.lt_size e) (Nat.le_trans I2.ok.bsz z)) (Nat.lt_irrefl _)
 exfs := fun b hb z => by
  rcases List.mem_cons.mp (I2.stkSub b z) with q | q
  ·exact (f2 b hb).2.1 q
  ·exact (f2 b hb).2.2.1 q
 funs := I2.stack
 frf := I2.stkFree
theorem zfS {H' : Hp} {h' : Heap} (I2 : Inv X pins σ H2 s2) (f2 : ∀ b ∈ fp, zd1 X pins H2 b) (u : Un (frs X.stack) fp H2 H' s2.heap h') {x : Str} {c : Addr} {v : Option Value} (e : X.env.cells.lookup x = some c) (z : s2.heap.IsCell c v) : h'.IsCell c v := by
 obtain ⟨o, ho, hd⟩ := z
 obtain ⟨sl, q⟩ := u.any ho (I2.freeC x c e) fun hb => (f2 c hb).2.2.2.2.1 x c e rfl
 exact ⟨_, q, hd⟩
theorem zhM {H' : Hp} {h' : Heap} {m' : Str -> Option Value} (I2 : Inv X pins σ H2 s2) (S : CompOk X N0 scope xs cl) (f2 : ∀ b ∈ fp, zd1 X pins H2 b) (u : Un (frs X.stack) fp H2 H' s2.heap h')
  (i : Nat) (x : Str) (v : V) (e1 : (N0 ++ xs)[i]? = some x) (e2 : (σ ++ List.replicate xs.length none)[i]? = some (some v)) (e3 : Vis (relabel scope X.env) x) :
  ∃ w, RelV v w /\ Look (compEnvC scope cl C X.env) h' m' x w := by
 have hl := I2.len
 have hl0 := S.len
 by_cases hi : i < σ.length
 ·rw [List.getElem?_append_left (by omega)] at e1
  rw [List.getElem?_append_left hi] at e2
  obtain ⟨c, hc, hk⟩ := S.vis e3 (List.mem_of_getElem? e1)
  obtain ⟨m, _, hloc⟩ := I2.loc
  have hv : Vis X.env.scope x := .inr hk
  obtain ⟨w, r, l⟩ := hloc i x v (S.same e1 e3) e2 hv
  have hcx := S.sub.at hc
  refine ⟨w, r, .inr ⟨?_, c, hc, ?_⟩⟩
  ·rcases e3 with e3 | e3 | e3
   ·obtain ⟨k', _, m2, m3⟩ := zbw e3
    rcases m3 with m3 | m3
    ·exact absurd (List.mem_of_getElem? e1) (S.lo m2 m3).2
    ·exact nomatch m3.2
   ·exact .inl e3
   ·exact .inr e3
  ·rcases l with ⟨q, _⟩ | ⟨_, c', q, z⟩
   ·rcases hk with hk | hk
    ·rw [q] at hk; cases hk
    ·rw [q] at hk; cases hk
   ·rw [hcx] at q
    cases q
    exact zfS I2 f2 u hcx z
 ·rw [List.getElem?_append_right (by omega), List.getElem?_replicate] at e2
  split at e2 <;> cases e2
theorem zei {pins' : List (Addr × Obj)} {σ' : St} {H' : Hp} {s' : Shared} (I2 : Inv X pins σ H2 s2) (S : CompOk X N0 scope xs cl) (f2 : ∀ b ∈ fp, zd1 X pins H2 b) (J : Inv (X.comp N0 scope xs cl C s2 H2 fp) pins' σ' H' s') :
  Inv (X.comp N0 scope xs cl C s2 H2 fp) pins' (σ ++ List.replicate xs.length none) H' s' :=
 ⟨J.ok, J.os, J.bare, J.base, let ⟨m, hn, _⟩ := J.loc; ⟨m, hn, fun i x v e1 e2 e3 => zhM I2 S f2 J.base i x v e1 e2 e3⟩, J.cell, J.free, J.freeC, J.pin, J.hok, by
  rw [List.length_append, List.length_replicate]
  show σ.length + xs.length = (N0 ++ xs).length
  rw [List.length_append, I2.len, S.len]⟩
theorem ziu {D : Addr} {oD : Obj} {s3 : Shared} {m' : Str -> Option Value} (I2 : Inv X pins σ H2 s2) (S : CompOk X N0 scope xs cl) (f2 : ∀ b ∈ fp, zd1 X pins H2 b) (hfp : ∀ b ∈ fp, b < s2.heap.objs.size) (hC : s2.heap.objs.size <= C) (hD : s2.heap.objs.size <= D) (hDC : D ≠ C)
  (k : ∀ b o, s2.heap.get? b = some o -> s3.heap.get? b = some o) (ho : s3.os = s2.os) (hb : AllBare s3.gens) (hn : s3.heap.Ns C m') (hd : s3.heap.get? D = some oD) (hcell : ∀ v, oD.data ≠ .cell v) :
  Inv (X.comp N0 scope xs cl C s2 H2 fp) [(D, oD)] (σ ++ List.replicate xs.length none) H2 s3 :=
 have u : Un (frs X.stack) fp H2 H2 s2.heap s3.heap := Un.kept k
 ⟨znV I2 S f2 hfp hC, ho, hb, u, ⟨m', hn, fun i x v e1 e2 e3 => zhM I2 S f2 u i x v e1 e2 e3⟩,
  fun x c e => by
   obtain ⟨v, z⟩ := I2.cell x c (S.sub.at e)
   exact ⟨v, zfS I2 f2 u (S.sub.at e) z⟩,
  I2.hok.fresh hC, fun x c e => I2.freeC x c (S.sub.at e),
  fun p hp => by
   have e : p = (D, oD) := List.mem_singleton.mp (show p ∈ [(D, oD)] from hp)
   subst e
   refine ⟨hd, I2.hok.fresh hD, hDC, fun z => ?_, hcell⟩
   obtain ⟨_, o, q, _⟩ := I2.stack.mem z
   exact absurd (Nat.lt_of_lt_of_le (Heap.lt_size q) hD) (Nat.lt_irrefl _),
  I2.hok.kept k, by
   rw [List.length_append, List.length_replicate]
   show σ.length + xs.length = (N0 ++ xs).length
   rw [List.length_append, I2.len, S.len]⟩
theorem zfJ {P : Program} {w : World} {H : Hp} {h : Heap} {a : Addr} {o : HO} (x : HOk P w H h) (hn : H a = none) (new : ObjOk P w (upd H a o) h a o) : HOk P w (upd H a o) h := fun b u e => by
 by_cases hb : b = a
 ·subst hb
  rw [zap] at e
  cases e
  exact new
 ·rw [zal hb] at e
  exact (x b u e).stay (fun _ _ _ q => q) (fun c q => by rw [zal (zan q hn)]; exact q) fun c ys q => by rw [zal (zan q hn)]; exact q
theorem zlK {pins' : List (Addr × Obj)} {σ' : St} {H' : Hp} {s' : Shared} {D : Addr} {ys : List V} {its : List Value} {n : Nat} (I2 : Inv X pins σ H2 s2) (f2 : ∀ b ∈ fp, zd1 X pins H2 b) (hD : s2.heap.objs.size <= D)
  (J : Inv (X.comp N0 scope xs cl C s2 H2 fp) pins' σ' H' s') (hn : H' D = none) (e : s'.heap.get? D = some { cls := .type "list", data := .seq its.toArray n }) (r : Vals ys its) (hz : ys.length <= sizeLine) :
  Inv X pins σ (upd H' D (.lst ys)) s' := by
 have u : Un (frs X.stack) fp H2 H' s2.heap s'.heap := J.base
 have neD : ∀ b o, s2.heap.get? b = some o -> b ≠ D := fun b o q => Nat.ne_of_lt (Nat.lt_of_lt_of_le (Heap.lt_size q) hD)
 have neT : ∀ b o, H2 b = some o -> b ≠ D := fun b o q => Nat.ne_of_lt (Nat.lt_of_lt_of_le (I2.hok.lt q) hD)
 refine I2.call' (ch := fp) J.os ⟨u.keep, u.slot, fun b o q m hx => ?_, u.there, fun b zs q => ?_, fun b o zs q => ?_, fun b ps q => ?_⟩ (zfJ J.hok hn ⟨hz, its, n, r, e⟩) J.bare fun b hb => ?_
 ·rw [zal (neD b o q)]
  exact u.free b o q m hx
 ·rw [zal (neT b _ q)]
  exact u.tups b zs q
 ·rw [zal (neT b _ q)]
  exact u.frzs b o zs q
 ·rw [zal (neT b _ q)]
  exact u.tbls b ps q
 ·obtain ⟨_, z1, _, z2, z3, z4⟩ := f2 b hb
  exact ⟨z2, z1, z3, z4⟩
end
def PIf (X : Cx) (ifs : List Expr) (t : TT) : Prop :=
 ∀ (pins : List (Addr × Obj)) (s : Shared) (σ : St) (H : Hp) (Q : Bool -> Hp -> Prop), Inv X pins σ H s -> t σ H Q →
  wpAny (model X.prog X.w) X.A (forIn ifs true fun c r => if r = true then do let ok <- isTrue c X.env (eval c X.env); pure (ForInStep.yield ok) else pure (ForInStep.yield r)) (TP X pins σ Q) X.xe s
def tYes : TT := fun _ H Q => Q true H
theorem zm9 {X : Cx} : PIf X [] tYes := fun _ _ _ H _ I h => wpAny_tests_nil ⟨H, I, h⟩
def zmz (n : Nat) (wi : TI) (g : TG) (tf : TT) (te : TE) (fin : List V -> Hp -> Prop) : St -> Hp -> Prop := fun σ H => wi σ H fun J H1 => ∃ W : Nat -> Nat -> List V -> Hp -> Prop, (∃ m, W 0 m [] H1) /\ ∀ i m ys H, W i m ys H →
 ys.length <= sizeLine /\ ((J.stop i H /\ fin ys H) ∨ (J.go i H /\ ∃ (Y : V -> Hp -> Prop) (Z : Hp -> Prop), (∀ y H4, Y y H4 -> ys.length < sizeLine /\ ∃ m', m' < m /\ W (i + 1) m' (ys ++ [y]) H4) /\ (∀ H3, Z H3 -> ∃ m', m' < m /\ W (i + 1) m' ys H3) ∧
  ∀ x H', J.yld i H x H' -> g x (σ ++ List.replicate n none) H' fun σ2 H2 => tf σ2 H2 fun b H3 => if b = true then te σ2 H3 Y else Z H3))
theorem zit {prog : Program} {w : World} {A : Around} {R : Result -> Shared -> Prop} {s : Shared} {elt target iter : Expr} {ifs : List Expr} {scope : Scope} {pos : Pos} {it acc : Value} {env : Env} (I : Nat -> Shared -> Prop)
  (turn : ∀ n s, I n s -> wpAny (model prog w) A (pyNext it) (fun r s₁ => match r with
   | none => R (.ok .next) s₁
   | some v => wpAny (model prog w) A (letOwnedTupleGo target it v) (fun _ t₁ => wpAny (model prog w) A (assign target env v) (fun _ s₂ =>
     wpAny (model prog w) A (forIn ifs true fun c r => if r = true then do let ok <- isTrue c env (eval c env); pure (ForInStep.yield ok) else pure (ForInStep.yield r)) (fun ok s₃ =>
      if ok = true then wpAny (model prog w) A (eval elt env) (fun x s₄ => wpAny (model prog w) A (call (.builtin "list.append") [acc, x]) (fun _ s₅ => ∃ m, m < n /\ I m s₅) (fun _ _ => False) s₄) (fun _ _ => False) s₃
      else ∃ m, m < n /\ I m s₃) (fun _ _ => False) s₂) (fun _ _ => False) t₁) (fun _ _ => False) s₁) (fun _ _ => False) s)
  (n : Nat) (h : I n s) : codeAny (model prog w) A (.compLoop (.ListComp elt [⟨target, iter, ifs, 0⟩] scope pos) 0 it acc env) R s := by
 refine codeAny_loop rfl I (fun n s hI => ?_) n h
 show wpAny _ A (Sem.onRaise (compTurn _ 0 it acc env) fun x => do noteFrame x env; theTreesLotGoes x) _ _ s
 refine wpAny_noted ?_
 rw [compTurn_list]
 refine wpAny_bind (wpAny_standAt (wpAny_bind (wpAny_mono (turn n s hI) (fun r s₁ h₁ => ?_) fun _ _ z => z.elim)))
 cases r with
 | none => exact wpAny_pure h₁
 | some v =>
  refine wpAny_bind (wpAny_mono h₁ (fun _ t₁ k₁ => ?_) fun _ _ z => z.elim)
  refine wpAny_bind (wpAny_mono k₁ (fun _ s₂ h₂ => wpAny_bind (wpAny_mono h₂ (fun ok s₃ h₃ => ?_) fun _ _ z => z.elim)) fun _ _ z => z.elim)
  cases ok with
  | false => exact wpAny_pure ⟨rfl, h₃⟩
  | true =>
   refine wpAny_bind (wpAny_bind (wpAny_mono h₃ (fun x s₄ h₄ => ?_) fun _ _ z => z.elim))
   exact wpAny_bind (wpAny_mono h₄ (fun _ s₅ h₅ => wpAny_pure (wpAny_pure ⟨rfl, h₅⟩)) fun _ _ z => z.elim)
section
variable {X : Cx} {N0 : List Str} {tg elt iter : Expr} {ifs : List Expr} {scope : Scope} {xs : List Str} {cl : List (Str × Addr)} {pos : Pos} {wi : TI} {g : TG} {tf : TT} {te : TE}
theorem zej {pins : List (Addr × Obj)} {σ : St} {H2 : Hp} {s2 : Shared} {it : Addr} {fp : List Addr} {tn : Nat -> Heap -> Prop} {J : It} {W : Nat -> Nat -> List V -> Hp -> Prop} {m0 : Nat} {fin : List V -> Hp -> Prop} {RR : Value -> Addr -> Result -> Shared -> Prop}
  (hc : X.calm = true) (hx : X.xe = fun _ _ => False) (S : CompOk X N0 scope xs cl)
  (hg : ∀ C s H fp, PG (X.comp N0 scope xs cl C s H fp) tg g) (hf : ∀ C s H fp, PIf (X.comp N0 scope xs cl C s H fp) ifs tf) (he : ∀ C s H fp, PE (X.comp N0 scope xs cl C s H fp) elt te)
  (I2 : Inv X pins σ H2 s2) (T : Turn X.prog X.w X.K tg J fp it tn) (st2 : tn 0 s2.heap) (f2 : ∀ b ∈ fp, zd1 X pins H2 b) (w0 : W 0 m0 [] H2)
  (turn : ∀ i m ys H, W i m ys H -> ys.length <= sizeLine /\ ((J.stop i H /\ fin ys H) ∨ (J.go i H /\ ∃ (Y : V -> Hp -> Prop) (Z : Hp -> Prop), (∀ y H4, Y y H4 -> ys.length < sizeLine /\ ∃ m', m' < m /\ W (i + 1) m' (ys ++ [y]) H4) /\ (∀ H3, Z H3 -> ∃ m', m' < m /\ W (i + 1) m' ys H3) ∧
   ∀ x H', J.yld i H x H' -> g x (σ ++ List.replicate xs.length none) H' fun σ2 H2 => tf σ2 H2 fun b H3 => if b = true then te σ2 H3 Y else Z H3)))
  (hRR : ∀ (D C : Addr) (s' : Shared) (ys : List V) (H' : Hp) (m' : Str -> Option Value), Inv X pins σ (upd H' D (.lst ys)) s' -> H' D = none -> s'.heap.Ns C m' -> zd1 X pins (upd H' D (.lst ys)) C -> fin ys H' -> RR (.ref D) C (.ok .next) s') :
  wpAny (model X.prog X.w) X.A (newList []) (fun acc s₃ => wpAny (model X.prog X.w) X.A (newFunctionEnv scope X.env.globals cl [] X.env.qual none .none (some X.env)) (fun cenv s₄ =>
   codeAny (model X.prog X.w) X.A (.compStart (.ListComp elt [⟨tg, iter, ifs, 0⟩] scope pos) 0 (.ref it) acc { cenv with scope := relabel scope X.env }) (RR acc cenv.locals) s₄) X.xe s₃) X.xe s2 := by
 refine wpAny_newObj_type (wpAny_newFunctionEnv S.nc (by intro y hy; simp at hy) (fun h₁ hns₁ hsb₁ => ?_) S.kind)
 dsimp only at hns₁ hsb₁ ⊢
 generalize hG : s2.heap.push { cls := .type "list", dict := none, data := .seq ([] : List Value).toArray } = G at hns₁ hsb₁ ⊢
 have szG : G.objs.size = s2.heap.objs.size + 1 := by rw [<- hG, Heap.size_push]
 have hDC : s2.heap.objs.size ≠ G.objs.size := by rw [szG]; exact Nat.ne_of_lt (Nat.lt_succ_self _)
 have hC : s2.heap.objs.size <= G.objs.size := by rw [szG]; exact Nat.le_succ _
 have hfp : ∀ b ∈ fp, b < s2.heap.objs.size := fun b hb => let ⟨_, e, _⟩ := T.obj 0 _ st2 b hb; Heap.lt_size e
 have old : ∀ b o, s2.heap.get? b = some o -> h₁.get? b = some o := fun b o e =>
  hsb₁.extBut b o (Nat.ne_of_lt (Nat.lt_of_lt_of_le (Heap.lt_size e) hC)) (Heap.get?_push_of_some _ (hG ▸ Heap.get?_push_of_some _ e))
 have hacc : h₁.get? s2.heap.objs.size = some { cls := .type "list", data := .seq ([] : List Value).toArray 0 } := hsb₁.extBut _ _ hDC (Heap.get?_push_of_some _ (hG ▸ Heap.get?_push_size _ rfl))
 have hst₁ : tn 0 h₁ := T.keep 0 _ _ st2 fun b _ o e => old b o e
 have I3 : ∀ tk, Inv (X.comp N0 scope xs cl G.objs.size s2 H2 fp) [(s2.heap.objs.size, { cls := .type "list", data := .seq ([] : List Value).toArray 0 })] (σ ++ List.replicate xs.length none) H2 { s2 with heap := h₁, toks := tk } := fun tk =>
  ziu I2 S f2 hfp hC (Nat.le_refl _) hDC old rfl I2.bare hns₁ hacc fun _ z => nomatch z
 have stat : ∀ {H' : Hp} {o : Obj}, (∀ b ∈ fp, H' b = none) -> ∀ b ∈ fp, zd1 (X.comp N0 scope xs cl G.objs.size s2 H2 fp) [(s2.heap.objs.size, o)] H' b := fun {H' o} hn b hb => by
  refine ⟨hn b hb, Nat.ne_of_lt (Nat.lt_of_lt_of_le (hfp b hb) hC), fun z => ?_, .inl hb, fun x c e => (f2 b hb).2.2.2.2.1 x c (S.sub.at e), fun p hp => ?_⟩
  ·rcases List.mem_cons.mp (I2.stkSub b z) with q | q
   ·exact (f2 b hb).2.1 q
   ·exact (f2 b hb).2.2.1 q
  ·have e : p = (s2.heap.objs.size, o) := List.mem_singleton.mp (show p ∈ [(s2.heap.objs.size, o)] from hp)
   subst e
   exact Nat.ne_of_gt (hfp b hb)
 have loop : ∀ tk, codeAny (model X.prog X.w) X.A (.compLoop (.ListComp elt [⟨tg, iter, ifs, 0⟩] scope pos) 0 (.ref it) (.ref s2.heap.objs.size) (compEnvC scope cl G.objs.size X.env)) (RR (.ref s2.heap.objs.size) G.objs.size) { s2 with heap := h₁, toks := tk } := by
  intro tk
  refine zit (fun n s' => ∃ i ys its k H', Inv (X.comp N0 scope xs cl G.objs.size s2 H2 fp) [(s2.heap.objs.size, { cls := .type "list", data := .seq (its : List Value).toArray k })] (σ ++ List.replicate xs.length none) H' s' /\ tn i s'.heap /\ (∀ b ∈ fp, H' b = none) /\ Vals ys its /\ W i n ys H')
   ?_ m0 ⟨0, [], [], 0, H2, I3 tk, hst₁, fun b hb => (f2 b hb).1, .nil, w0⟩
  rintro n s' ⟨i, ys, its, k, H', I', st', fr', rv, w'⟩
  obtain ⟨hlen, way⟩ := turn i n ys H' w'
  rcases way with ⟨stop, qf⟩ | ⟨go, Y, Z, hY, hZ, step⟩
  ·refine thn (T.done (X.comp N0 scope xs cl G.objs.size s2 H2 fp) rfl rfl rfl hc i _ s' _ H' (fun _ _ => False) I' (stat fr') st' stop) fun r s1 ⟨hr, I1⟩ => ?_
   subst hr
   obtain ⟨e, n1, _⟩ := I1.pin _ (List.mem_singleton.mpr rfl)
   obtain ⟨m1, hn1, _⟩ := I1.loc
   refine hRR _ _ s1 ys H' m1 (zlK I2 f2 (Nat.le_refl _) I1 n1 e rv hlen) n1 hn1 ?_ qf
   refine I2.fpOk hC ?_
   rw [zal hDC.symm]
   exact I1.free
  ·refine thn (T.item (X.comp N0 scope xs cl G.objs.size s2 H2 fp) rfl rfl rfl hc i _ s' _ H' (fun _ _ => False) I' (stat fr') st' go) fun r s1 ⟨u, hr, h1⟩ => ?_
   subst hr
   refine thn h1 fun _ s5 ⟨x, H5, I5, r5, y5, st5, fr5⟩ => ?_
   have I5' := I5.pinned (stat fr5) (T.obj _ _ st5)
   have hxe : (X.comp N0 scope xs cl G.objs.size s2 H2 fp).xe = fun _ _ => False := hx
   have q6 := hg _ s2 H2 fp _ s5 _ H5 x u _ I5' r5 (step x H5 y5)
   rw [hxe] at q6
   refine thn q6 fun _ s6 ⟨σ6, H6, I6, q6⟩ => ?_
   have q7 := hf _ s2 H2 fp _ s6 σ6 H6 _ I6 q6
   rw [hxe] at q7
   refine thn q7 fun b s7 ⟨H7, I7, q7⟩ => ?_
   have kept : ∀ {σ' : St} {H' : Hp} {s' : Shared}, Inv (X.comp N0 scope xs cl G.objs.size s2 H2 fp) ([(s2.heap.objs.size, { cls := .type "list", data := .seq its.toArray k })] ++ zct fp s5.heap) σ' H' s' -> tn (i + 1) s'.heap /\ ∀ b ∈ fp, H' b = none := fun {σ' H' s'} Z => by
    refine ⟨T.keep _ _ _ st5 fun b hb o e => (Z.pin (b, o) (List.mem_append_right _ (List.mem_append_right _ (zb2 hb e)))).1, fun b hb => ?_⟩
    obtain ⟨o, e, d⟩ := T.obj _ _ st5 b hb
    exact (Z.pin (b, o) (List.mem_append_right _ (List.mem_append_right _ (zb2 hb e)))).2.1
   cases b with
   | false =>
    rw [if_neg Bool.false_ne_true]
    rw [if_neg Bool.false_ne_true] at q7
    obtain ⟨m', hm, w7⟩ := hZ _ q7
    exact ⟨m', hm, i + 1, ys, its, k, H7, zei I2 S f2 I7.unpinned, (kept I7).1, (kept I7).2, rv, w7⟩
   | true =>
    rw [if_pos rfl]
    rw [if_pos rfl] at q7
    have q8 := he _ s2 H2 fp _ s7 σ6 H7 _ I7 q7
    rw [hxe] at q8
    refine thn q8 fun y s8 ⟨yv, H8, I8, r8, qY⟩ => ?_
    obtain ⟨hz, m', hm, w8⟩ := hY _ _ qY
    obtain ⟨eD, nD, neC, nfD, _⟩ := I8.pin (s2.heap.objs.size, { cls := .type "list", data := .seq its.toArray k }) (List.mem_append_right _ (List.mem_append_left _ (List.mem_singleton.mpr rfl)))
    have hl := rv.length
    refine call_meets F.slot_list_append ⟨_, eD, rfl⟩ F.entry_list_append (F.args_list_append_2 _ _) (PySem.list_append s2.heap.objs.size its.toArray k y (by rw [List.size_toArray]; omega)) ⟨eD, ?_⟩
    have eN := PySem.IsL.update eD (fun (a : Array Value) => a.push y)
    have eA : its.toArray.push y = (its ++ [y]).toArray := by simp
    rw [eA] at eN
    have drop : Inv (X.comp N0 scope xs cl G.objs.size s2 H2 fp) (zct fp s5.heap) σ6 H8 s8 := I8.pins_of fun p hp => I8.pin p (List.mem_append_right _ (List.mem_append_right _ hp))
    have I9 : Inv (X.comp N0 scope xs cl G.objs.size s2 H2 fp) (zct fp s5.heap) σ6 H8 { s8 with heap := s8.heap.update s2.heap.objs.size (Obj.mapSeq fun (a : Array Value) => a.push y) } := by
     refine drop.turned (it := s2.heap.objs.size) (t' := s8.toks) (fun b o hb q => (Heap.get?_update_other s8.heap _ (Ne.symm hb)).trans q) nD neC (.inr (Nat.le_refl _)) (fun x c e z => ?_) fun p hp z => ?_
     ·obtain ⟨v, q⟩ := I2.cell x c (S.sub.at e)
      exact absurd (q.lt) (by rw [z]; exact Nat.lt_irrefl _)
     ·have hp' : p ∈ zct fp s5.heap := hp
      exact absurd (hfp _ (zft hp').1) (by rw [z]; exact Nat.lt_irrefl _)
    have I10 : Inv (X.comp N0 scope xs cl G.objs.size s2 H2 fp) ([(s2.heap.objs.size, { cls := .type "list", data := .seq (its ++ [y]).toArray _ })] ++ zct fp s5.heap) σ6 H8 { s8 with heap := s8.heap.update s2.heap.objs.size (Obj.mapSeq fun (a : Array Value) => a.push y) } := I9.pins_of fun p hp => by
     rcases List.mem_append.mp hp with z | z
     ·have e := List.mem_singleton.mp z
      subst e
      exact ⟨eN, nD, neC, nfD, fun _ z => nomatch z⟩
     ·exact I9.pin p (List.mem_append_right _ z)
    have kp : tn (i + 1) (s8.heap.update s2.heap.objs.size (Obj.mapSeq fun (a : Array Value) => a.push y)) /\ ∀ b ∈ fp, H8 b = none := by
     refine ⟨T.keep _ _ _ (kept I8).1 fun b hb o e => (Heap.get?_update_other s8.heap _ (Nat.ne_of_gt (hfp b hb))).trans e, (kept I8).2⟩
    exact ⟨m', hm, i + 1, ys ++ [yv], its ++ [y], _, H8, zei I2 S f2 I10.unpinned, kp.1, kp.2, rv.append (.cons r8 .nil), w8⟩
 exact codeAny_compStart_list (loop _) (T.self _ 0 _ _ _ hst₁ (loop _))
theorem zfR {pins : List (Addr × Obj)} {σ : St} {H : Hp} {s : Shared} {h' : Heap} {C : Addr} (I : Inv X pins σ H s) (f : zd1 X pins H C) (k : Heap.SameBut C s.heap h') : Inv X pins σ H { s with heap := h' } := by
 obtain ⟨n, nl, nf, ab, nc, np⟩ := f
 exact I.turned (it := C) (t' := s.toks) (fun b o hb e => k.extBut b o hb e) n nl ab nc np
theorem znd (hc : X.calm = true) (hx : X.xe = fun _ _ => False) (S : CompOk X N0 scope xs cl) (hi : PI X tg iter wi)
  (hg : ∀ C s H fp, PG (X.comp N0 scope xs cl C s H fp) tg g) (hf : ∀ C s H fp, PIf (X.comp N0 scope xs cl C s H fp) ifs tf) (he : ∀ C s H fp, PE (X.comp N0 scope xs cl C s H fp) elt te)
  (hs : autoParam (∀ x, foldedSetIterable iter X.env x = pure x) AutoP.a2._auto_1) :
  PE X (.ListComp elt [⟨tg, iter, ifs, 0⟩] scope pos) (fun σ H Q => zmz xs.length wi g tf te (fun ys H' => ∀ p, H' p = none -> Q (.ref p) (upd H' p (.lst ys))) σ H) := by
 intro pins s σ H Q I h
 rw [eval_ListComp]
 refine wpAny_comprehension_free (use := none) rfl hs S.clos S.kind (fun y hy hl => (S.lo hy hl).1) ?_
 refine thn (hi pins s σ H _ I h) fun xv s1 h1 => thn h1 fun itv s2 h2 => ?_
 obtain ⟨it, fp, tn, J, H2, rfl, I2, T, st2, f2, W, ⟨m0, w0⟩, turn⟩ := h2
 refine zej (RR := fun acc C => compPost (model X.prog X.w) X.A X.xe none (EP X pins σ Q) acc C) hc hx S hg hf he I2 T st2 f2 w0 turn ?_
 intro D C s' ys H' m' I' nD hn fC fin
 exact ⟨m', hn, fun h' k => ⟨.ref D, _, zfR I' fC k, rfl, fin D nD⟩⟩
theorem zm0 {i : Nat} {y : Str} {py spos : Pos} (hc : X.calm = true) (hx : X.xe = fun _ _ => False) (hN : X.N.Nodup) (hy : X.N[i]? = some y) (hl : X.env.scope.names.lookup y = some .local) (S : CompOk X N0 scope xs cl) (hi : PI X tg iter wi)
  (hg : ∀ C s H fp, PG (X.comp N0 scope xs cl C s H fp) tg g) (hf : ∀ C s H fp, PIf (X.comp N0 scope xs cl C s H fp) ifs tf) (he : ∀ C s H fp, PE (X.comp N0 scope xs cl C s H fp) elt te)
  (hsw : autoParam (swapsWith (.ListComp elt [⟨tg, iter, ifs, 0⟩] scope pos) (some (.Name y py)) spos.line X.env = pure true) AutoP.a4._auto_1)
  (hs : autoParam (∀ x, foldedSetIterable iter X.env x = pure x) AutoP.a2._auto_1) :
  PS X (.Assign [.Name y py] (.ListComp elt [⟨tg, iter, ifs, 0⟩] scope pos) spos) (fun D σ H => zmz xs.length wi g tf te (fun ys H' => ∀ p, H' p = none -> D.nx (σ.set i (some (.ref p))) (upd H' p (.lst ys))) σ H) := by
 intro pins s σ H D I h
 rw [exec_Assign_Name_used _ _ _ _ hsw]
 refine wpAny_bind (wpAny_standAt (wpAny_bind ?_))
 show wpAny _ X.A (comprehension (.ListComp elt [⟨tg, iter, ifs, 0⟩] scope pos) scope X.env _ (newList []) false (eval iter X.env) (some (assign (.Name y py) X.env)) >>= fun _ => _) _ _ s
 refine wpAny_bind (wpAny_mono (wpAny_comprehension_free (use := some (assign (.Name y py) X.env)) (Q := fun _ s' => SP X pins D .next s') rfl hs S.clos S.kind (fun y hy hl => (S.lo hy hl).1) ?_) (fun _ s' hq => wpAny_pure (wpAny_pure hq)) fun _ _ e => e)
 refine thn (hi pins s σ H _ I h) fun xv s1 h1 => thn h1 fun itv s2 h2 => ?_
 obtain ⟨it, fp, tn, J, H2, rfl, I2, T, st2, f2, W, ⟨m0, w0⟩, turn⟩ := h2
 refine zej (RR := fun acc C => compPost (model X.prog X.w) X.A X.xe (some (assign (.Name y py) X.env)) (fun _ s' => SP X pins D .next s') acc C) hc hx S hg hf he I2 T st2 f2 w0 turn ?_
 intro d C s' ys H' m' I' nD hn fC fin
 obtain ⟨oC, es, ep, ho, hd, hr⟩ := hn
 have IC : Inv X (pins ++ [(C, oC)]) σ (upd H' d (.lst ys)) s' := I'.pins_of fun p hp => by
  rcases List.mem_append.mp hp with z | z
  ·exact I'.pin p (List.mem_append_right _ z)
  ·have e := List.mem_singleton.mp z
   subst e
   exact ⟨ho, fC.1, fC.2.1, fC.2.2.1, fun v z => by rw [hd] at z; cases z⟩
 show wpAny (model X.prog X.w) X.A (assign (.Name y py) X.env (.ref d)) _ _ s'
 refine thn (zju (pos := py) hN hy (.inl hl) (.inr hl) _ s' σ _ (.ref d) (.ref d) _ IC rfl (fin d nD)) fun _ s'' ⟨σ'', H'', I'', q''⟩ => ?_
 have pC := I''.pin (C, oC) (List.mem_append_right _ (List.mem_append_right _ (List.mem_singleton.mpr rfl)))
 refine ⟨_, ⟨oC, es, ep, pC.1, hd, hr⟩, fun h' k => ⟨σ'', H'', zfR I''.unpinned ⟨pC.2.1, fC.2⟩ k, q''⟩⟩
end
section
variable {g : TG} {tf : TT} {te : TE} {fin : List V -> Hp -> Prop} {n : Nat} {σ : St} {H : Hp}
theorem znW {J : It} {k : Nat} (Pv : Nat -> List V -> Hp -> Prop) (hk : k <= 1000000) (h0 : Pv 0 [] H) (hz : ∀ i ys H, Pv i ys H -> ys.length <= i)
  (hgo : ∀ i ys H, i < k -> Pv i ys H -> J.go i H /\ ∀ x H', J.yld i H x H' -> g x (σ ++ List.replicate n none) H' fun σ2 H2 => tf σ2 H2 fun b H3 => if b = true then te σ2 H3 (fun y H4 => Pv (i + 1) (ys ++ [y]) H4) else Pv (i + 1) ys H3)
  (hst : ∀ ys H, Pv k ys H -> J.stop k H /\ fin ys H) :
  ∃ W : Nat -> Nat -> List V -> Hp -> Prop, (∃ m, W 0 m [] H) /\ ∀ i m ys H, W i m ys H -> ys.length <= sizeLine /\ ((J.stop i H /\ fin ys H) ∨ (J.go i H /\ ∃ (Y : V -> Hp -> Prop) (Z : Hp -> Prop), (∀ y H4, Y y H4 -> ys.length < sizeLine /\ ∃ m', m' < m /\ W (i + 1) m' (ys ++ [y]) H4) ∧
   (∀ H3, Z H3 -> ∃ m', m' < m /\ W (i + 1) m' ys H3) /\ ∀ x H', J.yld i H x H' -> g x (σ ++ List.replicate n none) H' fun σ2 H2 => tf σ2 H2 fun b H3 => if b = true then te σ2 H3 Y else Z H3)) := by
 have hl : sizeLine = 16777216 := sizeLine_eq
 refine ⟨fun i m ys H => m = k - i /\ i <= k /\ Pv i ys H, ⟨k, by simp, Nat.zero_le _, h0⟩, ?_⟩
 rintro i m ys H ⟨rfl, hi, p⟩
 have z := hz i ys H p
 refine ⟨by omega, ?_⟩
 by_cases hlt : i < k
 ·obtain ⟨g1, g2⟩ := hgo i ys H hlt p
  exact .inr ⟨g1, fun y H4 => Pv (i + 1) (ys ++ [y]) H4, fun H3 => Pv (i + 1) ys H3, fun y H4 q => ⟨by omega, k - (i + 1), by omega, rfl, hlt, q⟩, fun H3 q => ⟨k - (i + 1), by omega, rfl, hlt, q⟩, g2⟩
 ·have e : i = k := by omega
  subst e
  exact .inl (hst ys H p)
end
theorem zhQ {bs : List Bool} {its : List Value} (r : Vals (bs.map V.bl) its) {i : Nat} {v : Value} (e : its.toArray[i]? = some v) : v = .bool (bs.getD i true) := by
 have e' : its[i]? = some v := by simpa using e
 have hi : i < bs.length := by
  have h1 := r.length
  have h2 := (List.getElem?_eq_some_iff.mp e').1
  rw [List.length_map] at h1
  omega
 obtain ⟨u, q, z⟩ := r.get (i := i) (x := .bl (bs[i])) (by simp [hi])
 rw [e'] at q
 cases q
 rw [show v = Value.bool bs[i] from z]
 simp [hi]
theorem zd7 : ∀ (bs : List Bool), ((List.range bs.length).all fun i => bs.getD i true) = bs.all id
 | [] => rfl
 | b :: r => by
  rw [List.length_cons, List.range_succ_eq_map, List.all_cons, List.all_map, List.all_cons]
  have e : ((fun i => (b :: r).getD i true) ∘ Nat.succ) = fun i => r.getD i true := by
   funext i
   simp
  rw [e, zd7 r]
  simp
section
variable {X : Cx}
theorem zcD (hc : X.calm = true) : CallR X (.builtin "all") (fun xs H Q => ∃ (l : Addr) (bs : List Bool), xs = [.ref l] /\ SqL X.K H l (bs.map V.bl) /\ Q (.bl (bs.all id)) H) := by
 intro pins s σ H xs us Q I r h
 obtain ⟨l, bs, rfl, hq, q⟩ := h
 obtain ⟨u, rfl, rx⟩ := zbC r
 cases rx
 obtain ⟨its, r', pl, hz⟩ := I.list hq
 have hl := pl.isList
 have hlt : l < s.heap.objs.size := by obtain ⟨_, e, _⟩ := hl; exact Heap.lt_size e
 have hlen : bs.length = its.length := by rw [<- r'.length, List.length_map]
 refine call_all_walk (wpAny_pyIter_list hl ?_)
 refine ⟨s.heap.objs.size, _, _, its.toArray.size, _, _, fun i => bs.getD i true, rfl, Walks.list (A := X.A.in1) (I.ok.hd hc) _ l (Nat.ne_of_lt hlt) its.toArray, ⟨⟨_, Heap.get?_push_size _ rfl, rfl, rfl⟩, hl.push _⟩, fun i v s' Q' E' hP hQ => ?_, fun h' tk hk => ?_⟩
 ·rw [zhQ r' hP]
  exact wpAny_truthy_bool hQ
 ·rw [List.size_toArray, <- hlen, zd7]
  exact ⟨.bl (bs.all id), H, I.kept fun b o e => hk b o (fun z => Nat.ne_of_lt (Heap.lt_size e) (List.mem_singleton.mp z)) (Heap.get?_push_of_some _ e), rfl, q⟩
end
def Itf (f : Nat -> V) (n : Nat) : It := ⟨fun i _ => i < n, fun i H x H' => H' = H /\ x = f i, fun i _ => i = n⟩
theorem ze6 {P : Program} {w : World} {K : PySem.W.Frag} {tg : Expr} {it : Addr} {n : Nat} {Pq : Nat -> Value -> Prop} {St : Nat -> Heap -> Prop} {f : Nat -> V} {nm : String}
  (W : ∀ A : Around, A.handled = none -> Walks P w A it [it] [it] n Pq St) (ho : ∀ i h, St i h -> ∃ o vs, h.get? it = some o /\ o.cls = .type nm /\ o.data = .fields vs)
  (hfr : ∀ i h h', St i h -> (∀ b ∈ [it], ∀ o, h.get? b = some o -> h'.get? b = some o) -> St i h') (hn : ["enumerate", "zip", "dict_itemiterator", "dict_reverseitemiterator", "odict_iterator", "itertools.zip_longest", "itertools.pairwise"].contains nm = false)
  (hP : ∀ i v, i < n -> Pq i v -> RelV (f i) v) (hself : ∀ (A : Around) (i : Nat) (s : Shared) (Q : Value -> Shared -> Prop) (E : Value -> Shared -> Prop), St i s.heap -> Q (.ref it) s -> wpAny (model P w) A (pyIter (.ref it)) Q E s) : Turn P w K tg (Itf f n) [it] it St where
 mem := by simp
 obj := fun i h st b hb => by
  have e : b = it := by simpa using hb
  subst e
  obtain ⟨o, vs, e, c, d⟩ := ho i h st
  exact ⟨o, e, fun v z => by rw [d] at z; cases z⟩
 keep := fun i h h' st k => hfr i h h' st k
 item := by
  intro X hP' hw hK hc i pins s σ H E I hf st hg
  subst hP' hw hK
  obtain ⟨f0, f1, f2, f3, f4, f5⟩ := hf it (by simp)
  refine (W X.A (I.ok.hd hc)).item i s _ _ hg st fun v h' tk hv st' kk => ?_
  have I1 : Inv X pins σ H { s with heap := h', toks := tk } := I.turned (fun b o hb e => kk b o (by simpa using hb) e) f0 f1 f3 f4 f5
  obtain ⟨o, vs, e, c, d⟩ := ho _ _ st'
  exact ⟨v, rfl, zlE (s := { s with heap := h', toks := tk }) e c d hn ⟨f i, H, I1, hP i v hg hv, ⟨rfl, rfl⟩, st', fun b hb => (hf b hb).1⟩⟩
 done := by
  intro X hP' hw hK hc i pins s σ H E I hf st hg
  subst hP' hw hK
  obtain ⟨f0, f1, f2, f3, f4, f5⟩ := hf it (by simp)
  have e : i = n := hg
  subst e
  exact (W X.A (I.ok.hd hc)).done s _ _ st fun h' tk kk => ⟨rfl, I.turned (fun b o hb e => kk b o (by simpa using hb) e) f0 f1 f3 f4 f5⟩
 self := hself
def sgn (z : Str) (i : Nat) : V := .str ⟨#[z.cps.getD i 0]⟩
def iTxt (tl : TE) : TI := fun σ H R => tl σ H fun x H1 => ∃ z, x = .str z /\ R (Itf (sgn z) z.cps.size) H1
theorem zb7 {h : Heap} {it : Addr} {nm : String} {x : Str} {t : Tok} {i : Nat} (st : h.IsStrIter it nm x t i) : ∃ o vs, h.get? it = some o /\ o.cls = .type nm /\ o.data = .fields vs := by
 obtain ⟨o, e, c, d⟩ := st
 exact ⟨o, _, e, c, d⟩
theorem zcT {h h' : Heap} {it : Addr} {nm : String} {x : Str} {t : Tok} {i : Nat} (st : h.IsStrIter it nm x t i) (k : ∀ b ∈ [it], ∀ o, h.get? b = some o -> h'.get? b = some o) : h'.IsStrIter it nm x t i := let ⟨o, ho, r⟩ := st; ⟨o, k it (by simp) o ho, r⟩
theorem zgd {z : Str} {i : Nat} {v : Value} (h : SignAt z i v) : RelV (sgn z i) v := by
 obtain ⟨c, u, e, rfl⟩ := h
 refine ⟨u, ?_⟩
 have : z.cps.getD i 0 = c := by simp [Array.getD_eq_getD_getElem?, e]
 rw [this]
theorem pi_txt {X : Cx} {tg : Expr} {l : Expr} {tl : TE} (hl : PE X l tl) : PI X tg l (iTxt tl) := by
 intro pins s σ H R I h
 refine thn (hl pins s σ H _ I h) fun v s1 ⟨x, H1, I1, r1, q1⟩ => ?_
 obtain ⟨z, e, q⟩ := q1
 subst e
 obtain ⟨t, rfl⟩ := r1
 have fp : ∀ b ∈ [s1.heap.objs.size], zd1 X pins H1 b := fun b hb => by
  have e : b = s1.heap.objs.size := by simpa using hb
  subst e
  exact I1.fpOk (Nat.le_refl _) (I1.hok.fresh (Nat.le_refl _))
 cases ha : z.cps.all (· < 128)
 ·refine wpAny_pyIter_wide ha ?_
  exact ⟨s1.heap.objs.size, [s1.heap.objs.size], _, _, H1, rfl, I1.kept (t' := s1.toks) fun b o e => Heap.get?_push_of_some _ e, ze6 (nm := "str_iterator") (St := fun i h => h.IsStrIter s1.heap.objs.size "str_iterator" z t i) (fun A hA => Walks.strWide hA _ z t) (fun i h st => zb7 st) (fun i h h' st k => zcT st k) (by decide) (fun i v _ hv => zgd hv) (fun A i s Q E st q => wpAny_pyIter_striter_wide st q), ⟨_, Heap.get?_push_size _ rfl, rfl, rfl⟩, fp, q⟩
 ·refine wpAny_pyIter_ascii ha ?_
  exact ⟨s1.heap.objs.size, [s1.heap.objs.size], _, _, H1, rfl, I1.kept (t' := s1.toks) fun b o e => Heap.get?_push_of_some _ e, ze6 (nm := "str_ascii_iterator") (St := fun i h => h.IsStrIter s1.heap.objs.size "str_ascii_iterator" z t i) (fun A hA => Walks.strAscii hA _ z t) (fun i h st => zb7 st) (fun i h h' st k => zcT st k) (by decide) (fun i v _ hv => zgd hv) (fun A i s Q E st q => wpAny_pyIter_striter_ascii st q), ⟨_, Heap.get?_push_size _ rfl, rfl, rfl⟩, fp, q⟩
variable {X : Cx}
theorem sl_txt : SlR X (fun x lo hi H Q => ∃ z, x = .str z /\ z.length <= sizeLine /\ Q (.str (Txt.slice z lo hi)) H) := by
 intro pins s σ H x v vl vu lo hi sl Q I rx hs pl pu q
 obtain ⟨z, rfl, hz, q⟩ := q
 obtain ⟨t, rfl⟩ := rx
 obtain ⟨o, e, c, d⟩ := hs
 have hp : ∀ {v : Value} {o : Option Int}, IsPart v o -> ∃ p : Option (Int × Tok), v = partValue p /\ p.map (·.1) = o := by
  intro v o h
  cases h with
  | none => exact ⟨none, rfl, rfl⟩
  | int i t => exact ⟨some (i, t), rfl, rfl⟩
 obtain ⟨l, rfl, hl⟩ := hp pl
 obtain ⟨u, rfl, hu⟩ := hp pu
 subst hl hu
 refine ⟨"str", _, F.slot_str_getitem.lookup, typeIs_str _ _ _, wpAny_getItem_str_slice (l := l) (u := u) (st := none) ⟨o, e, c, d⟩ rfl ?_⟩
 exact post_val_or_str ⟨Nat.le_trans (Txt.slice_le z _ _) hz, fun t' k => ⟨.str (Txt.slice z (l.map (·.1)) (u.map (·.1))), H, I.tok _, ⟨t', rfl⟩, q⟩⟩
theorem zmB {ts : List Str} : ∀ {its : List Value}, Vals (ts.map V.str) its -> ∃ l : List (Str × Tok), its = strValues l /\ l.map (·.1) = ts := by
 induction ts with
 | nil => intro its r; cases r; exact ⟨[], rfl, rfl⟩
 | cons a ts ih =>
  intro its r
  rw [List.map_cons] at r
  cases r with
  | cons r1 r2 =>
   obtain ⟨t, rfl⟩ := r1
   obtain ⟨l, rfl, rfl⟩ := ih r2
   exact ⟨(a, t) :: l, rfl, rfl⟩
theorem zcK : MtM X "str.join" (fun x xs H Q => ∃ (z : Str) (l : Addr) (ts : List Str), x = .str z /\ xs = [.ref l] /\ SqL X.K H l (ts.map V.str) /\ JoinOk z ts = true /\ Q (.str (Txt.join z ts)) H) := by
 intro pins s σ H x xs v us Q I rx rs h
 obtain ⟨z, l, ts, rfl, rfl, hq, hok, q⟩ := h
 obtain ⟨t, rfl⟩ := rx
 obtain ⟨u, rfl, ru⟩ := zbC rs
 cases ru
 obtain ⟨its, r', pl, hz⟩ := I.list hq
 obtain ⟨ls, rfl, rfl⟩ := zmB r'
 exact SC.join pl.isList rfl hok fun t' k => ⟨.str (Txt.join z (ls.map (·.1))), H, I.tok _, ⟨t', rfl⟩, q⟩
theorem zh0 {z : Str} {acc : Array Value} (h : ItemsOf (SignAt z) acc z.cps.size) : Vals ((List.range z.cps.size).map (sgn z)) acc.toList := by
 obtain ⟨h1, h2⟩ := h
 have gen : ∀ (n k : Nat) (ls : List Value), ls.length = n -> (∀ j v, ls[j]? = some v -> SignAt z (k + j) v) -> Vals ((List.range' k n).map (sgn z)) ls := by
  intro n
  induction n with
  | zero => intro k ls hl _; have : ls = [] := List.length_eq_zero_iff.mp hl; subst this; exact .nil
  | succ n ih =>
   intro k ls hl hh
   cases ls with
   | nil => cases hl
   | cons v ls =>
    rw [List.range'_succ, List.map_cons]
    refine .cons (zgd (by simpa using hh 0 v rfl)) (ih (k + 1) ls (by simpa using hl) fun j v e => ?_)
    have := hh (j + 1) v (by simpa using e)
    rwa [show k + (j + 1) = k + 1 + j by omega] at this
 rw [List.range_eq_range']
 refine gen _ 0 _ (by simpa using h1) fun j v e => ?_
 rw [Nat.zero_add]
 exact h2 j v (by simpa using e)
theorem zdZ (hc : X.calm = true) : CallR X (.type "tuple") (fun xs H Q => ∃ z, xs = [.str z] /\ z.cps.size <= sizeLine /\ ∀ l, H l = none -> Q (.ref l) (upd H l (.tup ((List.range z.cps.size).map (sgn z))))) := by
 intro pins s σ H xs us Q I r h
 obtain ⟨z, rfl, hz, q⟩ := h
 obtain ⟨u, rfl, t, rfl⟩ := zbC r
 refine call_tuple_str (I.ok.hd hc) z t (fun h' tk acc kp it => ?_) hz
 have hv := zh0 it
 have I1 : Inv X pins σ H { s with heap := h', toks := tk } := I.kept kp
 have I2 : Inv X pins σ (upd H h'.objs.size (.tup ((List.range z.cps.size).map (sgn z)))) { s with heap := h'.push { cls := .type "tuple", data := .seq acc }, toks := tk } :=
  I1.laid (t' := tk) (fun b o e => Heap.get?_push_of_some _ e) (Nat.le_refl _) (show ObjOk X.prog X.w _ _ _ (.tup _) from ⟨by simpa using hz, acc.toList, hv, by simpa using IsTup.new h' acc, _, Heap.get?_push_size _ rfl, rfl⟩)
 exact ⟨.ref h'.objs.size, _, I2, rfl, q _ (I1.hok.fresh (Nat.le_refl _))⟩
variable {X : Cx}
variable {X : Cx} {K : PySem.W.Frag}
end L2
namespace PySem
open Sem (wp)
open Builtin
namespace F
end F
end PySem
namespace L2
open PySem PySem.Spec PyProof.Rows
end L2
namespace PySem
open Sem (wp)
open Builtin Builtin.Str
namespace F
end F
end PySem
namespace PySem
open Sem (wp)
open Builtin Builtin.Str
end PySem
namespace L2
open PySem PySem.Spec PyProof.Rows
end L2
namespace PySem
open Sem (wp)
open Builtin
section
variable {prog : Program} {w : World} {A : Around} {E : Value -> Shared -> Prop} {s : Shared}
theorem zdy {it l : Addr} {i : Nat} {items : Array Value} {x : Value} {Q : Value -> Shared -> Prop} (hit : s.heap.IsTupleIter it l i) (hl : s.heap.IsTuple l items) (hx : items[i]? = some x)
  (hQ : ∀ h', h'.IsTupleIter it l (i + 1) -> Heap.SameBut it s.heap h' -> Q x { s with heap := h' }) : wpAny (model prog w) A (SmallTypes.nextOf (.ref it)) Q E s := by
 obtain ⟨o, ho, hc, hd⟩ := id hit
 obtain ⟨ol, hol, _, nl, hdl⟩ := hl
 have e0 : ¬ ((Value.ref l == Value.none) = true) := Bool.false_ne_true
 unfold SmallTypes.nextOf
 refine wpAny_bind (wpAny_callSpecial?_slot (name := Str.ofString "__next__") hit.typeIs F.slot_tuple_iterator_next (wpAny_call_entry F.slot_tuple_iterator_next hit.typeIs F.entry_tuple_iterator_next ?_ (F.args_tuple_iterator_next_1 _)))
 refine wpAny_bind (m := field (.ref it) 0) (wpAny_field ho hd (x := .ref l) rfl ?_)
 show wpAny _ _ (if (Value.ref l == Value.none) = true then _ else _) _ _ s
 rw [if_neg e0]
 refine wpAny_bind (m := field (.ref it) 1) (wpAny_field ho hd (x := .int i 0) rfl ?_)
 refine wpAny_bind (m := seqItems? (.ref l)) (wpAny_seqItems hol hdl ?_)
 simp only [Int.toNat_natCast, hx]
 refine wpAny_bind (wpAny_setField ho hd (by simp) (wpAny_pure ⟨x, rfl, wpAny_pure (hQ _ ⟨_, Heap.get?_update_self _ ho (Obj.isFreed_of_fields (Obj.data_mapFields hd _)), (Obj.cls_mapFields ..).trans hc, ?_⟩ (Heap.SameBut.update ..))⟩))
 rw [Obj.data_mapFields hd]
 simp [rawInt]
theorem zdT {it l : Addr} {i : Nat} {items : Array Value} {Q : Value -> Shared -> Prop} (hh : A.handled = none) (hit : s.heap.IsTupleIter it l i) (hl : s.heap.IsTuple l items) (hx : items[i]? = none)
  (hE : ∀ h' e, Heap.ExtBut it s.heap h' -> (∃ o, h'.get? e = some o /\ o.cls = .type "StopIteration") -> E (.ref e) { s with heap := h' }) : wpAny (model prog w) A (SmallTypes.nextOf (.ref it)) Q E s := by
 obtain ⟨o, ho, hc, hd⟩ := id hit
 obtain ⟨ol, hol, _, nl, hdl⟩ := hl
 have e0 : ¬ ((Value.ref l == Value.none) = true) := Bool.false_ne_true
 unfold SmallTypes.nextOf
 refine wpAny_bind (wpAny_callSpecial?_slot (name := Str.ofString "__next__") hit.typeIs F.slot_tuple_iterator_next (wpAny_call_entry F.slot_tuple_iterator_next hit.typeIs F.entry_tuple_iterator_next ?_ (F.args_tuple_iterator_next_1 _)))
 refine wpAny_bind (m := field (.ref it) 0) (wpAny_field ho hd (x := .ref l) rfl ?_)
 show wpAny _ _ (if (Value.ref l == Value.none) = true then _ else _) _ _ s
 rw [if_neg e0]
 refine wpAny_bind (m := field (.ref it) 1) (wpAny_field ho hd (x := .int i 0) rfl ?_)
 refine wpAny_bind (m := seqItems? (.ref l)) (wpAny_seqItems hol hdl ?_)
 simp only [Int.toNat_natCast, hx]
 refine wpAny_bind (wpAny_rule (wpAny_bind (wpAny_setField ho hd (by simp) ?_)))
 show wpAny _ _ (newExc (.type "StopIteration") [] >>= _) _ _ _
 refine wpAny_bind ?_
 simp only [newExc, newTuple]
 refine wpAny_bind (wpAny_newObj_type ?_ (by size_fits))
 refine wpAny_bind (m := firstArgMember _ _) (wpAny_of_eq (a := Value.none) (by first | rfl | (simp only [firstArgMember]; rfl)) (wpAny_newObj_type ?_ (by size_fits)))
 simp only [raiseNew]
 have hh1 : A.in1.handled = none := hh
 refine wpAny_bind (wpAny_handled ?_)
 rw [hh1]
 exact wpAny_bind (wpAny_pure (wpAny_throw (hE _ _ (((Heap.SameBut.update ..).extBut.push _).push _) ⟨_, Heap.get?_push_size _ rfl, rfl⟩)))
end
theorem Draws.tup {prog : Program} {w : World} {A : Around} (hh : A.handled = none) (it l : Addr) (hne : l ≠ it) (items : Array Value) :
  Draws prog w A it [it, l] items.size (fun i v => items[i]? = some v) (fun i h => h.IsTupleIter it l i /\ h.IsTuple l items) where
 live := fun _ _ st => let ⟨o, ho, _⟩ := st.1; ⟨o, ho⟩
 frame := fun _ _ _ st hk => ⟨let ⟨o, ho, r⟩ := st.1; ⟨o, hk it (by simp) o ho, r⟩, let ⟨o, ho, r⟩ := st.2; ⟨o, hk l (by simp) o ho, r⟩⟩
 item := fun i s Q E hi st hQ => zdy st.1 st.2 (x := items[i]) (by simp [hi]) fun h' hit' hs' => hQ _ h' s.toks (by simp [hi]) ⟨hit', st.2.extBut hs'.extBut hne⟩ hs'
 done := fun s Q E st hE => zdT hh st.1 st.2 (by simp) hE
end PySem
namespace L2
open PySem PySem.Spec PyProof.Rows
structure SeqKind (c : List V -> HO) (IsS : Heap -> Addr -> Array Value -> Prop) (IsI : Heap -> Addr -> Addr -> Nat -> Prop) : Prop where
 obj : ∀ h it l i, IsI h it l i -> ∃ o, h.get? it = some o /\ ∀ v, o.data ≠ .cell v
 kp : ∀ (h h' : Heap) it l i, IsI h it l i -> (∀ o, h.get? it = some o -> h'.get? it = some o) -> IsI h' it l i
 seq : ∀ (X : Cx) (pins : List (Addr × Obj)) (σ : St) (H : Hp) (s : Shared) (l : Addr) (xs : List V), Inv X pins σ H s -> H l = some (c xs) -> ∃ its : List Value, Vals xs its /\ IsS s.heap l its.toArray
 dr : ∀ (P : Program) (w : World) (A : Around), A.handled = none -> ∀ (it l : Addr), l ≠ it -> ∀ items : Array Value, Draws P w A it [it, l] items.size (fun i v => items[i]? = some v) (fun i h => IsI h it l i /\ IsS h l items)
 inj : ∀ a b, c a = c b -> a = b
theorem seq_lst : SeqKind HO.lst Heap.IsList Heap.IsListIter where
 obj := fun h it l i st => by obtain ⟨o, e, _, d⟩ := st; exact ⟨o, e, fun v z => by rw [d] at z; cases z⟩
 kp := fun h h' it l i st k => let ⟨o, e, r⟩ := st; ⟨o, k o e, r⟩
 seq := fun X pins σ H s l xs I e => by
  obtain ⟨its, r, p, _⟩ := I.list (SqL.of e)
  exact ⟨its, r, p.isList⟩
 dr := fun P w A hh it l hne items => Draws.list hh it l hne items
 inj := fun a b e => by cases e; rfl
theorem seq_tup : SeqKind HO.tup Heap.IsTuple Heap.IsTupleIter where
 obj := fun h it l i st => by obtain ⟨o, e, _, d⟩ := st; exact ⟨o, e, fun v z => by rw [d] at z; cases z⟩
 kp := fun h h' it l i st k => let ⟨o, e, r⟩ := st; ⟨o, k o e, r⟩
 seq := fun X pins σ H s l xs I e => by
  obtain ⟨its, r, p, _⟩ := I.tuple (SqT.of e)
  exact ⟨its, r, p⟩
 dr := fun P w A hh it l hne items => Draws.tup hh it l hne items
 inj := fun a b e => by cases e; rfl
end L2
namespace PySem
open Sem (wp)
open Builtin
open AutoSeq1 (wpAny_loadPart')
end PySem
namespace L2
open PySem PySem.Spec PyProof.Rows
section
variable {κ : Type} [DecidableEq κ]
def zga (kvs : List (κ × V)) (k : κ) : Option V := (kvs.find? fun kv => decide (kv.1 = k)).map (·.2)
def zds (kvs : List (κ × V)) (k : κ) (v : V) : List (κ × V) :=
 if (kvs.any fun kv => decide (kv.1 = k)) = true then kvs.map (fun kv => if kv.1 = k then (kv.1, v) else kv) else kvs ++ [(k, v)]
theorem zc6 {p : κ × V} {r : List (κ × V)} {k : κ} (e : p.1 = k) : zga (p :: r) k = some p.2 := by simp [zga, List.find?_cons, e]
theorem zc7 {p : κ × V} {r : List (κ × V)} {k : κ} (e : ¬ p.1 = k) : zga (p :: r) k = zga r k := by simp [zga, List.find?_cons, e]
theorem zg3 (k : κ) : ∀ kvs : List (κ × V), (kvs.any fun kv => decide (kv.1 = k)) = (zga kvs k).isSome
 | [] => rfl
 | p :: r => by
  rw [List.any_cons]
  by_cases e : p.1 = k
  ·simp only [zc6 e, decide_eq_true e, Bool.true_or, Option.isSome_some]
  ·rw [zc7 e, decide_eq_false e, Bool.false_or]; exact zg3 k r
theorem zci (kvs : List (κ × V)) (k : κ) (v : V) : (zds kvs k v).length <= kvs.length + 1 := by
 unfold zds
 split
 ·rw [List.length_map]; omega
 ·rw [List.length_append, List.length_cons, List.length_nil]; omega
theorem RelO.isSome_eq {o : Option V} {u : Option Value} (r : RelO o u) : o.isSome = u.isSome := by
 cases o with
 | none => cases u with
  | none => rfl
  | some _ => exact (show False from r).elim
 | some _ => cases u with
  | none => exact (show False from r).elim
  | some _ => rfl
theorem KV.val {kvs : List (κ × V)} {vs : List (κ × Value)} (r : KV kvs vs) (k : κ) : RelO (zga kvs k) (valueAt vs k) := by
 unfold KV at r
 induction r with
 | nil => exact True.intro
 | @cons p q ps qs h t ih =>
  obtain ⟨h1, h2⟩ := h
  by_cases e : p.1 = k
  ·have e' : q.1 = k := h1.symm.trans e
   have b : valueAt (q :: qs) k = some q.2 := by simp [valueAt, List.find?_cons, e']
   rw [zc6 e, b]; exact h2
  ·have e' : ¬ q.1 = k := fun z => e (h1.trans z)
   have b : valueAt (q :: qs) k = valueAt qs k := by simp [valueAt, List.find?_cons, e']
   rw [zc7 e, b]; exact ih
theorem KV.any {kvs : List (κ × V)} {vs : List (κ × Value)} (r : KV kvs vs) (k : κ) : (kvs.any fun kv => decide (kv.1 = k)) = vs.any fun kv => decide (kv.1 = k) := by
 unfold KV at r
 induction r with
 | nil => rfl
 | cons h t ih => rw [List.any_cons, List.any_cons, ih, h.1]
theorem KV.repl {kvs : List (κ × V)} {vs : List (κ × Value)} (r : KV kvs vs) (k : κ) {y : V} {u : Value} (ry : RelV y u) :
  KV (kvs.map fun kv => if kv.1 = k then (kv.1, y) else kv) (vs.map fun kv => if kv.1 = k then (kv.1, u) else kv) := by
 unfold KV at r ⊢
 induction r with
 | nil => exact .nil
 | @cons p q ps qs h t ih =>
  rw [List.map_cons, List.map_cons]
  refine .cons ?_ ih
  obtain ⟨h1, h2⟩ := h
  by_cases e : p.1 = k
  ·rw [if_pos e, if_pos (h1.symm.trans e)]; exact ⟨h1, ry⟩
  ·rw [if_neg e, if_neg (fun z => e (h1.trans z))]; exact ⟨h1, h2⟩
theorem KV.put {kvs : List (κ × V)} {vs : List (κ × Value)} (r : KV kvs vs) (k : κ) {y : V} {u : Value} (ry : RelV y u) : KV (zds kvs k y) (stored vs k u) := by
 unfold zds stored
 rw [r.any k]
 by_cases e : (vs.any fun kv => decide (kv.1 = k)) = true
 ·rw [if_pos e, if_pos e]; exact r.repl k ry
 ·rw [if_neg e, if_neg e]; exact Paired.snoc r ⟨rfl, ry⟩
theorem KV.length {kvs : List (κ × V)} {vs : List (κ × Value)} (r : KV kvs vs) : kvs.length = vs.length := Paired.length r
end
theorem zj3 {P : Program} {w : World} {k : Key} {u : Value} (r : RelV (kV k) u) : (zaT P w).is k u = true := by
 cases k with
 | inl i => obtain ⟨t, e⟩ := (show ∃ t, u = Value.int i t from r); subst e; exact zgC P w i t
 | inr x => obtain ⟨t, e⟩ := (show ∃ t, u = Value.str x t from r); subst e; exact zgB P w x t
theorem zfG {P : Program} {w : World} : ∀ {ks : List Key} {us : List Value}, Vals (ks.map kV) us -> ItemsAre (zaT P w) ks us
 | [], _, r => by rw [List.map_nil] at r; cases r; exact .nil
 | k :: ks, _, r => by
  rw [List.map_cons] at r
  cases r with
  | cons h t => exact .cons (zj3 h) (zfG t)
abbrev KT (H : Hp) : List (List Key × V) -> List (List Key × Addr × Value) -> Prop := Paired fun p q => p.1 = q.1 /\ H q.2.1 = some (.tup (p.1.map kV)) /\ RelV p.2 q.2.2
theorem KT.val {H : Hp} {kvs : List (List Key × V)} {xs : List (List Key × Addr × Value)} (r : KT H kvs xs) (k : List Key) : RelO (zga kvs k) ((atKey xs k).map (·.2)) := by
 induction r with
 | nil => exact True.intro
 | @cons p q ps qs h t ih =>
  obtain ⟨h1, _, h2⟩ := h
  by_cases e : p.1 = k
  ·have e' : q.1 = k := h1.symm.trans e
   have b : atKey (q :: qs) k = some q.2 := by simp [atKey, List.find?_cons, e']
   rw [zc6 e, b]; exact h2
  ·have e' : ¬ q.1 = k := fun z => e (h1.trans z)
   have b : atKey (q :: qs) k = atKey qs k := by simp [atKey, List.find?_cons, e']
   rw [zc7 e, b]; exact ih
theorem KT.repl {H : Hp} {kvs : List (List Key × V)} {xs : List (List Key × Addr × Value)} (r : KT H kvs xs) (k : List Key) {y : V} {u : Value} (ry : RelV y u) :
  KT H (kvs.map fun kv => if kv.1 = k then (kv.1, y) else kv) (xs.map (putAt k u)) := by
 induction r with
 | nil => exact .nil
 | @cons p q ps qs h t ih =>
  rw [List.map_cons, List.map_cons]
  refine .cons ?_ ih
  obtain ⟨h1, h2, h3⟩ := h
  unfold putAt
  by_cases e : p.1 = k
  ·rw [if_pos e, if_pos (h1.symm.trans e)]; exact ⟨h1, h2, ry⟩
  ·rw [if_neg e, if_neg (fun z => e (h1.trans z))]; exact ⟨h1, h2, h3⟩
theorem KT.put {H : Hp} {kvs : List (List Key × V)} {xs : List (List Key × Addr × Value)} (r : KT H kvs xs) (k : List Key) {b : Addr} {y : V} {u : Value} (hb : H b = some (.tup (k.map kV))) (ry : RelV y u) :
  KT H (zds kvs k y) (storedH xs k b u) := by
 have e : (kvs.any fun kv => decide (kv.1 = k)) = (atKey xs k).isSome := by
  rw [zg3, (r.val k).isSome_eq, Option.isSome_map]
 unfold zds storedH
 rw [e]
 by_cases q : (atKey xs k).isSome = true
 ·rw [if_pos q, if_pos q]; exact r.repl k ry
 ·rw [if_neg q, if_neg q]; exact Paired.snoc r ⟨rfl, hb, ry⟩
theorem KT.keeps {H H' : Hp} {kvs : List (List Key × V)} {xs : List (List Key × Addr × Value)} (r : KT H kvs xs) (ht : ∀ b ys, H b = some (.tup ys) -> H' b = some (.tup ys)) : KT H' kvs xs :=
 Paired.mapP r fun _ _ z => ⟨z.1, ht _ _ z.2.1, z.2.2⟩
section
variable {P : Program} {w : World} {H : Hp} {h : Heap} {a : Addr}
theorem rd_of {u : HO} (ok : HOk P w H h) (e : Rd H a u) : ObjOk P w H h a u := e.ok ok
theorem zkr {kvs : List (Key × V)} (ok : HOk P w H h) (e : Rd H a (.dK kvs)) : kvs.length <= sizeLine /\ (a == sysModules) = false /\ ∃ vs, KV kvs vs /\ h.DictOf (zaT P w) a vs :=
 show ObjOk P w H h a (.dK kvs) from rd_of ok e
theorem dk_of {kvs : List (Key × V)} (ok : HOk P w H h) (e : H a = some (.dK kvs)) : kvs.length <= sizeLine /\ (a == sysModules) = false /\ ∃ vs, KV kvs vs /\ h.DictOf (zaT P w) a vs := zkr ok (.inl e)
theorem zhq {ks : List Key} (ok : HOk P w H h) (e : H a = some (.tup (ks.map kV))) : (tupleKind (zaT P w)).is h ks a := by
 obtain ⟨_, its, r, ⟨o, h1, h2, n, h3⟩, _⟩ := (show ObjOk P w H h a (.tup (ks.map kV)) from ok a _ e)
 exact ⟨o, its.toArray, n, h1, h2, h3, by simpa using zfG r⟩
theorem zlJ {kvs : List (List Key × V)} (ok : HOk P w H h) (e : Rd H a (.dT kvs)) : kvs.length <= sizeLine /\ (a == sysModules) = false ∧
  ∃ xs, KT H kvs xs /\ h.DictOfH (tupleKind (zaT P w)) a xs := by
 obtain ⟨z, y, xs, r, o, es, ep, h1, h2, h3, h4, h5⟩ := (show ObjOk P w H h a (.dT kvs) from rd_of ok e)
 refine ⟨z, y, xs, r, o, es, ep, h1, h2, h3, h4, fun x hx => ?_, h5⟩
 have all : ∀ {l : List (List Key × V)} {m : List (List Key × Addr × Value)}, KT H l m -> ∀ x ∈ m, (tupleKind (zaT P w)).is h x.1 x.2.1 := by
  intro l m q
  induction q with
  | nil => intro x hx; exact nomatch hx
  | @cons p q ps qs hq t ih =>
   intro x hx
   rcases List.mem_cons.mp hx with e | hx
   ·subst e
    exact zhq ok (by rw [<- hq.1]; exact hq.2.1)
   ·exact ih x hx
 exact all r x hx
theorem dt_of {kvs : List (List Key × V)} (ok : HOk P w H h) (e : H a = some (.dT kvs)) : kvs.length <= sizeLine /\ (a == sysModules) = false ∧
  ∃ xs, KT H kvs xs /\ h.DictOfH (tupleKind (zaT P w)) a xs := zlJ ok (.inl e)
end
def DGet (H : Hp) (a : Addr) (y : V) (r : Option V) : Prop :=
 (∃ kvs k, Rd H a (.dK kvs) /\ y = kV k /\ r = zga kvs k) ∨ ∃ kvs k b, Rd H a (.dT kvs) /\ y = .ref b /\ H b = some (.tup (k.map kV)) /\ r = zga kvs k
def DPut (H : Hp) (a : Addr) (y v : V) (H' : Hp) : Prop :=
 (∃ kvs k, H a = some (.dK kvs) /\ y = kV k /\ kvs.length < sizeLine /\ H' = upd H a (.dK (zds kvs k v))) ∨
 ∃ kvs k b, H a = some (.dT kvs) /\ y = .ref b /\ H b = some (.tup (k.map kV)) /\ kvs.length < sizeLine /\ H' = upd H a (.dT (zds kvs k v))
theorem DGet.k {H : Hp} {a : Addr} {kvs : List (Key × V)} {k : Key} (e : H a = some (.dK kvs)) : DGet H a (kV k) (zga kvs k) := .inl ⟨kvs, k, .inl e, rfl, rfl⟩
theorem DPut.k {H : Hp} {a : Addr} {kvs : List (Key × V)} {k : Key} {v : V} (e : H a = some (.dK kvs)) (hl : kvs.length < sizeLine) : DPut H a (kV k) v (upd H a (.dK (zds kvs k v))) := .inl ⟨kvs, k, e, rfl, hl, rfl⟩
section
variable {X : Cx} {pins : List (Addr × Obj)} {σ : St} {H : Hp} {s : Shared} {a : Addr} {y v : V} {u r : Value} {o : Option V} {A : Around} {E : Value -> Shared -> Prop}
theorem Inv.big (I : Inv X pins σ H s) : sysModules < s.heap.objs.size := by
 have h : mainGlobals < s.heap.objs.size := (I.mod.glob.keeps I.bk).lt
 exact Nat.lt_trans (by decide) h
theorem zkw {Q : Value -> Shared -> Prop} (hu : A.units + 1 < cLine) (I : Inv X pins σ H s) (g : DGet H a y (some v)) (ry : RelV y u) (h : ∀ w' s', Inv X pins σ H s' -> RelV v w' -> Q w' s') :
  wpAny (model X.prog X.w) A (getItem (.ref a) u) Q E s := by
 rcases g with ⟨kvs, k, e, ey, l⟩ | ⟨kvs, k, b, e, ey, eb, l⟩
 ·subst ey
  obtain ⟨z, hd, vs, rel, dd⟩ := zkr I.hok e
  obtain ⟨w', hw, rw'⟩ := RelO.some_of (v := v) (o := valueAt vs k) (by rw [l]; exact rel.val k)
  exact wpAny_getItem_of (zj3 ry) dd.mapOf hw (h w' _ (I.tok _) rw')
 ·subst ey
  cases (show u = Value.ref b from ry)
  obtain ⟨z, hd, xs, rel, dd⟩ := zlJ I.hok e
  obtain ⟨w', hw, rw'⟩ := RelO.some_of (v := v) (o := (atKey xs k).map (·.2)) (by rw [l]; exact rel.val k)
  obtain ⟨p, hp, hp2⟩ := Option.map_eq_some_iff.mp hw
  refine wpAny_getItem_heap (tupleKind_room_in1 hu) (zhq I.hok eb) dd hp ?_
  rw [hp2]
  exact h w' _ (I.tok _) rw'
theorem d_in {Q : Value -> Shared -> Prop} (hu : A.units + 1 < cLine) (I : Inv X pins σ H s) (g : DGet H a y o) (ry : RelV y u) (h : ∀ s', Inv X pins σ H s' -> Q (.bool o.isSome) s') :
  wpAny (model X.prog X.w) A (compareOp .In u (.ref a)) Q E s := by
 rcases g with ⟨kvs, k, e, ey, l⟩ | ⟨kvs, k, b, e, ey, eb, l⟩
 ·subst ey
  obtain ⟨z, hd, vs, rel, dd⟩ := zkr I.hok e
  refine wpAny_in_of (zj3 ry) hd dd.mapOf ?_
  rw [<- (rel.val k).isSome_eq, <- l]
  exact h _ (I.tok _)
 ·subst ey
  cases (show u = Value.ref b from ry)
  obtain ⟨z, hd, xs, rel, dd⟩ := zlJ I.hok e
  refine wpAny_in_heap (tupleKind_room_in1 hu) (zhq I.hok eb) hd dd ?_
  have q := (rel.val k).isSome_eq
  rw [Option.isSome_map] at q
  rw [<- q, <- l]
  exact h _ (I.tok _)
theorem zgP {h' : Heap} {t' : Nat} {ob : HO} (I : Inv X pins σ H s) (mu : Mut (H a)) (hs : Heap.SameBut a s.heap h') (he : ∃ q, h'.get? a = some q) (new : ObjOk X.prog X.w (upd H a ob) h' a ob) :
  Inv X pins σ (upd H a ob) { s with heap := h', toks := t' } :=
 I.write (x := a) (e := a) mu (.inl rfl) (fun b q hb z => (hs.2 b hb).trans z) he new
theorem zmj {P : Program} {w : World} {H' : Hp} {h' : Heap} {kvs : List (Key × V)} {vs : List (Key × Value)} (z : kvs.length <= sizeLine) (hd : (a == sysModules) = false) (rel : KV kvs vs) (dd : h'.DictOf (zaT P w) a vs) :
  ObjOk P w H' h' a (.dK kvs) := ⟨z, hd, vs, rel, dd⟩
theorem zkv {H' : Hp} {Q : Unit -> Shared -> Prop} (hu : A.units + 1 < cLine) (I : Inv X pins σ H s) (g : DPut H a y v H') (ry : RelV y u) (rv : RelV v r) (h : ∀ s', Inv X pins σ H' s' -> Q () s') :
  wpAny (model X.prog X.w) A (setItem (.ref a) u r) Q E s := by
 rcases g with ⟨kvs, k, e, ey, l, eH⟩ | ⟨kvs, k, b, e, ey, eb, l, eH⟩
 ·subst ey eH
  obtain ⟨z, hd, vs, rel, dd⟩ := dk_of I.hok e
  have hz : vs.length <= sizeLine := by rw [<- rel.length]; exact z
  have hl : (zds kvs k v).length <= sizeLine := by have := zci kvs k v; omega
  refine wpAny_setItem_pairs (hsz := hz) (zj3 ry) dd fun h' dd' hs => h _ ?_
  have he : ∃ q, h'.get? a = some q := let ⟨q, _, _, hq, _⟩ := dd'; ⟨q, hq⟩
  exact zgP I (by rw [e]; exact True.intro) hs he (zmj hl hd (rel.put k rv) dd')
 ·subst ey eH
  cases (show u = Value.ref b from ry)
  obtain ⟨z, hd, xs, rel, dd⟩ := dt_of I.hok e
  have hz : xs.length <= sizeLine := by rw [<- Paired.length rel]; exact z
  have hl : (zds kvs k v).length <= sizeLine := by have := zci kvs k v; omega
  refine wpAny_setItem_heap (hsz := hz) (tupleKind_room_in1 hu) (zhq I.hok eb) dd fun h' dd' hs => h _ ?_
  obtain ⟨q, es, ep, hq, h2, h3, h4, _, h5⟩ := dd'
  refine zgP I (by rw [e]; exact True.intro) hs ⟨q, hq⟩ ⟨hl, hd, _, (rel.put k eb rv).keeps fun c ys ec => ?_, q, es, ep, hq, h2, h3, h4, h5⟩
  rw [zal (ne_of ec e (fun z => nomatch z))]
  exact ec
end
section
variable {X : Cx} {pins : List (Addr × Obj)} {σ : St} {H : Hp} {s : Shared} {a : Addr} {kvs : List (Key × V)} {k : Key} {u : Value} {A : Around} {E : Value -> Shared -> Prop}
theorem d_len {Q : Value -> Shared -> Prop} (I : Inv X pins σ H s) (e : Rd H a (.dK kvs)) (h : ∀ t s', Inv X pins σ H s' -> Q (.int kvs.length t) s') : wpAny (model X.prog X.w) A (call (.builtin "len") [.ref a]) Q E s := by
 obtain ⟨z, hd, vs, rel, dd⟩ := zkr I.hok e
 refine call_len_dict hd dd (by rw [<- rel.length]; rw [sizeLine_eq] at z; omega) ?_
 rw [<- rel.length]
 exact h _ _ (I.tok _)
end
theorem zgO {X : Cx} {pins : List (Addr × Obj)} {σ : St} {H : Hp} {s : Shared} {a : Addr} {y : V} {o : Option V} (I : Inv X pins σ H s) (g : DGet H a y o) : s.TypeIs (.ref a) "dict" := by
 rcases g with ⟨kvs, k, e, _, _⟩ | ⟨kvs, k, b, e, _, _, _⟩
 ·obtain ⟨_, _, vs, _, dd⟩ := zkr I.hok e
  exact dd.typeIs
 ·obtain ⟨_, _, xs, _, dd⟩ := zlJ I.hok e
  exact dd.typeIs
def sDPut (td ty tv : TE) : TS := fun D σ H => tv σ H fun v H1 => td σ H1 fun x H2 => ty σ H2 fun y H3 => ∃ a H4, x = .ref a /\ DPut H3 a y v H4 /\ D.nx σ H4
section
variable {X : Cx} {o i e value : Expr} {pos pos' tpos : Pos} {td ty tv : TE}
theorem zm2 (hu : X.A.units + 1 < cLine) (ho : PE X o td) (hi : PE X i ty) (hv : PE X value tv) (hs : swapsWith value (some (.Subscript o i pos')) pos.line X.env = pure false) :
  PS X (.Assign [.Subscript o i pos'] value pos) (sDPut td ty tv) := by
 intro pins s σ H D I h
 refine wpAny_Assign_Subscript (thn (hv pins s σ H _ I h) fun r s1 ⟨v, H1, I1, rv, q1⟩ => thn (ho pins s1 σ H1 _ I1 q1) fun u s2 ⟨x, H2, I2, rx, q2⟩ => thn (hi pins s2 σ H2 _ I2 q2) fun iv s3 ⟨y, H3, I3, ry, a, H4, ex, g, q3⟩ => ?_) hs
 subst ex
 obtain rfl : u = Value.ref a := rx
 exact zkv hu I3 g ry rv fun s4 I4 => ⟨σ, H4, I4, q3⟩
end
theorem zhG {P : Program} {w : World} {H : Hp} (h : Heap) (hb : sysModules < h.objs.size) : ObjOk P w H (h.push { cls := .type "dict", data := .dict #[] }) h.objs.size (.dK []) :=
 ⟨Nat.zero_le _, beq_eq_false_iff_ne.mpr (Ne.symm (Nat.ne_of_lt hb)), [], .nil, Heap.DictOf.new h⟩
def tDNewK : TE := fun _ H Q => ∀ p, H p = none -> Q (.ref p) (upd H p (.dK []))
section
variable {X : Cx} {pos : Pos}
theorem zlg : PE X (.Dict [] [] pos) tDNewK := fun pins s σ H Q I h =>
 wpAny_Dict_empty ⟨.ref s.heap.objs.size, _, I.laid (a := s.heap.objs.size) (o := .dK []) (t' := s.toks) (fun _ _ q => Heap.get?_push_of_some _ q) (Nat.le_refl _) (zhG s.heap I.big), rfl, h _ (I.hok.fresh (Nat.le_refl _))⟩
end
def zg8 : List (TE × TE) -> St -> Hp -> (List (V × V) -> Hp -> Prop) -> Prop
 | [], _, H, Q => Q [] H
 | (tk, tv) :: r, σ, H, Q => tk σ H fun x H1 => tv σ H1 fun y H2 => zg8 r σ H2 fun ps H3 => Q ((x, y) :: ps) H3
abbrev VV : List (V × V) -> List (Value × Value) -> Prop := Paired fun p q => RelV p.1 q.1 /\ RelV p.2 q.2
def PPs (X : Cx) (pos : Pos) (keys : List (Option Expr)) (values : List Expr) (trs : List (TE × TE)) : Prop :=
 ∀ (pins : List (Addr × Obj)) (s : Shared) (σ : St) (H : Hp) (Q : List (V × V) -> Hp -> Prop), Inv X pins σ H s -> zg8 trs σ H Q →
  wpAny (model X.prog X.w) X.A (evalPairs (pairTrees keys values X.env pos)) (fun vs s' => ∃ ps H', Inv X pins σ H' s' /\ VV ps vs /\ Q ps H') X.xe s
theorem zm3 {X : Cx} {pos : Pos} : PPs X pos [] [] [] := fun pins s σ H Q I h => pairTrees_nil_walk ⟨[], H, I, .nil, h⟩
theorem zla {X : Cx} {pos : Pos} {k v : Expr} {ks : List (Option Expr)} {vs : List Expr} {tk tv : TE} {trs : List (TE × TE)} (hk : PE X k tk) (hv : PE X v tv) (hr : PPs X pos ks vs trs) :
  PPs X pos (some k :: ks) (v :: vs) ((tk, tv) :: trs) := fun pins s σ H Q I h =>
 pairTrees_cons_walk (thn (hk pins s σ H _ I h) fun u s1 ⟨x, H1, I1, rx, q1⟩ => thn (hv pins s1 σ H1 _ I1 q1) fun w2 s2 ⟨y, H2, I2, ry, q2⟩ =>
  thn (hr pins s2 σ H2 _ I2 q2) fun ws s3 ⟨ps, H3, I3, rel, q3⟩ => ⟨(x, y) :: ps, H3, I3, .cons ⟨rx, ry⟩ rel, q3⟩)
def zbV (kvs more : List (Key × V)) : List (Key × V) := more.foldl (fun acc kv => zds acc kv.1 kv.2) kvs
theorem KV.merge : ∀ {more : List (Key × V)} {rs : List (Key × Value)} {kvs : List (Key × V)} {vs : List (Key × Value)}, KV more rs -> KV kvs vs -> KV (zbV kvs more) (merged vs rs) := by
 intro more rs kvs vs r
 unfold KV at r
 induction r generalizing kvs vs with
 | nil => intro q; exact q
 | @cons p q ps qs h t ih =>
  intro r0
  have e : KV (zds kvs p.1 p.2) (stored vs q.1 q.2) := by
   have := r0.put p.1 h.2
   rw [<- h.1]; exact this
  exact ih e
theorem zcy : ∀ (more kvs : List (Key × V)), (zbV kvs more).length <= kvs.length + more.length
 | [], kvs => by show kvs.length <= kvs.length + 0; omega
 | p :: r, kvs => by
  have h1 := zcy r (zds kvs p.1 p.2)
  have h2 := zci kvs p.1 p.2
  show (zbV (zds kvs p.1 p.2) r).length <= _
  rw [List.length_cons]; omega
theorem zek {P : Program} {w : World} : ∀ {kvs : List (Key × V)} {ws : List (Value × Value)}, VV (kvs.map fun kv => (kV kv.1, kv.2)) ws -> ∃ rs, Carries (zaT P w) ws rs /\ KV kvs rs
 | [], _, r => by rw [List.map_nil] at r; cases r; exact ⟨[], True.intro, .nil⟩
 | p :: kvs, _, r => by
  rw [List.map_cons] at r
  cases r with
  | @cons a b as bs h t =>
   obtain ⟨rs, c, q⟩ := zek (P := P) (w := w) t
   obtain ⟨b1, b2⟩ := b
   exact ⟨(p.1, b2) :: rs, ⟨zj3 h.1, rfl, c⟩, .cons ⟨rfl, h.2⟩ q⟩
def tDisp (trs : List (TE × TE)) : TE := fun σ H Q => ∀ p, H p = none -> zg8 trs σ (upd H p (.dK [])) fun ps H2 => H2 p = some (.dK []) /\ ∃ kvs : List (Key × V), ps = kvs.map (fun kv => (kV kv.1, kv.2)) /\ kvs.length <= 15 /\ Q (.ref p) (upd H2 p (.dK (zbV [] kvs)))
theorem znc {X : Cx} {pos : Pos} {keys : List (Option Expr)} {values : List Expr} {trs : List (TE × TE)} (h : PPs X pos keys values trs) (hall : keys.all (·.isSome) = true) (hl : keys.length = values.length) (h0 : keys ≠ [])
  (h15 : keys.length <= 15) : PE X (.Dict keys values pos) (tDisp trs) := by
 intro pins s σ H Q I q
 have hn := I.hok.fresh (Nat.le_refl s.heap.objs.size)
 have I1 := I.laid (a := s.heap.objs.size) (o := .dK []) (h' := s.heap.push { cls := .type "dict", data := .dict #[] }) (t' := s.toks) (fun _ _ q => Heap.get?_push_of_some _ q) (Nat.le_refl _) (zhG s.heap I.big)
 refine wpAny_Dict_walk (knd := zaT X.prog X.w) hall hl h0 h15 (thn (h pins _ σ _ _ I1 (q _ hn)) fun ws s2 ⟨ps, H2, I2, rel, e, kvs, ep, lk, q2⟩ => ?_)
 subst ep
 obtain ⟨rs, c, rk⟩ := zek (P := X.prog) (w := X.w) rel
 obtain ⟨z, hd, vs0, r0, dd⟩ := dk_of I2.hok e
 cases r0
 refine ⟨rs, c, dd, fun h' dd' hs => ⟨.ref s.heap.objs.size, _, ?_, rfl, q2⟩⟩
 have hz : (zbV [] kvs).length <= sizeLine := by
  have h1 := zcy kvs []
  rw [List.length_nil] at h1
  rw [sizeLine_eq]; omega
 have he : ∃ q, h'.get? s.heap.objs.size = some q := let ⟨q, _, _, hq, _⟩ := dd'; ⟨q, hq⟩
 exact zgP I2 (by rw [e]; exact True.intro) hs he (zmj hz hd (rk.merge .nil) dd')
section
variable {X : Cx}
theorem op_isT : OpR X (compareOp .Is) (fun x y H Q => ∃ b c, x = .bl b /\ y = .bl c /\ Q (.bl (b == c)) H) := by
 intro pins s σ H x y v u Q I rx ry h
 obtain ⟨b, c, rfl, rfl, q⟩ := h
 cases rx
 cases ry
 exact is_bool ⟨.bl (b == c), H, I, rfl, q⟩
end
end L2
namespace PySem
open Sem (wp)
open Builtin
section
variable {prog : Program} {w : World} {A : Around} {E : Value -> Shared -> Prop} {s : Shared}
theorem zde {h h' : Heap} {c T : Addr} {a b : Value} (hs : Heap.SameBut c h h') (n : T ≠ c) (e : IsPair h T a b) : IsPair h' T a b := (hs.2 T n).trans e
theorem zdQ {z TI TO i1 i2 : Addr} {fp1 fp2 : List Addr} {n1 n2 k : Nat} {P1 P2 : Nat -> Value -> Prop} {S1 S2 : Nat -> Heap -> Prop} {a b : Value} {Q : Value -> Shared -> Prop}
  (D1 : Draws prog w A i1 fp1 n1 P1 S1) (D2 : Draws prog w A i2 fp2 n2 P2 S2) (hz : IsZip s.heap z TI TO .none) (hTI : IsPair s.heap TI (.ref i1) (.ref i2)) (hTO : IsPair s.heap TO a b)
  (h1 : S1 k s.heap) (h2 : S2 k s.heap) (k1 : k < n1) (k2 : k < n2) (nTO : TO ≠ z) (nTI : TI ≠ z) (n1z : i1 ≠ z) (n2z : i2 ≠ z) (n1T : i1 ≠ TO) (n2T : i2 ≠ TO)
  (f1z : z ∉ fp1) (f1T : TO ∉ fp1) (f12 : i2 ∉ fp1) (f2z : z ∉ fp2) (f2T : TO ∉ fp2) (f21 : i1 ∉ fp2)
  (hQ : ∀ x y h' tk, P1 k x -> P2 k y -> IsZip h' z TI TO (rawInt s.heap.objs.size) -> IsPair h' TO x y -> S1 (k + 1) h' -> S2 (k + 1) h' -> IsPair h' s.heap.objs.size x y -> h'.objs.size = s.heap.objs.size + 1 →
   (∀ c o, c ≠ z -> c ≠ TO -> c ≠ i1 -> c ≠ i2 -> s.heap.get? c = some o -> h'.get? c = some o) -> Q (.ref s.heap.objs.size) { s with heap := h', toks := tk }) :
  wpAny (model prog w) A (Builtin.«zip.__next__» ⟨[.ref z], []⟩) (fun fin s' => ∃ v, fin = .done (.ret v) /\ Q v s') E s := by
 show wpAny _ _ (field (.ref z) 2 >>= _) _ _ s
 refine wpAny_bind (wpAny_field hz rfl (x := .bool false) rfl ?_)
 refine wpAny_bind (wpAny_field hz rfl (x := .ref TI) rfl ?_)
 refine wpAny_bind (wpAny_seqItems hTI rfl ?_)
 refine wpAny_bind (m := SmallTypes.ownedTupleIsFree (.ref z)) (wpAny_bind (wpAny_field hz rfl (x := .none) rfl (wpAny_pure ?_)))
 show wpAny _ _ (if true = true then _ else _) _ _ s
 rw [if_pos rfl]
 refine wpAny_bind (wpAny_rule ?_)
 refine wpAny_bind (wpAny_field hz rfl (x := .ref TO) rfl ?_)
 refine wpAny_bind (wpAny_setField_rec hz (by simp) fun g1 hz1 hs1 => ?_)
 have st1 : S1 k g1 := D1.frame k _ _ h1 fun c hc o e => (hs1.2 c fun q => f1z (q ▸ hc)).trans e
 have st2 : S2 k g1 := D2.frame k _ _ h2 fun c hc o e => (hs1.2 c fun q => f2z (q ▸ hc)).trans e
 have hTO1 := zde hs1 nTO hTO
 refine wpAny_bind ?_
 show wpAny _ _ (forIn [(Value.ref i1, 0), (Value.ref i2, 1)] _ _) _ _ _
 rw [List.forIn_cons]
 refine wpAny_bind (wpAny_bind (wpAny_onRaise ?_))
 refine wpAny_bind (m := SmallTypes.nextOf (.ref i1)) (D1.item k { s with heap := g1 } _ _ k1 st1 fun x g2 tk2 px st1' hs2 => wpAny_pure ?_)
 have hTO2 := zde hs2 (Ne.symm n1T) hTO1
 refine wpAny_bind (wpAny_seqItems hTO2 rfl ?_)
 refine wpAny_bind (wpAny_updateSeq_pair hTO2 fun g3 hTO3 hs3 => ?_)
 refine wpAny_bind (wpAny_letGo (wpAny_pure ?_))
 have hTO3 : IsPair g3 TO x b := hTO3
 have st2' : S2 k g3 := D2.frame k _ _ st2 fun c hc o e => (hs3.2 c fun q => f2T (q ▸ hc)).trans ((hs2.2 c fun q => f21 (q ▸ hc)).trans e)
 show wpAny _ _ (forIn [(Value.ref i2, 1)] _ _) _ _ _
 rw [List.forIn_cons]
 refine wpAny_bind (wpAny_bind (wpAny_onRaise ?_))
 refine wpAny_bind (m := SmallTypes.nextOf (.ref i2)) (D2.item k { s with heap := g3, toks := tk2 } _ _ k2 st2' fun y g4 tk4 py st2'' hs4 => wpAny_pure ?_)
 have hTO4 := zde hs4 (Ne.symm n2T) hTO3
 refine wpAny_bind (wpAny_seqItems hTO4 rfl ?_)
 refine wpAny_bind (wpAny_updateSeq_pair hTO4 fun g5 hTO5 hs5 => ?_)
 refine wpAny_bind (wpAny_letGo (wpAny_pure ?_))
 have hTO5 : IsPair g5 TO x y := hTO5
 show wpAny _ _ (forIn [] _ _) _ _ _
 rw [List.forIn_nil]
 refine wpAny_pure ?_
 refine wpAny_bind (wpAny_seqItems hTO5 rfl ?_)
 refine wpAny_bind (wpAny_newTuple ?_)
 have hz5 : IsZip g5 z TI TO .ellipsis := (hs5.2 z (Ne.symm nTO)).trans ((hs4.2 z (Ne.symm n2z)).trans ((hs3.2 z (Ne.symm nTO)).trans ((hs2.2 z (Ne.symm n1z)).trans hz1)))
 have sz5 : g5.objs.size = s.heap.objs.size := by rw [hs5.1, hs4.1, hs3.1, hs2.1, hs1.1]
 have hz6 := Heap.get?_push_of_some { cls := Value.type "tuple", data := Data.seq #[x, y] } hz5
 refine wpAny_bind (m := SmallTypes.ownedTupleHandOut _ _) ?_
 refine wpAny_bind (m := setField _ 0 _) (wpAny_setField_rec hz6 (by simp) fun g7 hz7 hs7 => ?_)
 refine wpAny_setField_rec hz7 (by simp) fun g8 hz8 hs8 => ?_
 have lt : ∀ {c : Addr} {o : Obj}, s.heap.get? c = some o -> c < g5.objs.size := fun e => by rw [sz5]; exact Heap.lt_size e
 have nw : g5.objs.size ≠ z := Nat.ne_of_gt (Heap.lt_size hz5)
 have fr : ∀ c o, c ≠ z -> g5.get? c = some o -> g8.get? c = some o := fun c o n e => (hs8.2 c n).trans ((hs7.2 c n).trans (Heap.get?_push_of_some _ e))
 have up : ∀ c o, c ≠ z -> c ≠ TO -> c ≠ i2 -> g2.get? c = some o -> g8.get? c = some o := fun c o c1 c2 c3 e => fr c o c1 ((hs5.2 c c2).trans ((hs4.2 c c3).trans ((hs3.2 c c2).trans e)))
 have hnew : g8.get? g5.objs.size = some { cls := Value.type "tuple", data := Data.seq #[x, y] } := (hs8.2 _ nw).trans ((hs7.2 _ nw).trans (Heap.get?_push_size _ rfl))
 have sz8 : g8.objs.size = s.heap.objs.size + 1 := by
  rw [hs8.1]
  show g7.objs.size = _
  rw [hs7.1]
  show (g5.push _).objs.size = _
  rw [Heap.size_push, sz5]
 have hz8' : IsZip g8 z TI TO (rawInt s.heap.objs.size) := by
  rw [<- sz5]
  exact hz8
 refine wpAny_pure ⟨_, rfl, ?_⟩
 show Q (Value.ref g5.objs.size) { s with heap := g8, toks := tk4 }
 rw [sz5] at hnew ⊢
 refine hQ x y g8 tk4 px py hz8' (fr _ _ nTO hTO5) (D1.frame _ _ _ st1' fun c hc o e => up c o (fun q => f1z (q ▸ hc)) (fun q => f1T (q ▸ hc)) (fun q => f12 (q ▸ hc)) e) (D2.frame _ _ _ st2'' fun c hc o e => fr c o (fun q => f2z (q ▸ hc)) ((hs5.2 c fun q => f2T (q ▸ hc)).trans e)) hnew sz8 fun c o c1 c2 c3 c4 e => up c o c1 c2 c4 ((hs2.2 c c3).trans ((hs1.2 c c1).trans e))
theorem zep {z TI TO i1 i2 : Addr} {fp1 : List Addr} {n1 : Nat} {P1 : Nat -> Value -> Prop} {S1 : Nat -> Heap -> Prop} {a b : Value} {Q : Value -> Shared -> Prop}
  (D1 : Draws prog w A i1 fp1 n1 P1 S1) (hz : IsZip s.heap z TI TO .none) (hTI : IsPair s.heap TI (.ref i1) (.ref i2)) (hTO : IsPair s.heap TO a b)
  (h1 : S1 n1 s.heap) (nTO : TO ≠ z) (n1z : i1 ≠ z) (f1z : z ∉ fp1)
  (hE : ∀ h' e, (∃ o, h'.get? e = some o /\ o.cls = .type "StopIteration") -> (∀ c o, c ≠ z -> c ≠ TO -> c ≠ i1 -> c ≠ i2 -> s.heap.get? c = some o -> h'.get? c = some o) -> E (.ref e) { s with heap := h' }) :
  wpAny (model prog w) A (Builtin.«zip.__next__» ⟨[.ref z], []⟩) (fun fin s' => ∃ v, fin = .done (.ret v) /\ Q v s') E s := by
 show wpAny _ _ (field (.ref z) 2 >>= _) _ _ s
 refine wpAny_bind (wpAny_field hz rfl (x := .bool false) rfl ?_)
 refine wpAny_bind (wpAny_field hz rfl (x := .ref TI) rfl ?_)
 refine wpAny_bind (wpAny_seqItems hTI rfl ?_)
 refine wpAny_bind (m := SmallTypes.ownedTupleIsFree (.ref z)) (wpAny_bind (wpAny_field hz rfl (x := .none) rfl (wpAny_pure ?_)))
 show wpAny _ _ (if true = true then _ else _) _ _ s
 rw [if_pos rfl]
 refine wpAny_bind (wpAny_rule ?_)
 refine wpAny_bind (wpAny_field hz rfl (x := .ref TO) rfl ?_)
 refine wpAny_bind (wpAny_setField_rec hz (by simp) fun g1 hz1 hs1 => ?_)
 have st1 : S1 n1 g1 := D1.frame n1 _ _ h1 fun c hc o e => (hs1.2 c fun q => f1z (q ▸ hc)).trans e
 refine wpAny_bind ?_
 show wpAny _ _ (forIn [(Value.ref i1, 0), (Value.ref i2, 1)] _ _) _ _ _
 rw [List.forIn_cons]
 refine wpAny_bind (wpAny_bind (wpAny_onRaise ?_))
 refine wpAny_bind (m := SmallTypes.nextOf (.ref i1)) (D1.done { s with heap := g1 } _ _ st1 fun g2 e hs2 he => ?_)
 have hz2 : g2.get? z = some _ := hs2 z _ (Ne.symm n1z) hz1
 refine wpAny_setField_rec hz2 (by simp) fun g3 hz3 hs3 => ?_
 obtain ⟨oe, e1, e2⟩ := he
 have ez : e ≠ z := fun q => by
  rw [q, hz2] at e1
  cases e1
  exact absurd (Value.type.inj e2) (by decide)
 exact hE g3 e ⟨oe, (hs3.2 e ez).trans e1, e2⟩ fun c o c1 c2 c3 c4 q => (hs3.2 c c1).trans (hs2 c o c3 ((hs1.2 c c1).trans q))
theorem zbL {z TI TO i1 i2 : Addr} {fp1 fp2 : List Addr} {n1 n2 k : Nat} {P1 P2 : Nat -> Value -> Prop} {S1 S2 : Nat -> Heap -> Prop} {a b : Value} {Q : Option Value -> Shared -> Prop}
  (D1 : Draws prog w A.in1 i1 fp1 n1 P1 S1) (D2 : Draws prog w A.in1 i2 fp2 n2 P2 S2) (hz : IsZip s.heap z TI TO .none) (hTI : IsPair s.heap TI (.ref i1) (.ref i2)) (hTO : IsPair s.heap TO a b)
  (h1 : S1 k s.heap) (h2 : S2 k s.heap) (k1 : k < n1) (k2 : k < n2) (nTO : TO ≠ z) (nTI : TI ≠ z) (n1z : i1 ≠ z) (n2z : i2 ≠ z) (n1T : i1 ≠ TO) (n2T : i2 ≠ TO)
  (f1z : z ∉ fp1) (f1T : TO ∉ fp1) (f12 : i2 ∉ fp1) (f2z : z ∉ fp2) (f2T : TO ∉ fp2) (f21 : i1 ∉ fp2)
  (hQ : ∀ x y h' tk, P1 k x -> P2 k y -> IsZip h' z TI TO (rawInt s.heap.objs.size) -> IsPair h' TO x y -> S1 (k + 1) h' -> S2 (k + 1) h' -> IsPair h' s.heap.objs.size x y -> h'.objs.size = s.heap.objs.size + 1 →
   (∀ c o, c ≠ z -> c ≠ TO -> c ≠ i1 -> c ≠ i2 -> s.heap.get? c = some o -> h'.get? c = some o) -> Q (some (.ref s.heap.objs.size)) { s with heap := h', toks := tk }) :
  wpAny (model prog w) A (pyNext (.ref z)) Q E s := by
 have hT : s.TypeIs (.ref z) "zip" := ⟨_, hz, rfl⟩
 exact wpAny_bind (wpAny_attempt (wpAny_callSpecial?_slot hT F.slot_zip_next (wpAny_call_entry F.slot_zip_next hT F.entry_zip_next
  (zdQ D1 D2 hz hTI hTO h1 h2 k1 k2 nTO nTI n1z n2z n1T n2T f1z f1T f12 f2z f2T f21 fun x y h' tk a0 b0 a1 a2 a3 a4 a5 a6 a7 => wpAny_pure (hQ x y h' tk a0 b0 a1 a2 a3 a4 a5 a6 a7)) (F.args_zip_next_1 (Value.ref z)))))
theorem zbN {z TI TO i1 i2 : Addr} {fp1 : List Addr} {n1 : Nat} {P1 : Nat -> Value -> Prop} {S1 : Nat -> Heap -> Prop} {a b : Value} {Q : Option Value -> Shared -> Prop}
  (D1 : Draws prog w A.in1 i1 fp1 n1 P1 S1) (hz : IsZip s.heap z TI TO .none) (hTI : IsPair s.heap TI (.ref i1) (.ref i2)) (hTO : IsPair s.heap TO a b)
  (h1 : S1 n1 s.heap) (nTO : TO ≠ z) (n1z : i1 ≠ z) (f1z : z ∉ fp1)
  (hQ : ∀ h', (∀ c o, c ≠ z -> c ≠ TO -> c ≠ i1 -> c ≠ i2 -> s.heap.get? c = some o -> h'.get? c = some o) -> Q none { s with heap := h' }) :
  wpAny (model prog w) A (pyNext (.ref z)) Q E s := by
 have hT : s.TypeIs (.ref z) "zip" := ⟨_, hz, rfl⟩
 exact wpAny_bind (wpAny_attempt (wpAny_callSpecial?_slot hT F.slot_zip_next (wpAny_call_entry F.slot_zip_next hT F.entry_zip_next
  (zep D1 hz hTI hTO h1 nTO n1z f1z fun h' e he k => let ⟨o, ho, hc⟩ := he; wpAny_bind (wpAny_isInstance ⟨o, ho, hc⟩ isSubtype_stop (wpAny_pure (hQ h' k)))) (F.args_zip_next_1 (Value.ref z)))))
end
def zpH (h : Heap) (o1 o2 : Obj) : Heap :=
 ((((h.push o1).push o2).push { cls := .type "tuple", data := .seq #[.ref h.objs.size, .ref (h.push o1).objs.size] }).push { cls := .type "tuple", data := .seq #[.none, .none] }).push
  { cls := .type "zip", data := .fields #[.none, .bool false, .bool false, .ref ((h.push o1).push o2).objs.size, .ref (((h.push o1).push o2).push { cls := .type "tuple", data := .seq #[.ref h.objs.size, .ref (h.push o1).objs.size] }).objs.size] }
abbrev tIt (l : Addr) : Obj := { cls := .type "tuple_iterator", data := .fields #[.ref l, .int 0 0] }
abbrev lIt (l : Addr) : Obj := { cls := .type "list_iterator", data := .fields #[.ref l, .int 0 0] }
theorem zfz (l1 l2 : Addr) (xs ys : Array Value) :
  Meets (Builtin.«zip.__new__» ⟨[.type "zip", .ref l1, .ref l2], []⟩) (fun _ R s => s.heap.IsTuple l1 xs /\ s.heap.IsList l2 ys ∧
   R (.ok (.ret (.ref ((((s.heap.push (tIt l1)).push (lIt l2)).push { cls := .type "tuple", data := .seq #[.ref s.heap.objs.size, .ref (s.heap.push (tIt l1)).objs.size] }).push { cls := .type "tuple", data := .seq #[.none, .none] }).objs.size)))
    { s with heap := zpH s.heap (tIt l1) (lIt l2) }) :=
 .of_wp fun prog w A R s h => by
  obtain ⟨hp, g, d, tk, os⟩ := s
  obtain ⟨hl1, hl2, h⟩ := h
  have hsub := sub_zip
  have hL1 := hl1
  have hL2 := Heap.IsList.push hl2 (tIt l1)
  wp_walk using wpAny_pyIter_tuple hL1, wpAny_pyIter_list hL2
  exact ⟨_, rfl, h⟩
theorem zgR {prog : Program} {w : World} {A : Around} {E : Value -> Shared -> Prop} {s : Shared} {l1 l2 : Addr} {xs ys : Array Value} {Q : Value -> Shared -> Prop} (h1 : s.heap.IsTuple l1 xs) (h2 : s.heap.IsList l2 ys)
  (h : ∀ h', IsZip h' (s.heap.objs.size + 4) (s.heap.objs.size + 2) (s.heap.objs.size + 3) .none -> IsPair h' (s.heap.objs.size + 2) (.ref s.heap.objs.size) (.ref (s.heap.objs.size + 1)) -> IsPair h' (s.heap.objs.size + 3) .none .none →
   h'.IsTupleIter s.heap.objs.size l1 0 -> h'.IsListIter (s.heap.objs.size + 1) l2 0 -> (∀ b o, s.heap.get? b = some o -> h'.get? b = some o) -> Q (.ref (s.heap.objs.size + 4)) { s with heap := h' }) :
  wpAny (model prog w) A (call (.type "zip") [.ref l1, .ref l2]) Q E s := by
 refine callType_new F.called_zip (by decide) (F.typeCall_zip_2 _ _) (F.newCall_zip_2 _ _) (fun obj => F.args_object_init_3 obj _ _) F.entry_zip_new (zfz l1 l2 xs ys) ⟨h1, h2, ?_⟩
 have z1 : (s.heap.push (tIt l1)).objs.size = s.heap.objs.size + 1 := Heap.size_push ..
 have z2 : ((s.heap.push (tIt l1)).push (lIt l2)).objs.size = s.heap.objs.size + 2 := by rw [Heap.size_push, z1]
 have z3 : (((s.heap.push (tIt l1)).push (lIt l2)).push { cls := .type "tuple", data := .seq #[.ref s.heap.objs.size, .ref (s.heap.push (tIt l1)).objs.size] }).objs.size = s.heap.objs.size + 3 := by rw [Heap.size_push, z2]
 have z4 : ((((s.heap.push (tIt l1)).push (lIt l2)).push { cls := .type "tuple", data := .seq #[.ref s.heap.objs.size, .ref (s.heap.push (tIt l1)).objs.size] }).push { cls := .type "tuple", data := .seq #[.none, .none] }).objs.size = s.heap.objs.size + 4 := by rw [Heap.size_push, z3]
 have g5 : IsZip (zpH s.heap (tIt l1) (lIt l2)) (s.heap.objs.size + 4) (s.heap.objs.size + 2) (s.heap.objs.size + 3) .none := by
  rw [<- z4, <- z3, <- z2]
  exact Heap.get?_push_size _ rfl
 have g4 : IsPair (zpH s.heap (tIt l1) (lIt l2)) (s.heap.objs.size + 3) .none .none := by
  rw [<- z3]
  exact Heap.get?_push_of_some _ (Heap.get?_push_size _ rfl)
 have g3 : IsPair (zpH s.heap (tIt l1) (lIt l2)) (s.heap.objs.size + 2) (.ref s.heap.objs.size) (.ref (s.heap.objs.size + 1)) := by
  rw [<- z2, <- z1]
  exact Heap.get?_push_of_some _ (Heap.get?_push_of_some _ (Heap.get?_push_size _ rfl))
 have g2 : (zpH s.heap (tIt l1) (lIt l2)).get? (s.heap.objs.size + 1) = some (lIt l2) := by
  rw [<- z1]
  exact Heap.get?_push_of_some _ (Heap.get?_push_of_some _ (Heap.get?_push_of_some _ (Heap.get?_push_size _ rfl)))
 have g1 : (zpH s.heap (tIt l1) (lIt l2)).get? s.heap.objs.size = some (tIt l1) := Heap.get?_push_of_some _ (Heap.get?_push_of_some _ (Heap.get?_push_of_some _ (Heap.get?_push_of_some _ (Heap.get?_push_size _ rfl))))
 show _ /\ _
 rw [z4]
 exact ⟨⟨_, g5, rfl⟩, h _ g5 g3 g4 ⟨_, g1, rfl, rfl⟩ ⟨_, g2, rfl, rfl⟩ fun b o e => Heap.get?_push_of_some _ (Heap.get?_push_of_some _ (Heap.get?_push_of_some _ (Heap.get?_push_of_some _ (Heap.get?_push_of_some _ e))))⟩
theorem zfy (l1 l2 : Addr) (xs ys : Array Value) :
  Meets (Builtin.«zip.__new__» ⟨[.type "zip", .ref l1, .ref l2], []⟩) (fun _ R s => s.heap.IsTuple l1 xs /\ s.heap.IsTuple l2 ys ∧
   R (.ok (.ret (.ref ((((s.heap.push (tIt l1)).push (tIt l2)).push { cls := .type "tuple", data := .seq #[.ref s.heap.objs.size, .ref (s.heap.push (tIt l1)).objs.size] }).push { cls := .type "tuple", data := .seq #[.none, .none] }).objs.size)))
    { s with heap := zpH s.heap (tIt l1) (tIt l2) }) :=
 .of_wp fun prog w A R s h => by
  obtain ⟨hp, g, d, tk, os⟩ := s
  obtain ⟨hl1, hl2, h⟩ := h
  have hsub := sub_zip
  have hL1 := hl1
  have hL2 := Heap.IsTuple.push hl2 (tIt l1)
  wp_walk using wpAny_pyIter_tuple hL1, wpAny_pyIter_tuple hL2
  exact ⟨_, rfl, h⟩
theorem zgQ {prog : Program} {w : World} {A : Around} {E : Value -> Shared -> Prop} {s : Shared} {l1 l2 : Addr} {xs ys : Array Value} {Q : Value -> Shared -> Prop} (h1 : s.heap.IsTuple l1 xs) (h2 : s.heap.IsTuple l2 ys)
  (h : ∀ h', IsZip h' (s.heap.objs.size + 4) (s.heap.objs.size + 2) (s.heap.objs.size + 3) .none -> IsPair h' (s.heap.objs.size + 2) (.ref s.heap.objs.size) (.ref (s.heap.objs.size + 1)) -> IsPair h' (s.heap.objs.size + 3) .none .none →
   h'.IsTupleIter s.heap.objs.size l1 0 -> h'.IsTupleIter (s.heap.objs.size + 1) l2 0 -> (∀ b o, s.heap.get? b = some o -> h'.get? b = some o) -> Q (.ref (s.heap.objs.size + 4)) { s with heap := h' }) :
  wpAny (model prog w) A (call (.type "zip") [.ref l1, .ref l2]) Q E s := by
 refine callType_new F.called_zip (by decide) (F.typeCall_zip_2 _ _) (F.newCall_zip_2 _ _) (fun obj => F.args_object_init_3 obj _ _) F.entry_zip_new (zfy l1 l2 xs ys) ⟨h1, h2, ?_⟩
 have z1 : (s.heap.push (tIt l1)).objs.size = s.heap.objs.size + 1 := Heap.size_push ..
 have z2 : ((s.heap.push (tIt l1)).push (tIt l2)).objs.size = s.heap.objs.size + 2 := by rw [Heap.size_push, z1]
 have z3 : (((s.heap.push (tIt l1)).push (tIt l2)).push { cls := .type "tuple", data := .seq #[.ref s.heap.objs.size, .ref (s.heap.push (tIt l1)).objs.size] }).objs.size = s.heap.objs.size + 3 := by rw [Heap.size_push, z2]
 have z4 : ((((s.heap.push (tIt l1)).push (tIt l2)).push { cls := .type "tuple", data := .seq #[.ref s.heap.objs.size, .ref (s.heap.push (tIt l1)).objs.size] }).push { cls := .type "tuple", data := .seq #[.none, .none] }).objs.size = s.heap.objs.size + 4 := by rw [Heap.size_push, z3]
 have g5 : IsZip (zpH s.heap (tIt l1) (tIt l2)) (s.heap.objs.size + 4) (s.heap.objs.size + 2) (s.heap.objs.size + 3) .none := by
  rw [<- z4, <- z3, <- z2]
  exact Heap.get?_push_size _ rfl
 have g4 : IsPair (zpH s.heap (tIt l1) (tIt l2)) (s.heap.objs.size + 3) .none .none := by
  rw [<- z3]
  exact Heap.get?_push_of_some _ (Heap.get?_push_size _ rfl)
 have g3 : IsPair (zpH s.heap (tIt l1) (tIt l2)) (s.heap.objs.size + 2) (.ref s.heap.objs.size) (.ref (s.heap.objs.size + 1)) := by
  rw [<- z2, <- z1]
  exact Heap.get?_push_of_some _ (Heap.get?_push_of_some _ (Heap.get?_push_size _ rfl))
 have g2 : (zpH s.heap (tIt l1) (tIt l2)).get? (s.heap.objs.size + 1) = some (tIt l2) := by
  rw [<- z1]
  exact Heap.get?_push_of_some _ (Heap.get?_push_of_some _ (Heap.get?_push_of_some _ (Heap.get?_push_size _ rfl)))
 have g1 : (zpH s.heap (tIt l1) (tIt l2)).get? s.heap.objs.size = some (tIt l1) := Heap.get?_push_of_some _ (Heap.get?_push_of_some _ (Heap.get?_push_of_some _ (Heap.get?_push_of_some _ (Heap.get?_push_size _ rfl))))
 show _ /\ _
 rw [z4]
 exact ⟨⟨_, g5, rfl⟩, h _ g5 g3 g4 ⟨_, g1, rfl, rfl⟩ ⟨_, g2, rfl, rfl⟩ fun b o e => Heap.get?_push_of_some _ (Heap.get?_push_of_some _ (Heap.get?_push_of_some _ (Heap.get?_push_of_some _ (Heap.get?_push_of_some _ e))))⟩
end PySem
namespace L2
open PySem PySem.Spec PyProof.Rows
theorem Inv.turnN {X : Cx} {pins : List (Addr × Obj)} {σ : St} {H : Hp} {s : Shared} {h' : Heap} {t' : Nat} {ch : List Addr} (I : Inv X pins σ H s) (fa : ∀ b ∈ ch, zd1 X pins H b)
  (k : ∀ c o, c ∉ ch -> s.heap.get? c = some o -> h'.get? c = some o) : Inv X pins σ H { s with heap := h', toks := t' } := by
 have na : ∀ c u, H c = some u -> c ∉ ch := fun c u e z => by have := (fa c z).1; rw [e] at this; cases this
 refine I.step (g' := s.gens) (d' := s.drawn) (ch := ch) (fun c hc => ?_) (fun c o _ _ hc e _ => k c o hc e) (fun c o _ _ hc e _ => ⟨o.slots, k c o hc e⟩)
  (fun _ _ _ _ n => n) (fun c o hc e => ⟨o, k c o hc e⟩) (fun _ _ e => e) (fun _ _ _ e => e) (fun c ps e => ⟨#[], by rw [e]; simp⟩) (fun m hm => ?_) (fun c u e => ?_) I.bare
 ·obtain ⟨a0, a1, a2, a3, a4, a5⟩ := fa c hc
  exact ⟨a3, a1, a4, a5⟩
 ·obtain ⟨o, es, ep, ho, r⟩ := hm
  exact ⟨o, es, ep, k _ o (fun z => (fa _ z).2.1 rfl) ho, r⟩
 ·refine (I.hok c u e).stay (fun d v hd q => ?_) (fun _ q => q) fun _ _ q => q
  rcases hd with z | z
  ·rw [z] at q ⊢
   exact k c v (na c u e) q
  ·exact k d v (na d _ z) q
theorem Inv.turnNl {X : Cx} {pins : List (Addr × Obj)} {σ : St} {H : Hp} {s : Shared} {h' : Heap} {t' : Nat} {ch : List Addr} {T : Addr} {o' : HO} (I : Inv X pins σ H s) (fa : ∀ b ∈ ch, zd1 X pins H b)
  (k : ∀ c o, c ∉ ch -> s.heap.get? c = some o -> h'.get? c = some o) (hT : s.heap.objs.size <= T) (new : ObjOk X.prog X.w (upd H T o') h' T o') : Inv X pins σ (upd H T o') { s with heap := h', toks := t' } := by
 have J : Inv X pins σ H { s with heap := h', toks := t' } := I.turnN fa k
 have hn : H T = none := I.hok.fresh hT
 have nT : ∀ c o, s.heap.get? c = some o -> c ≠ T := fun c o q => Nat.ne_of_lt (Nat.lt_of_lt_of_le (Heap.lt_size q) hT)
 refine I.step (g' := s.gens) (d' := s.drawn) (ch := ch) (fun c hc => ?_) (fun c o _ _ hc e _ => k c o hc e) (fun c o _ _ hc e _ => ⟨o.slots, k c o hc e⟩)
  (fun c o _ q n => by rw [zal (nT c o q)]; exact n) (fun c o hc e => ⟨o, k c o hc e⟩) (fun c xs e => by rw [zal (zan e hn)]; exact e) (fun c u xs e => by rw [zal (zan e hn)]; exact e)
  (fun c ps e => ⟨#[], by rw [zal (zan e hn), e]; simp⟩) (fun m hm => ?_) (zfJ J.hok hn new) I.bare
 ·obtain ⟨a0, a1, a2, a3, a4, a5⟩ := fa c hc
  exact ⟨a3, a1, a4, a5⟩
 ·obtain ⟨o, es, ep, ho, r⟩ := hm
  exact ⟨o, es, ep, k _ o (fun z => (fa _ z).2.1 rfl) ho, r⟩
end L2
namespace PySem
open Sem (wp)
open Builtin
theorem zfI (a : Int) (t : Tok) (l : Addr) (items : Array Value) (n : Nat) (dd : Option Addr) (sl : Array (Option Value)) :
  Meets (Builtin.«int.__rmul__» ⟨[.int a t, .ref l], []⟩) (fun _ R s => s.heap.get? l = some ⟨.type "tuple", dd, .seq items n, sl⟩ /\ R (.ok (.ret .notImplemented)) s) :=
 .of_wp fun prog w A R s h => by
  obtain ⟨hp, g, d, tk, os⟩ := s
  obtain ⟨hl, h⟩ := h
  wp_walk
  exact ⟨_, rfl, h⟩
theorem zc1 : fillsNumberSlot (Value.type "tuple") "mul" = pure false := PySem.fillsNumberSlot_seq F.slot_tuple_mul.lookup (by first | rfl | decide) F.slot_tuple_rmul.lookup (by first | rfl | decide)
theorem zfe : seqRepeat? (Value.type "tuple") = pure (some (Value.builtin "tuple.__mul__")) := by
 unfold seqRepeat?
 have h1 : seqSlot? (Value.type "tuple") (Str.ofString "__mul__") = _ := PySem.seqSlot_of F.slot_tuple_mul.lookup (by first | rfl | decide)
 have h2 : seqSlot? (Value.type "tuple") (Str.ofString "__rmul__") = _ := PySem.seqSlot_of F.slot_tuple_rmul.lookup (by first | rfl | decide)
 rw [h1, h2]
 rfl
theorem zkP (l : Addr) (v : Value) (t : Tok) (n : Nat) (dd : Option Addr) (sl : Array (Option Value)) :
  Meets (Builtin.«tuple.__mul__» ⟨[.ref l, .int 1 t], []⟩) (fun _ R s => s.heap.get? l = some ⟨.type "tuple", dd, .seq #[v] n, sl⟩ /\ R (.ok (.ret (.ref l))) s) :=
 .of_wp fun prog w A R s h => by
  obtain ⟨hp, g, d, tk, os⟩ := s
  obtain ⟨hl, h⟩ := h
  unfold Builtin.«tuple.__mul__»
  wp_walk
  exact ⟨_, rfl, h⟩
theorem zcZ (v : Value) : ∀ (n : Nat) (a : Array Value), List.foldl (fun x1 x2 => x1 ++ x2) a (List.replicate n #[v]) = a ++ (List.replicate n v).toArray
 | 0, a => by simp
 | n + 1, a => by
  rw [List.replicate_succ, List.foldl_cons, zcZ v n, List.replicate_succ]
  apply Array.ext'
  simp
theorem zhz (v : Value) (n : Nat) : List.foldl (fun x1 x2 => x1 ++ x2) #[] (List.replicate n #[v]) = (List.replicate n v).toArray := by rw [zcZ]; simp
theorem zkO (l : Addr) (v : Value) (x : Int) (t : Tok) (n : Nat) (dd : Option Addr) (sl : Array (Option Value)) (h2 : 2 <= x) (h3 : x <= 1000) :
  Meets (Builtin.«tuple.__mul__» ⟨[.ref l, .int x t], []⟩) (fun _ R s => s.heap.get? l = some ⟨.type "tuple", dd, .seq #[v] n, sl⟩ ∧
   R (.ok (.ret (.ref s.heap.objs.size))) { s with heap := s.heap.push { cls := .type "tuple", data := .seq (List.foldl (fun x1 x2 => x1 ++ x2) #[] (List.replicate x.toNat #[v])) } }) :=
 .of_wp fun prog w A R s h => by
  obtain ⟨hp, g, d, tk, os⟩ := s
  obtain ⟨hl, h⟩ := h
  have e1 : (decide (x < -2 ^ 63) || decide (x ≥ 2 ^ 63)) = false := by simp; omega
  have e2 : ((#[v] : Array Value).isEmpty || x == 1) = false := by simp; omega
  have e3 : (decide (x <= 0) || (#[v] : Array Value).isEmpty) = false := by simp; omega
  have e4 : ¬ (((#[v] : Array Value).size : Int) * x > (2 ^ 63 - 1) / 8) := by simp; omega
  have e5 : Builtin.Tuple.tupleTooMany (((#[v] : Array Value).size : Int) * x) = false := by
   unfold Builtin.Tuple.tupleTooMany
   have : (sizeLine : Int) = 16777216 := by decide
   rw [this]
   simp
   omega
  unfold Builtin.«tuple.__mul__»
  wp_walk
  rw [e1, if_neg Bool.false_ne_true]
  refine wpAny_bind (m := Builtin.Tuple.tupleItemsOf _) (wpAny_bind (wpAny_seqItems hl rfl (wpAny_pure ?_)))
  show wpAny _ _ (if ((#[v] : Array Value).isEmpty || x == 1) = true then _ else _) _ _ _
  rw [e2, if_neg Bool.false_ne_true]
  show wpAny _ _ (if (decide (x <= 0) || (#[v] : Array Value).isEmpty) = true then _ else _) _ _ _
  rw [e3, if_neg Bool.false_ne_true]
  show wpAny _ _ (if (((#[v] : Array Value).size : Int) * x > (2 ^ 63 - 1) / 8) then _ else _) _ _ _
  rw [if_neg e4]
  show wpAny _ _ (if Builtin.Tuple.tupleTooMany (((#[v] : Array Value).size : Int) * x) = true then _ else _) _ _ _
  rw [e5, if_neg Bool.false_ne_true]
  refine wpAny_bind (m := Builtin.Tuple.tupleExact _) (wpAny_newObj_type (wpAny_pure ⟨_, rfl, h⟩) ?_)
  rw [zhz]
  show (List.replicate x.toNat v).toArray.size <= sizeLine
  rw [List.size_toArray, List.length_replicate]
  have : sizeLine = 16777216 := by decide
  omega
end PySem
namespace L2
open PySem PySem.Spec PyProof.Rows
section
variable {X : Cx}
theorem zg2 {v : V} {u : Value} (r : RelV v u) : ∀ n : Nat, Vals (List.replicate n v) (List.replicate n u)
 | 0 => .nil
 | n + 1 => .cons r (zg2 r n)
end
end L2
namespace Mth
open PySem PyProof.Rows
end Mth
namespace L2
open PySem PySem.Spec PyProof.Rows
variable {X : Cx}
end L2
namespace PySem
open Sem (wp)
open Builtin
end PySem
namespace L2
open PySem PySem.Spec PyProof.Rows
end L2
set_option autoImplicit false
namespace MD
open PySem PySem.Spec PyProof.Rows L2
inductive D where
 | non | bl (b : Bool) | int (i : Int) | str (x : Str) | flt (b : UInt64) | byt (b : Array UInt8) | ob (k : Nat) | tup (xs : List D) | lst (xs : List D) | scr (xs : List D)
 | exn (c : Str) (ds : List D)
inductive MO where
 | lst (xs : List D) | dct (kvs : List (L2.Key × D)) | ins (c : Str) (fs : List (Str × D))
 | hid
abbrev Sto := List MO
abbrev En := List (Option D)
structure Exc where
 cls : Str
 args : List D
inductive Res (α : Type) where
 | ok (a : α) (m : Sto) | exc (c : Exc) (m : Sto) | bad
def Res.bind {α β : Type} (r : Res α) (k : α -> Sto -> Res β) : Res β := match r with
 | .ok a m => k a m
 | .exc c m => .exc c m
 | .bad => .bad
def Post {α : Type} (r : Res α) (Q : α -> Sto -> Prop) (E : Exc -> Sto -> Prop) : Prop := match r with
 | .ok a m => Q a m
 | .exc c m => E c m
 | .bad => False
def TupAt (K : PySem.W.Frag) (H : Hp) (a : Addr) (xs : List V) : Prop :=
 H a = some (.tup xs) ∨ ∃ (o : Obj) (its : Array Value) (n : Nat), K.lookup a = some o /\ o.cls = .type "tuple" /\ o.dict = none /\ o.data = .seq its n /\ its.size <= sizeLine /\ Vals xs its.toList
theorem TupAt.sq {K : PySem.W.Frag} {H : Hp} {a : Addr} {xs : List V} (h : TupAt K H a xs) : SqT K H a xs := by
 rcases h with h | ⟨o, its, n, h1, h2, _, h3, h4, h5⟩
 ·exact .inl (.inl h)
 ·exact .inr ⟨o, its, n, h1, h2, h3, h4, h5⟩
def KL (K : PySem.W.Frag) (a : Addr) (xs : List V) : Prop := ∃ (o : Obj) (its : Array Value) (n : Nat), K.lookup a = some o /\ o.cls = .type "list" /\ o.dict = none /\ o.data = .seq its n /\ its.size <= sizeLine /\ Vals xs its.toList
def LstAt (K : PySem.W.Frag) (α : List Addr) (H : Hp) (a : Addr) (xs : List V) : Prop := (a ∉ α /\ Rd H a (.lst xs)) ∨ KL K a xs
theorem LstAt.sq {K : PySem.W.Frag} {α : List Addr} {H : Hp} {a : Addr} {xs : List V} (h : LstAt K α H a xs) : SqL K H a xs := by
 rcases h with h | h
 ·exact .inl h.2
 ·exact .inr h
def zkM (C : Value) (dd : Option Addr) (e : Addr) : Heap -> Prop := fun h => ∃ o vs, h.get? e = some o /\ o.cls = C /\ o.dict = dd /\ o.data = .fields vs
def XdAt (H : Hp) (dd : Option Addr) (xs : List V) : Prop := (dd = none /\ xs = []) ∨ ∃ dx x, dd = some dx /\ xs = [x] /\ H dx = some (.xd [("row", x)])
mutual
def Rep (K : PySem.W.Frag) (α : List Addr) (H : Hp) : D -> V -> Prop
 | .non, v => v = .non
 | .bl b, v => v = .bl b
 | .int i, v => v = .int i
 | .str x, v => v = .str x
 | .flt x, v => v = .flt x
 | .byt x, v => v = .byt x
 | .ob k, v => ∃ a, α[k]? = some a /\ v = .ref a
 | .tup ds, v => ∃ a xs, v = .ref a /\ TupAt K H a xs /\ RepL K α H ds xs
 | .lst ds, v => ∃ a xs, v = .ref a /\ a ∉ α /\ Rd H a (.lst xs) /\ RepL K α H ds xs
 | .scr ds, v => ∃ a xs, v = .ref a /\ LstAt K α H a xs /\ RepL K α H ds xs
 | .exn c ds, v => ∃ a C dd xs, v = .ref a /\ PySem.W.nsIn K mainGlobals c = some (some (.ref C)) /\ H a = some (.ext (zkM (.ref C) dd a)) /\ XdAt H dd xs /\ RepL K α H ds xs
def RepL (K : PySem.W.Frag) (α : List Addr) (H : Hp) : List D -> List V -> Prop
 | [], vs => vs = []
 | d :: ds, vs => ∃ v r, vs = v :: r /\ Rep K α H d v /\ RepL K α H ds r
end
def RepKV (K : PySem.W.Frag) (α : List Addr) (H : Hp) : List (L2.Key × D) -> List (L2.Key × V) -> Prop
 | [], vs => vs = []
 | d :: ds, vs => ∃ v r, vs = (d.1, v) :: r /\ Rep K α H d.2 v /\ RepKV K α H ds r
def RepF (K : PySem.W.Frag) (α : List Addr) (H : Hp) : List (Str × D) -> List (Str × V) -> Prop
 | [], vs => vs = []
 | d :: ds, vs => ∃ v r, vs = (d.1, v) :: r /\ Rep K α H d.2 v /\ RepF K α H ds r
def MoRep (K : PySem.W.Frag) (cl : Str -> Addr) (α : List Addr) (H : Hp) (a : Addr) : MO -> Prop
 | .lst ds => ∃ xs, H a = some (.lst xs) /\ RepL K α H ds xs
 | .dct ds => ∃ xs, H a = some (.dK xs) /\ RepKV K α H ds xs
 | .ins c ds => ∃ dx xs, H a = some (.ins (cl c) dx xs) /\ RepF K α H ds xs
 | .hid => ∃ o xs, H a = some (.frz o (.dK xs))
structure Wd (K : PySem.W.Frag) (cl : Str -> Addr) (α : List Addr) (m : Sto) (H : Hp) : Prop where
 len : α.length = m.length
 nd : α.Nodup
 at' : ∀ (k : Nat) (a : Addr) (o : MO), α[k]? = some a -> m[k]? = some o -> MoRep K cl α H a o
structure Ext (α : List Addr) (H : Hp) (α' : List Addr) (H' : Hp) : Prop where
 pre : ∃ β, α' = α ++ β /\ ∀ b ∈ β, H b = none
 keep : ∀ a o, H a = some o -> a ∉ α -> H' a = some o
 there : ∀ a ∈ α, H' a ≠ none
 frzs : ∀ a o u, H a = some (.frz o u) -> H' a = some (.frz o u)
section
variable {K : PySem.W.Frag} {cl : Str -> Addr} {α α' α2 : List Addr} {m m' : Sto} {H H' H2 : Hp}
theorem Wd.is (W : Wd K cl α m H) {a : Addr} (ha : a ∈ α) : (∃ xs, H a = some (.lst xs)) ∨ (∃ xs, H a = some (.dK xs)) ∨ (∃ c dx xs, H a = some (.ins c dx xs)) ∨ ∃ o xs, H a = some (.frz o (.dK xs)) := by
 obtain ⟨k, hk, rfl⟩ := List.mem_iff_getElem.mp ha
 have hm : k < m.length := by rw [<- W.len]; exact hk
 have h := W.at' k α[k] m[k] (by simp [hk]) (by simp [hm])
 cases e : m[k] with
 | lst ds => rw [e] at h; obtain ⟨xs, h, _⟩ := h; exact .inl ⟨xs, h⟩
 | dct ds => rw [e] at h; obtain ⟨xs, h, _⟩ := h; exact .inr (.inl ⟨xs, h⟩)
 | ins c ds => rw [e] at h; obtain ⟨dx, xs, h, _⟩ := h; exact .inr (.inr (.inl ⟨_, dx, xs, h⟩))
 | hid => rw [e] at h; obtain ⟨o, xs, h⟩ := h; exact .inr (.inr (.inr ⟨o, xs, h⟩))
theorem Wd.has (W : Wd K cl α m H) {a : Addr} (ha : a ∈ α) : H a ≠ none := by
 rcases W.is ha with ⟨_, h⟩ | ⟨_, h⟩ | ⟨_, _, _, h⟩ | ⟨_, _, h⟩ <;> rw [h] <;> exact fun z => nomatch z
theorem Wd.notup (W : Wd K cl α m H) {a : Addr} {xs : List V} (h : Rd H a (.tup xs)) : a ∉ α := fun ha => by
 rcases h with h | ⟨o, h⟩ <;> rcases W.is ha with ⟨_, e⟩ | ⟨_, e⟩ | ⟨_, _, _, e⟩ | ⟨_, _, e⟩ <;> rw [h] at e <;> cases e
theorem Wd.noext (W : Wd K cl α m H) {a : Addr} {φ : Heap -> Prop} (h : H a = some (.ext φ)) : a ∉ α := fun ha => by
 rcases W.is ha with ⟨_, e⟩ | ⟨_, e⟩ | ⟨_, _, _, e⟩ | ⟨_, _, e⟩ <;> rw [h] at e <;> cases e
theorem Wd.noxd (W : Wd K cl α m H) {a : Addr} {fs : List (Str × V)} (h : H a = some (.xd fs)) : a ∉ α := fun ha => by
 rcases W.is ha with ⟨_, e⟩ | ⟨_, e⟩ | ⟨_, _, _, e⟩ | ⟨_, _, e⟩ <;> rw [h] at e <;> cases e
theorem Ext.rd (E : Ext α H α' H') {a : Addr} {u : HO} (h : Rd H a u) (n : a ∉ α) : Rd H' a u := by
 rcases h with h | ⟨o, h⟩
 ·exact .inl (E.keep a _ h n)
 ·exact .inr ⟨o, E.keep a _ h n⟩
theorem Rd.ne {a : Addr} {u : HO} (h : Rd H a u) : H a ≠ none := by
 rcases h with h | ⟨o, h⟩ <;> rw [h] <;> exact fun z => nomatch z
theorem Ext.sqt (E : Ext α H α' H') (W : Wd K cl α m H) {a : Addr} {xs : List V} (h : SqT K H a xs) : SqT K H' a xs := by
 rcases h with h | h
 ·exact .inl (E.rd h (W.notup h))
 ·exact .inr h
structure Kp (α : List Addr) (H : Hp) (α' : List Addr) (H' : Hp) : Prop where
 pre : ∃ β, α' = α ++ β
 tup : ∀ a xs, H a = some (.tup xs) -> H' a = some (.tup xs)
 lst : ∀ a xs, a ∉ α -> Rd H a (.lst xs) -> a ∉ α' /\ Rd H' a (.lst xs)
 ext : ∀ a φ, H a = some (.ext φ) -> H' a = some (.ext φ)
 xd : ∀ a fs, H a = some (.xd fs) -> H' a = some (.xd fs)
theorem Ext.kp (E : Ext α H α' H') (W : Wd K cl α m H) : Kp α H α' H' := ⟨let ⟨β, e, _⟩ := E.pre; ⟨β, e⟩, fun a xs h => E.keep a _ h (W.notup (.inl h)), fun a xs n h => ⟨fun z => by
  obtain ⟨β, rfl, hb⟩ := E.pre
  rcases List.mem_append.mp z with z | z
  ·exact n z
  ·exact Rd.ne h (hb a z), E.rd h n⟩, (fun a φ h => E.keep a _ h (W.noext h)), (fun a fs h => E.keep a _ h (W.noxd h))⟩
theorem Kp.xdAt (E : Kp α H α' H') {dd : Option Addr} {xs : List V} (h : XdAt H dd xs) : XdAt H' dd xs := by
 rcases h with h | ⟨dx, x, h1, h2, h3⟩
 ·exact .inl h
 ·exact .inr ⟨dx, x, h1, h2, E.xd _ _ h3⟩
theorem Kp.lstAt (E : Kp α H α' H') {a : Addr} {xs : List V} (h : LstAt K α H a xs) : LstAt K α' H' a xs := by
 rcases h with h | h
 ·exact .inl (E.lst a xs h.1 h.2)
 ·exact .inr h
mutual
theorem Rep.kp (E : Kp α H α' H') : ∀ {d : D} {v : V}, Rep K α H d v -> Rep K α' H' d v
 | .non, _, h => by simpa [Rep] using h
 | .bl _, _, h => by simpa [Rep] using h
 | .int _, _, h => by simpa [Rep] using h
 | .str _, _, h => by simpa [Rep] using h
 | .flt _, _, h => by simpa [Rep] using h
 | .byt _, _, h => by simpa [Rep] using h
 | .ob k, _, h => by
  rw [Rep] at h ⊢
  obtain ⟨a, h1, h2⟩ := h
  obtain ⟨β, rfl⟩ := E.pre
  exact ⟨a, by rw [List.getElem?_append_left (List.getElem?_eq_some_iff.mp h1).1]; exact h1, h2⟩
 | .tup ds, _, h => by
  rw [Rep] at h ⊢
  obtain ⟨a, xs, e, h1, h2⟩ := h
  refine ⟨a, xs, e, ?_, RepL.kp E h2⟩
  rcases h1 with h1 | h1
  ·exact .inl (E.tup a xs h1)
  ·exact .inr h1
 | .lst ds, _, h => by
  rw [Rep] at h ⊢
  obtain ⟨a, xs, e, n, h1, h2⟩ := h
  exact ⟨a, xs, e, (E.lst a xs n h1).1, (E.lst a xs n h1).2, RepL.kp E h2⟩
 | .scr ds, _, h => by
  rw [Rep] at h ⊢
  obtain ⟨a, xs, e, h1, h2⟩ := h
  exact ⟨a, xs, e, E.lstAt h1, RepL.kp E h2⟩
 | .exn c ds, _, h => by
  rw [Rep] at h ⊢
  obtain ⟨a, C, dd, xs, e, n, h1, h2, h3⟩ := h
  exact ⟨a, C, dd, xs, e, n, E.ext _ _ h1, E.xdAt h2, RepL.kp E h3⟩
theorem RepL.kp (E : Kp α H α' H') : ∀ {ds : List D} {vs : List V}, RepL K α H ds vs -> RepL K α' H' ds vs
 | [], _, h => by rw [RepL] at h ⊢; exact h
 | _ :: _, _, h => by
  rw [RepL] at h ⊢
  obtain ⟨v, r, e, h1, h2⟩ := h
  exact ⟨v, r, e, Rep.kp E h1, RepL.kp E h2⟩
end
theorem Rep.mono (W : Wd K cl α m H) (E : Ext α H α' H') {d : D} {v : V} (h : Rep K α H d v) : Rep K α' H' d v := h.kp (E.kp W)
theorem RepL.mono (W : Wd K cl α m H) (E : Ext α H α' H') {ds : List D} {vs : List V} (h : RepL K α H ds vs) : RepL K α' H' ds vs := h.kp (E.kp W)
theorem Ext.refl (W : Wd K cl α m H) : Ext α H α H := ⟨⟨[], by simp, fun _ h => nomatch h⟩, fun _ _ h _ => h, fun _ h => W.has h, fun _ _ _ h => h⟩
theorem Ext.trans (a : Ext α H α' H') (b : Ext α' H' α2 H2) : Ext α H α2 H2 := by
 obtain ⟨β, rfl, hb⟩ := a.pre
 obtain ⟨γ, rfl, hc⟩ := b.pre
 refine ⟨⟨β ++ γ, by simp, fun c h => ?_⟩, fun x o h n => b.keep x o (a.keep x o h n) fun z => ?_, fun x h => b.there x (List.mem_append_left _ h), fun x o u h => b.frzs x o u (a.frzs x o u h)⟩
 ·rcases List.mem_append.mp h with h | h
  ·exact hb c h
  ·cases e : H c with
   | none => rfl
   | some o =>
    by_cases hm : c ∈ α
    ·exact absurd (hc c h) (a.there c hm)
    ·have := a.keep c o e hm
     rw [hc c h] at this
     cases this
 ·rcases List.mem_append.mp z with z | z
  ·exact n z
  ·rw [hb x z] at h
   cases h
theorem Ext.of_same (W : Wd K cl α m H) (s : Same H H') : Ext α H α H' := by
 refine ⟨⟨[], by simp, fun _ h => nomatch h⟩, fun a o h _ => s a o h, fun a ha z => ?_, fun a o u h => s a _ h⟩
 cases e : H a with
 | none => exact W.has ha e
 | some o => rw [s a o e] at z; cases z
theorem RepKV.kp (E : Kp α H α' H') : ∀ {ds : List (L2.Key × D)} {vs : List (L2.Key × V)}, RepKV K α H ds vs -> RepKV K α' H' ds vs
 | [], _, h => h
 | _ :: _, _, ⟨v, r, e, h1, h2⟩ => ⟨v, r, e, Rep.kp E h1, RepKV.kp E h2⟩
theorem RepF.kp (E : Kp α H α' H') : ∀ {ds : List (Str × D)} {vs : List (Str × V)}, RepF K α H ds vs -> RepF K α' H' ds vs
 | [], _, h => h
 | _ :: _, _, ⟨v, r, e, h1, h2⟩ => ⟨v, r, e, Rep.kp E h1, RepF.kp E h2⟩
theorem RepKV.mono (W : Wd K cl α m H) (E : Ext α H α' H') {ds : List (L2.Key × D)} {vs : List (L2.Key × V)} (h : RepKV K α H ds vs) : RepKV K α' H' ds vs := h.kp (E.kp W)
theorem MoRep.kp (E : Kp α H α' H') {a : Addr} (s : ∀ o, H a = some o -> H' a = some o) : ∀ {o : MO}, MoRep K cl α H a o -> MoRep K cl α' H' a o
 | .lst _, ⟨xs, h1, h2⟩ => ⟨xs, s _ h1, h2.kp E⟩
 | .dct _, ⟨xs, h1, h2⟩ => ⟨xs, s _ h1, h2.kp E⟩
 | .ins _ _, ⟨dx, xs, h1, h2⟩ => ⟨dx, xs, s _ h1, h2.kp E⟩
 | .hid, ⟨o, xs, h1⟩ => ⟨o, xs, s _ h1⟩
theorem MoRep.mono (W : Wd K cl α m H) (E : Ext α H α' H') {a : Addr} (s : ∀ o, H a = some o -> H' a = some o) {o : MO} (h : MoRep K cl α H a o) : MoRep K cl α' H' a o := h.kp (E.kp W) s
theorem Wd.same (W : Wd K cl α m H) (s : Same H H') : Wd K cl α m H' := ⟨W.len, W.nd, fun k a o h1 h2 => (W.at' k a o h1 h2).mono W (Ext.of_same W s) fun o h => s a o h⟩
theorem Wd.join (W : Wd K cl α m H) {p : Addr} {u : HO} {o : MO} (hn : p ∉ α) (kp : Kp α H (α ++ [p]) (upd H p u)) (h : MoRep K cl (α ++ [p]) (upd H p u) p o) : Wd K cl (α ++ [p]) (m ++ [o]) (upd H p u) := by
 refine ⟨by rw [List.length_append, List.length_append, W.len]; rfl, ?_, fun k a o' h1 h2 => ?_⟩
 ·rw [List.nodup_append]
  exact ⟨W.nd, by simp, fun a ha b hb e => hn (by rw [<- List.mem_singleton.mp hb, <- e]; exact ha)⟩
 ·by_cases hk : k < α.length
  ·rw [List.getElem?_append_left hk] at h1
   rw [List.getElem?_append_left (by rw [<- W.len]; exact hk)] at h2
   exact (W.at' k a o' h1 h2).kp kp fun o h => by rw [zal (fun z => hn (by rw [<- z]; exact List.mem_of_getElem? h1))]; exact h
  ·have hk2 : k = α.length := by
    have := (List.getElem?_eq_some_iff.mp h1).1
    rw [List.length_append] at this
    have : [p].length = 1 := rfl
    omega
   subst hk2
   rw [List.getElem?_append_right (Nat.le_refl _)] at h1
   rw [W.len, List.getElem?_append_right (Nat.le_refl _)] at h2
   simp at h1 h2
   subst h1 h2
   exact h
theorem Wd.new (W : Wd K cl α m H) {p : Addr} {u : HO} {o : MO} (hp : H p = none) (h : MoRep K cl (α ++ [p]) (upd H p u) p o) : Wd K cl (α ++ [p]) (m ++ [o]) (upd H p u) /\ Ext α H (α ++ [p]) (upd H p u) := by
 have s : Same H (upd H p u) := fun b o e => by rw [zal (zan e hp)]; exact e
 have E : Ext α H (α ++ [p]) (upd H p u) := ⟨⟨[p], rfl, fun b hb => by rw [List.mem_singleton.mp hb]; exact hp⟩, fun a o h _ => s a o h, (Ext.of_same W s).there, fun a o u h => s a _ h⟩
 exact ⟨W.join (fun z => W.has z hp) (E.kp W) h, E⟩
end
theorem ex3 {A B C : Type} {P Q R : A -> B -> C -> Prop} {G : Prop} (h : ∃ a b c, P a b c /\ Q a b c /\ R a b c) (k : ∀ a b c, P a b c -> Q a b c -> R a b c -> G) : G := h.elim fun a h => h.elim fun b h => h.elim fun c h => k a b c h.1 h.2.1 h.2.2
abbrev XD := Exc -> List Addr -> Sto -> Hp -> Prop
abbrev RD (τ : Type) := τ -> List Addr -> Sto -> Hp -> Prop
def PQ (K : PySem.W.Frag) (cl : Str -> Addr) (ex : XD) {τ : Type} (r : Res τ) (α : List Addr) (H : Hp) (R : RD τ) : Prop :=
 Post r (fun d m' => ∀ α' H', Ext α H α' H' -> Wd K cl α' m' H' -> R d α' m' H') fun c m' => ∀ α' H', Ext α H α' H' -> Wd K cl α' m' H' -> ex c α' m' H'
structure RepE (K : PySem.W.Frag) (α : List Addr) (H : Hp) (ρ : En) (σ : L2.St) : Prop where
 len : ρ.length = σ.length
 at' : ∀ (i : Nat) (d : D), ρ[i]? = some (some d) -> ∃ v, σ[i]? = some (some v) /\ Rep K α H d v
section
variable {K : PySem.W.Frag} {cl : Str -> Addr} {ex : XD} {α α' α2 : List Addr} {m m' : Sto} {H H' H2 : Hp} {ρ ρ' : En} {σ σ' : L2.St} {τ υ : Type}
theorem RepE.mono (W : Wd K cl α m H) (E : Ext α H α' H') (h : RepE K α H ρ σ) : RepE K α' H' ρ σ := ⟨h.len, fun i d e => let ⟨v, a, b⟩ := h.at' i d e; ⟨v, a, b.mono W E⟩⟩
theorem RepE.set {i : Nat} {d : D} {v : V} (h : RepE K α H ρ σ) (r : Rep K α H d v) : RepE K α H (ρ.set i (some d)) (σ.set i (some v)) := by
 refine ⟨by rw [List.length_set, List.length_set, h.len], fun j e hj => ?_⟩
 by_cases hij : i = j
 ·subst hij
  have hl : i < ρ.length := by
   have := (List.getElem?_eq_some_iff.mp hj).1
   rwa [List.length_set] at this
  rw [List.getElem?_set_self hl] at hj
  cases hj
  exact ⟨v, List.getElem?_set_self (by rw [<- h.len]; exact hl), r⟩
 ·rw [List.getElem?_set_ne hij] at hj ⊢
  exact h.at' j e hj
theorem RepE.more (h : RepE K α H ρ σ) (n : Nat) : RepE K α H (ρ ++ List.replicate n none) (σ ++ List.replicate n none) := by
 refine ⟨by simp [h.len], fun j e hj => ?_⟩
 by_cases hl : j < ρ.length
 ·rw [List.getElem?_append_left hl] at hj
  rw [List.getElem?_append_left (by rw [<- h.len]; exact hl)]
  exact h.at' j e hj
 ·rw [List.getElem?_append_right (by omega), List.getElem?_replicate] at hj
  split at hj <;> cases hj
theorem PQ.mono {r : Res τ} {R R' : RD τ} (E : Ext α H α' H') (h : PQ K cl ex r α H R) (hR : ∀ d α2 m2 H2, Ext α' H' α2 H2 -> Wd K cl α2 m2 H2 -> R d α2 m2 H2 -> R' d α2 m2 H2) : PQ K cl ex r α' H' R' := by
 cases r with
 | ok d m2 => exact fun α2 H2 E2 W2 => hR d α2 m2 H2 E2 W2 (h α2 H2 (E.trans E2) W2)
 | exc c m2 => exact fun α2 H2 E2 W2 => h α2 H2 (E.trans E2) W2
 | bad => exact h
theorem PQ.bind {r : Res τ} {k : τ -> Sto -> Res υ} {R : RD υ} (h : PQ K cl ex (r.bind k) α H R) : PQ K cl ex r α H fun d α1 m1 H1 => PQ K cl ex (k d m1) α1 H1 R := by
 cases r with
 | ok d m1 => exact fun α1 H1 E1 _ => PQ.mono E1 h fun _ _ _ _ _ _ q => q
 | exc c m1 => exact h
 | bad => exact h
theorem PQ.ok {d : τ} {R : RD τ} (W : Wd K cl α m H) (h : PQ K cl ex (.ok d m) α H R) : R d α m H := h α H (Ext.refl W) W
theorem PQ.okS {d : τ} {R : RD τ} (W : Wd K cl α m H) (s : Same H H') (h : PQ K cl ex (.ok d m) α H R) : R d α m H' := h α H' (Ext.of_same W s) (W.same s)
def tD (K : PySem.W.Frag) (cl : Str -> Addr) (ex : XD) (f : En -> Sto -> Res D) : TE := fun σ H Q => ∃ α ρ m, Wd K cl α m H /\ RepE K α H ρ σ /\ PQ K cl ex (f ρ m) α H fun d α' _ H' => ∀ v, Rep K α' H' d v -> Q v H'
def tDT (K : PySem.W.Frag) (cl : Str -> Addr) (ex : XD) (f : En -> Sto -> Res Bool) : TT := fun σ H Q => ∃ α ρ m, Wd K cl α m H /\ RepE K α H ρ σ /\ PQ K cl ex (f ρ m) α H fun d _ _ H' => Q d H'
def tDA (K : PySem.W.Frag) (cl : Str -> Addr) (ex : XD) (f : En -> Sto -> Res (List D)) : TA := fun σ H Q => ∃ α ρ m, Wd K cl α m H /\ RepE K α H ρ σ /\ PQ K cl ex (f ρ m) α H fun d α' _ H' => ∀ v, RepL K α' H' d v -> Q v H'
theorem tD.use {f : En -> Sto -> Res D} {k : D -> Sto -> Res τ} {R : RD τ} {Q : VK} (W : Wd K cl α m H) (hr : RepE K α H ρ σ) (h : PQ K cl ex ((f ρ m).bind k) α H R)
  (hQ : ∀ α1 m1 H1 d v, Ext α H α1 H1 -> Wd K cl α1 m1 H1 -> RepE K α1 H1 ρ σ -> Rep K α1 H1 d v -> PQ K cl ex (k d m1) α1 H1 R -> Q v H1) : tD K cl ex f σ H Q :=
 ⟨α, ρ, m, W, hr, PQ.mono (Ext.refl W) h.bind fun d α1 m1 H1 E1 W1 q v rv => hQ α1 m1 H1 d v E1 W1 (hr.mono W E1) rv q⟩
theorem tDT.use {f : En -> Sto -> Res Bool} {k : Bool -> Sto -> Res τ} {R : RD τ} {Q : Bool -> Hp -> Prop} (W : Wd K cl α m H) (hr : RepE K α H ρ σ) (h : PQ K cl ex ((f ρ m).bind k) α H R)
  (hQ : ∀ α1 m1 H1 d, Ext α H α1 H1 -> Wd K cl α1 m1 H1 -> RepE K α1 H1 ρ σ -> PQ K cl ex (k d m1) α1 H1 R -> Q d H1) : tDT K cl ex f σ H Q :=
 ⟨α, ρ, m, W, hr, PQ.mono (Ext.refl W) h.bind fun d α1 m1 H1 E1 W1 q => hQ α1 m1 H1 d E1 W1 (hr.mono W E1) q⟩
theorem tDA.use {f : En -> Sto -> Res (List D)} {k : List D -> Sto -> Res τ} {R : RD τ} {Q : List V -> Hp -> Prop} (W : Wd K cl α m H) (hr : RepE K α H ρ σ) (h : PQ K cl ex ((f ρ m).bind k) α H R)
  (hQ : ∀ α1 m1 H1 d v, Ext α H α1 H1 -> Wd K cl α1 m1 H1 -> RepE K α1 H1 ρ σ -> RepL K α1 H1 d v -> PQ K cl ex (k d m1) α1 H1 R -> Q v H1) : tDA K cl ex f σ H Q :=
 ⟨α, ρ, m, W, hr, PQ.mono (Ext.refl W) h.bind fun d α1 m1 H1 E1 W1 q v rv => hQ α1 m1 H1 d v E1 W1 (hr.mono W E1) rv q⟩
end
section
variable (X : Cx) (cl : Str -> Addr) (ex : XD)
abbrev EV := En -> Sto -> Res D
abbrev TV := En -> Sto -> Res Bool
abbrev AV := En -> Sto -> Res (List D)
structure QE (e : Expr) (f : EV) : Prop where
 out : PE X e (tD X.K cl ex f)
structure QT (e : Expr) (f : TV) : Prop where
 out : PT X e (tDT X.K cl ex f)
structure QW (e : Expr) (f : TV) : Prop where
 out : PW X e (tDT X.K cl ex f)
structure QA (es : List Expr) (f : AV) : Prop where
 out : PA X es (tDA X.K cl ex f)
end
theorem PE.weak {X : Cx} {e : Expr} {t t' : TE} (h : PE X e t) (w : ∀ σ H Q, t' σ H Q -> t σ H Q) : PE X e t' := fun pins s σ H Q I q => h pins s σ H Q I (w σ H Q q)
theorem PT.weak {X : Cx} {e : Expr} {t t' : TT} (h : PT X e t) (w : ∀ σ H Q, t' σ H Q -> t σ H Q) : PT X e t' := fun pins s σ H Q I q => h pins s σ H Q I (w σ H Q q)
theorem PW.weak {X : Cx} {e : Expr} {t t' : TT} (h : PW X e t) (w : ∀ σ H Q, t' σ H Q -> t σ H Q) : PW X e t' := fun wh pins s σ H Q I q => h wh pins s σ H Q I (w σ H Q q)
theorem PA.weak {X : Cx} {e : List Expr} {t t' : TA} (h : PA X e t) (w : ∀ σ H Q, t' σ H Q -> t σ H Q) : PA X e t' := fun p pins s σ H Q I q => h p pins s σ H Q I (w σ H Q q)
theorem PS.weak {X : Cx} {e : Stmt} {t t' : TS} (h : PS X e t) (w : ∀ D σ H, t' D σ H -> t D σ H) : PS X e t' := fun pins s σ H D I q => h pins s σ H D I (w D σ H q)
theorem PSs.weak {X : Cx} {e : List Stmt} {t t' : TS} (h : PSs X e t) (w : ∀ D σ H, t' D σ H -> t D σ H) : PSs X e t' := fun pins s σ H D I q => h pins s σ H D I (w D σ H q)
def zae (i : Nat) : EV := fun ρ m => match ρ[i]? with
 | some (some d) => .ok d m
 | _ => .bad
def eC (d : D) : EV := fun _ m => .ok d m
def eOp (g : D -> D -> Sto -> Res D) (fa fb : EV) : EV := fun ρ m => (fa ρ m).bind fun x m1 => (fb ρ m1).bind fun y m2 => g x y m2
def eUn (g : D -> Sto -> Res D) (fa : EV) : EV := fun ρ m => (fa ρ m).bind g
def eIf (c : TV) (fa fb : EV) : EV := fun ρ m => (c ρ m).bind fun b m1 => if b = true then fa ρ m1 else fb ρ m1
def zak : AV := fun _ m => .ok [] m
def zac (fa : EV) (fr : AV) : AV := fun ρ m => (fa ρ m).bind fun x m1 => (fr ρ m1).bind fun xs m2 => .ok (x :: xs) m2
def eFn (g : List D -> Sto -> Res D) (fa : AV) : EV := fun ρ m => (fa ρ m).bind g
def asB (d : D) (m : Sto) : Res Bool := match d with
 | .bl b => .ok b m
 | _ => .bad
def tV (fa : EV) : TV := fun ρ m => (fa ρ m).bind asB
def zhY (a b : TV) : TV := fun ρ m => (a ρ m).bind fun c m1 => if c = true then b ρ m1 else .ok false m1
def zkL (a b : TV) : TV := fun ρ m => (a ρ m).bind fun c m1 => if c = true then .ok true m1 else b ρ m1
def zca (a : TV) : TV := fun ρ m => (a ρ m).bind fun c m1 => .ok (!c) m1
def zlI (a b : EV) : EV := fun ρ m => (a ρ m).bind fun c m1 => (asB c m1).bind fun c m1 => if c = true then b ρ m1 else .ok (.bl false) m1
def eOr (a b : EV) : EV := fun ρ m => (a ρ m).bind fun c m1 => (asB c m1).bind fun c m1 => if c = true then .ok (.bl true) m1 else b ρ m1
def eNot (a : EV) : EV := fun ρ m => (a ρ m).bind fun c m1 => (asB c m1).bind fun c m1 => .ok (.bl (!c)) m1
def OpD (K : PySem.W.Frag) (cl : Str -> Addr) (ex : XD) (r : R2) (g : D -> D -> Sto -> Res D) : Prop :=
 ∀ (α : List Addr) (m : Sto) (H : Hp) (x y : D) (vx vy : V) (Q : VK), Wd K cl α m H -> Rep K α H x vx -> Rep K α H y vy -> PQ K cl ex (g x y m) α H (fun d α' _ H' => ∀ v, Rep K α' H' d v -> Q v H') -> r vx vy H Q
def UnD (K : PySem.W.Frag) (cl : Str -> Addr) (ex : XD) (r : V -> Hp -> VK -> Prop) (g : D -> Sto -> Res D) : Prop :=
 ∀ (α : List Addr) (m : Sto) (H : Hp) (x : D) (vx : V) (Q : VK), Wd K cl α m H -> Rep K α H x vx -> PQ K cl ex (g x m) α H (fun d α' _ H' => ∀ v, Rep K α' H' d v -> Q v H') -> r vx H Q
def FnD (K : PySem.W.Frag) (cl : Str -> Addr) (ex : XD) (r : List V -> Hp -> VK -> Prop) (g : List D -> Sto -> Res D) : Prop :=
 ∀ (α : List Addr) (m : Sto) (H : Hp) (x : List D) (vx : List V) (Q : VK), Wd K cl α m H -> RepL K α H x vx -> PQ K cl ex (g x m) α H (fun d α' _ H' => ∀ v, Rep K α' H' d v -> Q v H') -> r vx H Q
section
variable {X : Cx} {cl : Str -> Addr} {ex : XD} {a b c e : Expr} {es rest : List Expr} {fa fb : EV} {ta tb : TV} {fr : AV} {pos : Pos}
theorem zab (i : Nat) {x : Str} (hN : autoParam (X.N[i]? = some x) AutoP.a3._auto_1) (hv : Vis X.env.scope x := by first | exact Or.inl rfl | exact Or.inr (Or.inl rfl) | exact Or.inr (Or.inr rfl)) (hd : autoParam ((x == ("__debug__" : Str)) = false) AutoP.a1._auto_1) (hcd : autoParam ((x == ("__classdict__" : Str)) = false) AutoP.a1._auto_1) : QE X cl ex (.Name x pos) (zae i) :=
 ⟨PE.weak (zfo hN hv hd hcd) fun σ H Q hh => ex3 hh fun α ρ m W hr h => by
  unfold zae at h
  split at h
  ·rename_i d e
   obtain ⟨v, e1, r⟩ := hr.at' i d e
   exact ⟨v, e1, PQ.ok W h v r⟩
  ·exact h.elim⟩
theorem qe_c {d : D} {v : V} (h : PE X e (tC v)) (r : ∀ α H, Rep X.K α H d v) : QE X cl ex e (eC d) :=
 ⟨PE.weak h fun σ H Q hh => ex3 hh fun α ρ m W hr h => PQ.ok W h v (r α H)⟩
theorem zaf {i : Int} {j} : QE X cl ex (.Constant (.int i) j pos) (eC (.int i)) := qe_c pe_int fun α H => by rw [Rep]
theorem zfj {i : Bool} {j} : QE X cl ex (.Constant (.bool i) j pos) (eC (.bl i)) := qe_c pe_bl fun α H => by rw [Rep]
theorem zaX {j} : QE X cl ex (.Constant .none j pos) (eC .non) := qe_c pe_non fun α H => by rw [Rep]
theorem zam {i : Str} {j} : QE X cl ex (.Constant (.str i) j pos) (eC (.str i)) := qe_c zl7 fun α H => by rw [Rep]
theorem zg9 {r : R2} {g : D -> D -> Sto -> Res D} (hd : OpD X.K cl ex r g) : ∀ σ H Q, tD X.K cl ex (eOp g fa fb) σ H Q -> tOp r (tD X.K cl ex fa) (tD X.K cl ex fb) σ H Q := fun σ H Q hh => ex3 hh fun α ρ m W hr h =>
 tD.use W hr h fun α1 m1 H1 d v E1 W1 hr1 rv h1 => tD.use W1 hr1 h1 fun α2 m2 H2 d2 v2 E2 W2 hr2 rv2 h2 => hd α2 m2 H2 d d2 v v2 Q W2 (rv.mono W1 E2) rv2 h2
theorem zao {op : Operator} {r : R2} {g : D -> D -> Sto -> Res D} (ho : OpR X (binaryOp op) r) (hd : OpD X.K cl ex r g) (ha : QE X cl ex a fa) (hb : QE X cl ex b fb) : QE X cl ex (.BinOp a op b pos) (eOp g fa fb) :=
 ⟨PE.weak (pe_op ho ha.out hb.out) (zg9 hd)⟩
theorem qe_un {op : UnaryOp} {r : V -> Hp -> VK -> Prop} {g : D -> Sto -> Res D} (ho : UnR X (unaryOp op) r) (hd : UnD X.K cl ex r g) (ha : QE X cl ex a fa) : QE X cl ex (.UnaryOp op a pos) (eUn g fa) :=
 ⟨PE.weak (pe_un ho ha.out) fun σ H Q hh => ex3 hh fun α ρ m W hr h => tD.use W hr h fun α1 m1 H1 d v E1 W1 hr1 rv h1 => hd α1 m1 H1 d v Q W1 rv h1⟩
theorem qe_ix {r : R2} {g : D -> D -> Sto -> Res D} (ho : IxR X r) (hd : OpD X.K cl ex r g) (ha : QE X cl ex a fa) (hb : QE X cl ex b fb) (hs : ze2 b) : QE X cl ex (.Subscript a b pos) (eOp g fa fb) :=
 ⟨PE.weak (pe_ix ho ha.out hb.out hs) (zg9 hd)⟩
theorem zdq {op : CmpOp} {r : R2} {g : D -> D -> Sto -> Res D} (ho : OpR X (compareOp op) r) (hd : OpD X.K cl ex r g) (ha : QE X cl ex a fa) (hb : QE X cl ex b fb) (hm : behindInMarks op b = false) : QE X cl ex (.Compare a [op] [b] pos) (eOp g fa fb) :=
 ⟨PE.weak (zne ho ha.out hb.out hm) (zg9 hd)⟩
theorem zet {t : TE} (h : ∀ σ H Q, tD X.K cl ex fa σ H Q -> t σ H Q) : ∀ σ H Q, tDT X.K cl ex (tV fa) σ H Q -> zmu t σ H Q := fun σ H Q hh => ex3 hh fun α ρ m W hr q =>
 h σ H _ (tD.use W hr q fun α1 m1 H1 d v E1 W1 hr1 rv h1 => by
  cases d with
  | bl b => rw [Rep] at rv; exact ⟨b, rv, PQ.ok W1 h1⟩
  | _ => exact h1.elim)
theorem zaD {op : CmpOp} {r : R2} {g : D -> D -> Sto -> Res D} (ho : OpR X (compareOp op) r) (hd : OpD X.K cl ex r g) (ha : QE X cl ex a fa) (hb : QE X cl ex b fb) (hm : behindInMarks op b = false) : QT X cl ex (.Compare a [op] [b] pos) (tV (eOp g fa fb)) :=
 ⟨PT.weak (zmY ho ha.out hb.out hm) (zet (zg9 hd))⟩
theorem zbH (hq : QE X cl ex e fa) (he : autoParam (∀ whole, isTrue e X.env whole = (do let v <- whole; standAt e.pos; holding [v] (truthy v))) AutoP.a2._auto_1) : QT X cl ex e (tV fa) :=
 ⟨PT.weak (pt_val hq.out he) (zet fun _ _ _ h => h)⟩
def zb9 (g g' : D -> D -> Sto -> Res D) (fa fb fc : EV) : EV := fun ρ m => (fa ρ m).bind fun x m1 => (fb ρ m1).bind fun y m2 => (g x y m2).bind fun z m3 => (asB z m3).bind fun k m3 => if k = true then (fc ρ m3).bind fun w m4 => g' y w m4 else .ok (.bl false) m3
theorem OpD.go {K : PySem.W.Frag} {r : R2} {g : D -> D -> Sto -> Res D} (hd : OpD K cl ex r g) {α : List Addr} {m : Sto} {H : Hp} {x y : D} {vx vy : V} {τ : Type} {k : D -> Sto -> Res τ} {R : RD τ} {Q : VK} (W : Wd K cl α m H) (rx : Rep K α H x vx) (ry : Rep K α H y vy)
  (h : PQ K cl ex ((g x y m).bind k) α H R) (hQ : ∀ α1 m1 H1 d v, Ext α H α1 H1 -> Wd K cl α1 m1 H1 -> Rep K α1 H1 d v -> PQ K cl ex (k d m1) α1 H1 R -> Q v H1) : r vx vy H Q :=
 hd α m H x y vx vy Q W rx ry (PQ.mono (Ext.refl W) h.bind fun d α1 m1 H1 E1 W1 q v rv => hQ α1 m1 H1 d v E1 W1 rv q)
theorem ze8 {r r' : R2} {g g' : D -> D -> Sto -> Res D} {fc : EV} (hd : OpD X.K cl ex r g) (hd' : OpD X.K cl ex r' g') : ∀ σ H Q, tD X.K cl ex (zb9 g g' fa fb fc) σ H Q -> ziN r r' (tD X.K cl ex fa) (tD X.K cl ex fb) (tD X.K cl ex fc) σ H Q := fun σ H Q hh => ex3 hh fun α ρ m W hr h =>
 tD.use W hr h fun α1 m1 H1 d v E1 W1 hr1 rv h1 => tD.use W1 hr1 h1 fun α2 m2 H2 d2 v2 E2 W2 hr2 rv2 h2 => hd.go W2 (rv.mono W1 E2) rv2 h2 fun α3 m3 H3 d3 v3 E3 W3 rv3 h3 => by
  cases d3 with
  | bl k =>
   rw [Rep] at rv3
   refine ⟨k, rv3, ?_⟩
   cases k with
   | true => exact tD.use W3 (hr2.mono W2 E3) h3 fun α4 m4 H4 d4 v4 E4 W4 hr4 rv4 h4 => hd' α4 m4 H4 d2 d4 v2 v4 Q W4 ((rv2.mono W2 E3).mono W3 E4) rv4 h4
   | false => exact PQ.ok W3 h3 _ (by rw [Rep])
  | _ => exact h3.elim
theorem zeG {op op' : CmpOp} {r r' : R2} {g g' : D -> D -> Sto -> Res D} {fc : EV} (ho : OpR X (compareOp op) r) (hd : OpD X.K cl ex r g) (ho' : OpR X (compareOp op') r') (hd' : OpD X.K cl ex r' g') (ha : QE X cl ex a fa) (hb : QE X cl ex b fb) (hc : QE X cl ex c fc)
  (hm : autoParam (lastMarks [op, op'] [b, c] = false) AutoP.a4._auto_1) : QE X cl ex (.Compare a [op, op'] [b, c] pos) (zb9 g g' fa fb fc) :=
 ⟨PE.weak (zlh ho ho' ha.out hb.out hc.out hm) (ze8 hd hd')⟩
theorem zk3 {op op' : CmpOp} {r r' : R2} {g g' : D -> D -> Sto -> Res D} {fc : EV} (ho : OpR X (compareOp op) r) (hd : OpD X.K cl ex r g) (ho' : OpR X (compareOp op') r') (hd' : OpD X.K cl ex r' g') (ha : QE X cl ex a fa) (hb : QE X cl ex b fb) (hc : QE X cl ex c fc)
  (hm : autoParam (lastMarks [op, op'] [b, c] = false) AutoP.a4._auto_1) : QT X cl ex (.Compare a [op, op'] [b, c] pos) (tV (zb9 g g' fa fb fc)) :=
 ⟨PT.weak (zk7 ho ho' ha.out hb.out hc.out hm) (zet (ze8 hd hd'))⟩
theorem zgk (ha : QT X cl ex a ta) : QW X cl ex (.BoolOp .And [a] pos) ta := ⟨zmV ha.out⟩
theorem zdo (ha : QT X cl ex a ta) : QW X cl ex (.BoolOp .Or [a] pos) ta := ⟨pw_or1 ha.out⟩
theorem zjg (ha : QT X cl ex a ta) (hb : QW X cl ex (.BoolOp .And (b :: rest) pos) tb) : QW X cl ex (.BoolOp .And (a :: b :: rest) pos) (zhY ta tb) :=
 ⟨PW.weak (pw_and ha.out hb.out) fun σ H Q hh => ex3 hh fun α ρ m W hr h => tDT.use W hr h fun α1 m1 H1 d E1 W1 hr1 h1 => by
  cases d with
  | true => exact ⟨α1, ρ, m1, W1, hr1, h1⟩
  | false => exact PQ.ok W1 h1⟩
theorem zfh (ha : QT X cl ex a ta) (hb : QW X cl ex (.BoolOp .Or (b :: rest) pos) tb) : QW X cl ex (.BoolOp .Or (a :: b :: rest) pos) (zkL ta tb) :=
 ⟨PW.weak (pw_or ha.out hb.out) fun σ H Q hh => ex3 hh fun α ρ m W hr h => tDT.use W hr h fun α1 m1 H1 d E1 W1 hr1 h1 => by
  cases d with
  | false => exact ⟨α1, ρ, m1, W1, hr1, h1⟩
  | true => exact PQ.ok W1 h1⟩
theorem zbs (hq : QW X cl ex a ta) : QT X cl ex a ta := ⟨PW.pt hq.out⟩
theorem zb8 (ha : QT X cl ex a ta) : QT X cl ex (.UnaryOp .Not a pos) (zca ta) :=
 ⟨PT.weak (pt_not ha.out) fun σ H Q hh => ex3 hh fun α ρ m W hr h => tDT.use W hr h fun α1 m1 H1 d E1 W1 hr1 h1 => PQ.ok W1 h1⟩
theorem zd8 {op} (ha : QE X cl ex a fa) : QE X cl ex (.BoolOp op [a] pos) fa := ⟨pe_one ha.out⟩
theorem asB.use {d : D} {v : V} {τ : Type} {k : Bool -> Sto -> Res τ} {R : RD τ} {α : List Addr} {m : Sto} {H : Hp} (W : Wd X.K cl α m H) (rv : Rep X.K α H d v) (h : PQ X.K cl ex ((asB d m).bind k) α H R) : ∃ b, v = .bl b /\ PQ X.K cl ex (k b m) α H R := by
 cases d with
 | bl b => rw [Rep] at rv; exact ⟨b, rv, h⟩
 | _ => exact h.elim
theorem zdr (ha : QE X cl ex a fa) (hb : QE X cl ex (.BoolOp .And (b :: rest) pos) fb) : QE X cl ex (.BoolOp .And (a :: b :: rest) pos) (zlI fa fb) :=
 ⟨PE.weak (pe_and ha.out hb.out) fun σ H Q hh => ex3 hh fun α ρ m W hr h => tD.use W hr h fun α1 m1 H1 d v E1 W1 hr1 rv h1 => by
  obtain ⟨c, e, h2⟩ := asB.use W1 rv h1
  refine ⟨c, e, ?_⟩
  cases c with
  | true => exact ⟨α1, ρ, m1, W1, hr1, h2⟩
  | false => exact PQ.ok W1 h2 _ (by rw [Rep])⟩
theorem zl4 (ha : QE X cl ex a fa) : QE X cl ex (.UnaryOp .Not a pos) (eNot fa) :=
 ⟨PE.weak (pe_not ha.out) fun σ H Q hh => ex3 hh fun α ρ m W hr h => tD.use W hr h fun α1 m1 H1 d v E1 W1 hr1 rv h1 => by
  obtain ⟨c, e, h2⟩ := asB.use W1 rv h1
  exact ⟨c, e, PQ.ok W1 h2 _ (by rw [Rep])⟩⟩
theorem zk5 (hc : QT X cl ex c ta) (ha : QE X cl ex a fa) (hb : QE X cl ex b fb) : QE X cl ex (.IfExp c a b pos) (eIf ta fa fb) :=
 ⟨PE.weak (zlf hc.out ha.out hb.out) fun σ H Q hh => ex3 hh fun α ρ m W hr h => tDT.use W hr h fun α1 m1 H1 d E1 W1 hr1 h1 => by
  cases d with
  | true => exact ⟨α1, ρ, m1, W1, hr1, h1⟩
  | false => exact ⟨α1, ρ, m1, W1, hr1, h1⟩⟩
theorem zad : QA X cl ex [] zak := ⟨PA.weak zbU fun σ H Q hh => ex3 hh fun α ρ m W hr h => PQ.ok W h _ (by rw [RepL])⟩
theorem zaa (ha : QE X cl ex e fa) (hrq : QA X cl ex es fr) (hs : autoParam (starEach (e :: es) X.env = (false, eval e X.env) :: starEach es X.env) AutoP.a3._auto_1) : QA X cl ex (e :: es) (zac fa fr) :=
 ⟨PA.weak (zaH ha.out hrq.out hs) fun σ H Q hh => ex3 hh fun α ρ m W hr h => tD.use W hr h fun α1 m1 H1 d v E1 W1 hr1 rv h1 => tDA.use W1 hr1 h1 fun α2 m2 H2 d2 v2 E2 W2 hr2 rv2 h2 => PQ.ok W2 h2 _ (by rw [RepL]; exact ⟨v, v2, rfl, rv.mono W1 E2, rv2⟩)⟩
theorem RepL.length {K : PySem.W.Frag} {α : List Addr} {H : Hp} : ∀ {ds : List D} {vs : List V}, RepL K α H ds vs -> ds.length = vs.length
 | [], _, h => by rw [RepL] at h; rw [h]; rfl
 | _ :: _, _, h => by
  rw [RepL] at h
  obtain ⟨v, r, rfl, _, h2⟩ := h
  rw [List.length_cons, List.length_cons, RepL.length h2]
def zc4 : List D -> Sto -> Res D := fun ds m => if ds.length <= sizeLine then .ok (.tup ds) m else .bad
def zbu : List D -> Sto -> Res D := fun ds m => if ds.length <= sizeLine then .ok (.lst ds) m else .bad
def zlF : List D -> Sto -> Res D := fun ds m => if ds.length <= sizeLine then .ok (.ob m.length) (m ++ [.lst ds]) else .bad
theorem PQ.if {K : PySem.W.Frag} {τ : Type} {c : Prop} [Decidable c] {r : Res τ} {α : List Addr} {H : Hp} {R : RD τ} (h : PQ K cl ex (if c then r else .bad) α H R) : c /\ PQ K cl ex r α H R := by
 by_cases hc : c
 ·rw [if_pos hc] at h; exact ⟨hc, h⟩
 ·rw [if_neg hc] at h; exact h.elim
theorem Same.new {H : Hp} {p : Addr} {o : HO} (hp : H p = none) : Same H (upd H p o) := fun b u e => by rw [zal (zan e hp)]; exact e
theorem zbn {x1} (hq : QA X cl ex es fr) : QE X cl ex (.Tuple es x1 pos) (eFn zc4 fr) :=
 ⟨PE.weak (zl6 hq.out) fun σ H Q hh => ex3 hh fun α ρ m W hr h => tDA.use W hr h fun α1 m1 H1 d v E1 W1 hr1 rv h1 => by
  obtain ⟨hl, h2⟩ := h1.if
  refine ⟨by rw [<- rv.length]; exact hl, fun p hp => ?_⟩
  have s := Same.new (o := .tup v) hp
  exact PQ.okS W1 s h2 _ (by rw [Rep]; exact ⟨p, v, rfl, .inl zap, rv.mono W1 (Ext.of_same W1 s)⟩)⟩
theorem Wd.nin {K : PySem.W.Frag} {α : List Addr} {m : Sto} {H : Hp} (W : Wd K cl α m H) {p : Addr} (hp : H p = none) : p ∉ α := fun z => W.has z hp
theorem zbr {K : PySem.W.Frag} {α : List Addr} {m : Sto} {H : Hp} {p : Addr} {ds : List D} {vs : List V} (W : Wd K cl α m H) (hp : H p = none) (r : RepL K α H ds vs) : Rep K α (upd H p (.lst vs)) (.lst ds) (.ref p) := by
 rw [Rep]
 exact ⟨p, vs, rfl, W.nin hp, .inl zap, r.mono W (Ext.of_same W (Same.new hp))⟩
theorem zaM (hq : QA X cl ex es fr) : QE X cl ex (.List es pos) (eFn zbu fr) :=
 ⟨PE.weak (zl8 hq.out) fun σ H Q hh => ex3 hh fun α ρ m W hr h => tDA.use W hr h fun α1 m1 H1 d v E1 W1 hr1 rv h1 => by
  obtain ⟨hl, h2⟩ := h1.if
  exact ⟨by rw [<- rv.length]; exact hl, fun p hp => PQ.okS W1 (Same.new hp) h2 _ (zbr W1 hp rv)⟩⟩
theorem zns {K : PySem.W.Frag} {α : List Addr} {m : Sto} {H : Hp} {p : Addr} {ds : List D} {vs : List V} {R : RD D} (W : Wd K cl α m H) (hp : H p = none) (r : RepL K α H ds vs) (h : PQ K cl ex (.ok (.ob m.length) (m ++ [.lst ds])) α H R) : ∃ α' m', R (.ob m.length) α' m' (upd H p (.lst vs)) /\ Rep K α' (upd H p (.lst vs)) (.ob m.length) (.ref p) := by
 have E0 : Ext α H (α ++ [p]) (upd H p (.lst vs)) := ⟨⟨[p], rfl, fun b hb => by rw [List.mem_singleton.mp hb]; exact hp⟩, fun a o h _ => Same.new hp a o h, (Ext.of_same W (Same.new hp)).there, fun a o u h => Same.new hp a _ h⟩
 obtain ⟨W2, E2⟩ := W.new (u := .lst vs) (o := .lst ds) hp ⟨vs, zap, r.mono W E0⟩
 refine ⟨_, _, h _ _ E2 W2, ?_⟩
 rw [Rep]
 refine ⟨p, ?_, rfl⟩
 rw [<- W.len, List.getElem?_append_right (Nat.le_refl _)]
 simp
theorem zjk (hq : QA X cl ex es fr) : QE X cl ex (.List es pos) (eFn zlF fr) :=
 ⟨PE.weak (zl8 hq.out) fun σ H Q hh => ex3 hh fun α ρ m W hr h => tDA.use W hr h fun α1 m1 H1 d v E1 W1 hr1 rv h1 => by
  obtain ⟨hl, h2⟩ := h1.if
  refine ⟨by rw [<- rv.length]; exact hl, fun p hp => ?_⟩
  obtain ⟨_, _, q, r⟩ := zns W1 hp rv h2
  exact q _ r⟩
theorem zlV {r : List V -> Hp -> VK -> Prop} {g : List D -> Sto -> Res D} (hd : FnD X.K cl ex r g) : ∀ σ H Q, tD X.K cl ex (eFn g fr) σ H Q -> tCB r (tDA X.K cl ex fr) σ H Q := fun σ H Q hh => ex3 hh fun α ρ m W hr h =>
 tDA.use W hr h fun α1 m1 H1 d v E1 W1 hr1 rv h1 => hd α1 m1 H1 d v Q W1 rv h1
theorem zat {x : Str} {id : String} {p : Pos} {r : List V -> Hp -> VK -> Prop} {g : List D -> Sto -> Res D} (hc : CallR X (.builtin id) r) (hd : FnD X.K cl ex r g) (hg : Gl X x) (hm : X.mg x = none) (hv : bootBuiltins x = some (.builtin id)) (ha : QA X cl ex (e :: es) fr) (hn : autoParam (x ≠ "__name__") AutoP.a1._auto_1) (hdb : autoParam ((x == ("__debug__" : Str)) = false) AutoP.a1._auto_1)
  (he : autoParam (starEach (e :: es) X.env = (false, eval e X.env) :: starEach es X.env) AutoP.a3._auto_1) (hpl : autoParam ((backTo pos (starEach es X.env)).any (·.1) = false) AutoP.a3._auto_1) : QE X cl ex (.Call (.Name x p) (e :: es) [] pos) (eFn g fr) :=
 ⟨PE.weak (zcu hc hg hm hv ha.out hn hdb he hpl) (zlV hd)⟩
theorem zaE {x : Str} {T : String} {p : Pos} {r : List V -> Hp -> VK -> Prop} {g : List D -> Sto -> Res D} (hc : CallR X (.type T) r) (hd : FnD X.K cl ex r g) (hg : Gl X x) (hm : X.mg x = none) (hv : bootBuiltins x = some (.type T)) (ha : QA X cl ex (e :: es) fr) (hn : autoParam (x ≠ "__name__") AutoP.a1._auto_1) (hdb : autoParam ((x == ("__debug__" : Str)) = false) AutoP.a1._auto_1)
  (he : autoParam (starEach (e :: es) X.env = (false, eval e X.env) :: starEach es X.env) AutoP.a3._auto_1) (hpl : autoParam ((backTo pos (starEach es X.env)).any (·.1) = false) AutoP.a3._auto_1) : QE X cl ex (.Call (.Name x p) (e :: es) [] pos) (eFn g fr) :=
 ⟨PE.weak (zjv hc hg hm hv ha.out hn hdb he hpl) (zlV hd)⟩
end
inductive Fl where
 | nx (ρ : En) | rt (d : D) | bk (ρ : En) | ct (ρ : En)
abbrev SV := En -> Sto -> Res Fl
def zbB (K : PySem.W.Frag) (D : Ends) (fl : Fl) (α : List Addr) (H : Hp) : Prop := match fl with
 | .nx ρ => ∀ σ, RepE K α H ρ σ -> D.nx σ H
 | .rt d => ∀ v, Rep K α H d v -> D.rt v H
 | .bk ρ => ∀ σ, RepE K α H ρ σ -> D.bk σ H
 | .ct ρ => ∀ σ, RepE K α H ρ σ -> D.ct σ H
def tDS (K : PySem.W.Frag) (cl : Str -> Addr) (ex : XD) (f : SV) : TS := fun D σ H => ∃ α ρ m, Wd K cl α m H /\ RepE K α H ρ σ /\ PQ K cl ex (f ρ m) α H fun fl α' _ H' => zbB K D fl α' H'
abbrev GV := D -> En -> Sto -> Res En
def tDG (K : PySem.W.Frag) (cl : Str -> Addr) (ex : XD) (f : GV) : TG := fun v σ H Q => ∃ α ρ m d, Wd K cl α m H /\ RepE K α H ρ σ /\ Rep K α H d v /\ PQ K cl ex (f d ρ m) α H fun ρ' α' _ H' => ∀ σ', RepE K α' H' ρ' σ' -> Q σ' H'
def tDGs (K : PySem.W.Frag) (cl : Str -> Addr) (ex : XD) (f : List D -> En -> Sto -> Res En) : TGs := fun v σ H Q => ∃ α ρ m d, Wd K cl α m H /\ RepE K α H ρ σ /\ RepL K α H d v /\ PQ K cl ex (f d ρ m) α H fun ρ' α' _ H' => ∀ σ', RepE K α' H' ρ' σ' -> Q σ' H'
def ItD (K : PySem.W.Frag) (cl : Str -> Addr) (α : List Addr) (H : Hp) (J : It) (ds : List D) : Prop :=
 ∀ (i : Nat) (α1 : List Addr) (m1 : Sto) (H1 : Hp), Ext α H α1 H1 -> Wd K cl α1 m1 H1 -> (∀ d, ds[i]? = some d -> J.go i H1 /\ ∀ x H2, J.yld i H1 x H2 -> Same H1 H2 /\ Rep K α1 H2 d x) /\ (i = ds.length -> J.stop i H1)
def tDI (K : PySem.W.Frag) (cl : Str -> Addr) (ex : XD) (f : AV) : TI := fun σ H R => ∃ α ρ m, Wd K cl α m H /\ RepE K α H ρ σ /\ PQ K cl ex (f ρ m) α H fun ds α' _ H' => ∀ J, ItD K cl α' H' J ds -> R J H'
section
variable (X : Cx) (cl : Str -> Addr) (ex : XD)
structure QS (st : Stmt) (f : SV) : Prop where
 out : PS X st (tDS X.K cl ex f)
structure QSs (st : List Stmt) (f : SV) : Prop where
 out : PSs X st (tDS X.K cl ex f)
structure QG (tg : Expr) (f : GV) : Prop where
 out : PG X tg (tDG X.K cl ex f)
structure QGs (tg : List Expr) (f : List D -> En -> Sto -> Res En) : Prop where
 out : PGs X tg (tDGs X.K cl ex f)
structure QI (tg it : Expr) (f : AV) : Prop where
 out : PI X tg it (tDI X.K cl ex f)
end
theorem PG.weak {X : Cx} {e : Expr} {t t' : TG} (h : PG X e t) (w : ∀ v σ H Q, t' v σ H Q -> t v σ H Q) : PG X e t' := fun pins s σ H v u Q I r q => h pins s σ H v u Q I r (w v σ H Q q)
theorem PGs.weak {X : Cx} {e : List Expr} {t t' : TGs} (h : PGs X e t) (w : ∀ v σ H Q, t' v σ H Q -> t v σ H Q) : PGs X e t' := fun pins s σ H v u Q I r q => h pins s σ H v u Q I r (w v σ H Q q)
theorem PI.weak {X : Cx} {tg e : Expr} {t t' : TI} (h : PI X tg e t) (w : ∀ σ H Q, t' σ H Q -> t σ H Q) : PI X tg e t' := fun pins s σ H Q I q => h pins s σ H Q I (w σ H Q q)
def zaG (f g : SV) : SV := fun ρ m => (f ρ m).bind fun fl m1 => match fl with
 | .nx ρ1 => g ρ1 m1
 | fl => .ok fl m1
def zb4 : SV := fun ρ m => .ok (.nx ρ) m
def zaV (f : EV) : SV := fun ρ m => (f ρ m).bind fun d m1 => .ok (.rt d) m1
def sRetN : SV := fun _ m => .ok (.rt .non) m
def zgi (f : EV) : SV := fun ρ m => (f ρ m).bind fun _ m1 => .ok (.nx ρ) m1
def sIf (c : TV) (f g : SV) : SV := fun ρ m => (c ρ m).bind fun b m1 => if b = true then f ρ m1 else g ρ m1
def za1 (f : EV) (g : GV) : SV := fun ρ m => (f ρ m).bind fun d m1 => (g d ρ m1).bind fun ρ1 m2 => .ok (.nx ρ1) m2
def gN (i : Nat) : GV := fun d ρ m => .ok (ρ.set i (some d)) m
def zeV : List D -> En -> Sto -> Res En := fun ds ρ m => match ds with
 | [] => .ok ρ m
 | _ :: _ => .bad
def za9 (g : GV) (gs : List D -> En -> Sto -> Res En) : List D -> En -> Sto -> Res En := fun ds ρ m => match ds with
 | [] => .bad
 | d :: r => (g d ρ m).bind fun ρ1 m1 => gs r ρ1 m1
def gT (n : Nat) (gs : List D -> En -> Sto -> Res En) : GV := fun d ρ m => match d with
 | .tup ds => if ds.length = n then gs ds ρ m else .bad
 | _ => .bad
def sPar (i j : Nat) (fa : AV) : SV := fun ρ m => (fa ρ m).bind fun ds m1 => match ds with
 | [x, y] => .ok (.nx ((ρ.set i (some x)).set j (some y))) m1
 | _ => .bad
def sPar3 (i j k : Nat) (fa : AV) : SV := fun ρ m => (fa ρ m).bind fun ds m1 => match ds with
 | [x, y, z] => .ok (.nx (((ρ.set i (some x)).set j (some y)).set k (some z))) m1
 | _ => .bad
def zdz (g : GV) (body : SV) : List D -> En -> Sto -> Res Fl
 | [], ρ, m => .ok (.nx ρ) m
 | d :: r, ρ, m => (g d ρ m).bind fun ρ1 m1 => (body ρ1 m1).bind fun fl m2 => match fl with
  | .nx ρ2 => zdz g body r ρ2 m2
  | .ct ρ2 => zdz g body r ρ2 m2
  | .bk ρ2 => .ok (.nx ρ2) m2
  | .rt d => .ok (.rt d) m2
def sFor (it : AV) (g : GV) (body : SV) : SV := fun ρ m => (it ρ m).bind fun ds m1 => zdz g body ds ρ m1
def zdV (c : TV) (body : SV) : Nat -> En -> Sto -> Res Fl
 | 0, _, _ => .bad
 | n + 1, ρ, m => (c ρ m).bind fun b m1 => if b = true then (body ρ m1).bind fun fl m2 => match fl with
  | .nx ρ2 => zdV c body n ρ2 m2
  | .ct ρ2 => zdV c body n ρ2 m2
  | .bk ρ2 => .ok (.nx ρ2) m2
  | .rt d => .ok (.rt d) m2 else .ok (.nx ρ) m1
def zfd (n : Nat) (c : TV) (body : SV) : SV := fun ρ m => zdV c body n ρ m
def zcR (g : GV) (c : TV) (el : EV) (ρ : En) : List D -> Sto -> Res (List D)
 | [], m => .ok [] m
 | d :: r, m => (g d ρ m).bind fun ρ1 m1 => (c ρ1 m1).bind fun b m2 => if b = true then (el ρ1 m2).bind fun x m3 => (zcR g c el ρ r m3).bind fun xs m4 => .ok (x :: xs) m4 else zcR g c el ρ r m2
def zaQ (n : Nat) (it : AV) (g : GV) (c : TV) (el : EV) : AV := fun ρ m => (it ρ m).bind fun ds m1 => if ds.length <= 1000000 then zcR g c el (ρ ++ List.replicate n none) ds m1 else .bad
def za2 : TV := fun _ m => .ok true m
section
variable {X : Cx} {cl : Str -> Addr} {ex : XD} {a b c e tg it : Expr} {es : List Expr} {fa fb : EV} {ta tb : TV} {fr : AV} {pos : Pos} {st : Stmt} {sts sts' : List Stmt} {f g : SV} {gt : GV}
theorem zaz : QSs X cl ex [] zb4 := ⟨PSs.weak zmZ fun D σ H hh => ex3 hh fun α ρ m W hr h => PQ.ok W h σ hr⟩
theorem zaj (hq : QS X cl ex st f) : QSs X cl ex [st] f := ⟨zjm hq.out⟩
theorem zag (h1 : QS X cl ex st f) (h2 : QSs X cl ex sts g) : QSs X cl ex (st :: sts) (zaG f g) :=
 ⟨PSs.weak (zhi h1.out h2.out) fun D σ H hh => ex3 hh fun α ρ m W hr h => ⟨α, ρ, m, W, hr, PQ.mono (Ext.refl W) h.bind fun fl α1 m1 H1 E1 W1 q => by
  cases fl with
  | nx ρ1 => exact fun σ1 hr1 => ⟨α1, ρ1, m1, W1, hr1, q⟩
  | rt d => exact PQ.ok W1 q
  | bk ρ1 => exact PQ.ok W1 q
  | ct ρ1 => exact PQ.ok W1 q⟩⟩
theorem zar (he : QE X cl ex e fa) : QS X cl ex (.Return (some e) pos) (zaV fa) :=
 ⟨PS.weak (ps_ret he.out) fun D σ H hh => ex3 hh fun α ρ m W hr h => tD.use W hr h fun α1 m1 H1 d v E1 W1 hr1 rv h1 => PQ.ok W1 h1 v rv⟩
theorem zgm (he : QE X cl ex e fa) (hs : autoParam (swapsWith e none pos.line X.env = pure false) AutoP.a3._auto_1) : QS X cl ex (.Expr e pos) (zgi fa) :=
 ⟨PS.weak (zm1 he.out hs) fun D σ H hh => ex3 hh fun α ρ m W hr h => tD.use W hr h fun α1 m1 H1 d v E1 W1 hr1 rv h1 => PQ.ok W1 h1 _ hr1⟩
theorem zba (hc : QT X cl ex c ta) (ha : QSs X cl ex sts f) (hb : QSs X cl ex sts' g) : QS X cl ex (.If c sts sts' pos) (sIf ta f g) :=
 ⟨PS.weak (ps_if hc.out ha.out hb.out) fun D σ H hh => ex3 hh fun α ρ m W hr h => tDT.use W hr h fun α1 m1 H1 d E1 W1 hr1 h1 => by
  cases d with
  | true => exact ⟨α1, ρ, m1, W1, hr1, h1⟩
  | false => exact ⟨α1, ρ, m1, W1, hr1, h1⟩⟩
theorem zas {i : Nat} {x : Str} (hN : X.N.Nodup) (hi : X.N[i]? = some x) (hx : Loc X.env.scope x) (hf : autoParam (X.fn x = true ∨ X.env.scope.names.lookup x = some .local) AutoP.a0._auto_1) : QG X cl ex (.Name x pos) (gN i) :=
 ⟨PG.weak (zju hN hi hx hf) fun v σ H Q ⟨α, ρ, m, d, W, hr, rv, h⟩ => PQ.ok W h _ (hr.set rv)⟩
theorem zcg : QGs X cl ex [] zeV := ⟨PGs.weak znb fun v σ H Q ⟨α, ρ, m, d, W, hr, rv, h⟩ => by
 cases d with
 | nil => rw [RepL] at rv; exact ⟨rv, PQ.ok W h _ hr⟩
 | cons d r => exact h.elim⟩
theorem zaL {gs : List D -> En -> Sto -> Res En} (h1 : QG X cl ex e gt) (h2 : QGs X cl ex es gs) (hs : autoParam ((assignEach (e :: es) X.env).map (·.2) = assign e X.env :: (assignEach es X.env).map (·.2)) AutoP.a3._auto_1) : QGs X cl ex (e :: es) (za9 gt gs) :=
 ⟨PGs.weak (zld h1.out h2.out hs) fun v σ H Q ⟨α, ρ, m, d, W, hr, rv, h⟩ => by
  cases d with
  | nil => exact h.elim
  | cons d r =>
   rw [RepL] at rv
   obtain ⟨v0, vr, rfl, r0, rr⟩ := rv
   refine ⟨v0, vr, rfl, α, ρ, m, d, W, hr, r0, PQ.mono (Ext.refl W) (show PQ X.K cl ex ((gt d ρ m).bind fun ρ1 m1 => gs r ρ1 m1) α H _ from h).bind fun ρ1 α1 m1 H1 E1 W1 q σ1 hr1 => ?_⟩
   exact ⟨α1, ρ1, m1, r, W1, hr1, rr.mono W E1, q⟩⟩
theorem zdp {k n : Nat} {gs : List D -> En -> Sto -> Res En} (hc : X.calm = true) (hq : QGs X cl ex es gs) (hn : autoParam ((assignEach es X.env).length = n) AutoP.a3._auto_1) (hst : autoParam ((assignEach es X.env).findIdx? (·.1) = none) AutoP.a3._auto_1) : QG X cl ex (.Tuple es k pos) (gT n gs) :=
 ⟨PG.weak (pg_tup hc hq.out hn hst) fun v σ H Q ⟨α, ρ, m, d, W, hr, rv, h⟩ => by
  cases d with
  | tup ds =>
   rw [Rep] at rv
   obtain ⟨a, xs, e, h1, h2⟩ := rv
   obtain ⟨hl, h3⟩ := PQ.if h
   exact ⟨a, xs, e, h1.sq, by rw [<- h2.length]; exact hl, α, ρ, m, ds, W, hr, h2, h3⟩
  | _ => exact h.elim⟩
theorem ziO {t : TE} {u : TG} (h1 : ∀ σ H Q, tD X.K cl ex fa σ H Q -> t σ H Q) (h2 : ∀ v σ H Q, tDG X.K cl ex gt v σ H Q -> u v σ H Q) : ∀ D σ H, tDS X.K cl ex (za1 fa gt) D σ H -> tAsg t u D σ H := fun D σ H hh => ex3 hh fun α ρ m W hr h =>
 h1 σ H _ (tD.use W hr h fun α1 m1 H1 d v E1 W1 hr1 rv q => h2 v σ H1 _ ⟨α1, ρ, m1, d, W1, hr1, rv, PQ.mono (Ext.refl W1) q.bind fun ρ2 α2 m2 H2 E2 W2 q2 => PQ.ok W2 q2⟩)
theorem zaI {i : Nat} {x : Str} {pos' : Pos} (hN : X.N.Nodup) (hi : X.N[i]? = some x) (hx : Loc X.env.scope x) (he : QE X cl ex e fa) (hs : autoParam (swapsWith e (some (.Name x pos')) pos.line X.env = pure false) AutoP.a3._auto_1) (hf : autoParam (X.fn x = true ∨ X.env.scope.names.lookup x = some .local) AutoP.a0._auto_1) :
  QS X cl ex (.Assign [.Name x pos'] e pos) (za1 fa (gN i)) :=
 ⟨PS.weak (ps_set hN hi hx he.out hs hf) (ziO (fun _ _ _ h => h) fun v σ H Q ⟨α, ρ, m, d, W, hr, rv, h⟩ => PQ.ok W h _ (hr.set rv))⟩
theorem zfi (he : QE X cl ex e fa) (hg : QG X cl ex tg gt) (hs : autoParam (swapsWithSole [tg] e pos.line X.env = pure false) AutoP.a3._auto_1) (hw : autoParam (swappedStores [tg] e X.env = pure none) AutoP.a3._auto_1)
  (h1 : autoParam ((assignEach [tg] X.env).map (·.2) = [assign tg X.env]) AutoP.a3._auto_1) : QS X cl ex (.Assign [tg] e pos) (za1 fa gt) :=
 ⟨PS.weak (ps_asg he.out hg.out hs hw h1) (ziO (fun _ _ _ h => h) fun _ _ _ _ h => h)⟩
theorem zl3 {i j : Nat} {x y : Str} {px py pt : Pos} {kt k2 pt2} (hc : X.calm = true) (hN : X.N.Nodup) (hi : X.N[i]? = some x) (hj : X.N[j]? = some y) (hij : i ≠ j)
  (hx : X.env.scope.names.lookup x = some .local) (hy : X.env.scope.names.lookup y = some .local) (ha : QA X cl ex [a, b] fr)
  (hw : swappedStores [.Tuple [.Name x px, .Name y py] kt pt] (.Tuple [a, b] k2 pt2) X.env = pure (some [x, y]))
  (hs : autoParam (swapsWithSole [.Tuple [.Name x px, .Name y py] kt pt] (.Tuple [a, b] k2 pt2) pos.line X.env = pure false) AutoP.a3._auto_1) :
  QS X cl ex (.Assign [.Tuple [.Name x px, .Name y py] kt pt] (.Tuple [a, b] k2 pt2) pos) (sPar i j fr) :=
 ⟨PS.weak (ps_par hc hN hi hj hij hx hy ha.out hw hs) fun D σ H hh => ex3 hh fun α ρ m W hr h => tDA.use W hr h fun α1 m1 H1 d v E1 W1 hr1 rv h1 => by
  match d, rv, h1 with
  | [p, q], rv, h1 =>
   rw [RepL] at rv
   obtain ⟨v1, r1, rfl, a1, rv⟩ := rv
   rw [RepL] at rv
   obtain ⟨v2, r2, rfl, a2, rv⟩ := rv
   rw [RepL] at rv
   subst rv
   exact ⟨v1, v2, rfl, PQ.ok W1 h1 _ ((hr1.set a1).set a2)⟩
  | [], _, h1 => exact h1.elim
  | [_], _, h1 => exact h1.elim
  | _ :: _ :: _ :: _, _, h1 => exact h1.elim⟩
theorem zji (hp : PassesOwn (model X.prog X.w) X.A X.env X.xe) (hc : X.calm = true) (hi : QI X cl ex tg it fr) (hg : QG X cl ex tg gt) (hb : QSs X cl ex sts f)
  (hs : autoParam (∀ x, foldedSetIterable it X.env x = pure x) AutoP.a2._auto_1) : QS X cl ex (.For tg it sts [] pos) (sFor fr gt f) :=
 ⟨PS.weak (ps_for hp hc hi.out hg.out hb.out hs) fun D σ H hh => ex3 hh fun α ρ m W hr h => ⟨α, ρ, m, W, hr, PQ.mono (Ext.refl W) h.bind fun ds α1 m1 H1 E1 W1 q J hJ => by
  refine ⟨fun i n σ2 H2 => n = ds.length - i /\ i <= ds.length /\ ∃ α2 m2 ρ2, Ext α1 H1 α2 H2 /\ Wd X.K cl α2 m2 H2 /\ RepE X.K α2 H2 ρ2 σ2 /\ PQ X.K cl ex (zdz gt f (ds.drop i) ρ2 m2) α2 H2 fun fl α' _ H' => zbB X.K D fl α' H',
   ⟨ds.length, by simp, Nat.zero_le _, α1, m1, ρ, Ext.refl W1, W1, hr.mono W E1, q⟩, ?_⟩
  rintro i n σ2 H2 ⟨rfl, hi, α2, m2, ρ2, E2, W2, hr2, q2⟩
  obtain ⟨go, stop⟩ := hJ i α2 m2 H2 E2 W2
  by_cases hlt : i < ds.length
  ·have hd : ds[i]? = some ds[i] := by simp [hlt]
   obtain ⟨g1, g2⟩ := go _ hd
   rw [List.drop_eq_getElem_cons hlt, zdz] at q2
   refine .inr ⟨g1, fun σ3 H3 => ∃ α3 m3 ρ3, Ext α1 H1 α3 H3 /\ Wd X.K cl α3 m3 H3 /\ RepE X.K α3 H3 ρ3 σ3 /\ PQ X.K cl ex (zdz gt f (ds.drop (i + 1)) ρ3 m3) α3 H3 fun fl α' _ H' => zbB X.K D fl α' H',
    fun σ3 H3 ⟨α3, m3, ρ3, E3, W3, hr3, q3⟩ => ⟨ds.length - (i + 1), by omega, rfl, hlt, α3, m3, ρ3, E3, W3, hr3, q3⟩, fun x H3 y => ?_⟩
   obtain ⟨sm, rx⟩ := g2 x H3 y
   have Es := Ext.of_same W2 sm
   have W3 := W2.same sm
   refine ⟨α2, ρ2, m2, ds[i], W3, hr2.mono W2 Es, rx, PQ.mono Es q2.bind fun ρ4 α4 m4 H4 E4 W4 q4 σ4 hr4 => ?_⟩
   have E04 := E2.trans (Es.trans E4)
   refine ⟨α4, ρ4, m4, W4, hr4, PQ.mono (Ext.refl W4) q4.bind fun fl α5 m5 H5 E5 W5 q5 => ?_⟩
   cases fl with
   | nx ρ5 => exact fun σ5 hr5 => ⟨α5, m5, ρ5, E04.trans E5, W5, hr5, q5⟩
   | ct ρ5 => exact fun σ5 hr5 => ⟨α5, m5, ρ5, E04.trans E5, W5, hr5, q5⟩
   | bk ρ5 => exact PQ.ok W5 q5
   | rt d => exact PQ.ok W5 q5
  ·have e : i = ds.length := by omega
   subst e
   rw [List.drop_of_length_le (Nat.le_refl _), zdz] at q2
   exact .inl ⟨stop rfl, PQ.ok W2 q2 σ2 hr2⟩⟩⟩
theorem zk4 {n : Nat} (hp : PassesOwn (model X.prog X.w) X.A X.env X.xe) (hc : QT X cl ex c ta) (hb : QSs X cl ex sts f) : QS X cl ex (.While c sts [] pos) (zfd n ta f) :=
 ⟨PS.weak (zk8 hp hc.out hb.out) fun D σ H hh => ex3 hh fun α ρ m W hr h => by
  refine ⟨fun k σ2 H2 => ∃ α2 m2 ρ2, Wd X.K cl α2 m2 H2 /\ RepE X.K α2 H2 ρ2 σ2 /\ PQ X.K cl ex (zdV ta f k ρ2 m2) α2 H2 fun fl α' _ H' => zbB X.K D fl α' H', ⟨n, α, m, ρ, W, hr, h⟩, ?_⟩
  rintro k σ2 H2 ⟨α2, m2, ρ2, W2, hr2, q2⟩
  cases k with
  | zero => exact q2.elim
  | succ k =>
   rw [zdV] at q2
   refine tDT.use W2 hr2 q2 fun α3 m3 H3 b E3 W3 hr3 q3 => ?_
   cases b with
   | false => exact PQ.ok W3 q3 σ2 hr3
   | true =>
    refine ⟨fun σ4 H4 => ∃ α4 m4 ρ4, Wd X.K cl α4 m4 H4 /\ RepE X.K α4 H4 ρ4 σ4 /\ PQ X.K cl ex (zdV ta f k ρ4 m4) α4 H4 fun fl α' _ H' => zbB X.K D fl α' H', fun σ4 H4 q4 => ⟨k, Nat.lt_succ_self _, q4⟩, ?_⟩
    refine ⟨α3, ρ2, m3, W3, hr3, PQ.mono (Ext.refl W3) q3.bind fun fl α5 m5 H5 E5 W5 q5 => ?_⟩
    cases fl with
    | nx ρ5 => exact fun σ5 hr5 => ⟨α5, m5, ρ5, W5, hr5, q5⟩
    | ct ρ5 => exact fun σ5 hr5 => ⟨α5, m5, ρ5, W5, hr5, q5⟩
    | bk ρ5 => exact PQ.ok W5 q5
    | rt d => exact PQ.ok W5 q5⟩
end
end MD
namespace L2
open PySem PySem.Spec PyProof.Rows
abbrev CQ := PySem.W.Frag -> Hp -> Addr -> List V -> Prop
structure SeqKd (c : CQ) (IsS : Heap -> Addr -> Array Value -> Prop) (IsI : Heap -> Addr -> Addr -> Nat -> Prop) : Prop where
 obj : ∀ h it l i, IsI h it l i -> ∃ o, h.get? it = some o /\ ∀ v, o.data ≠ .cell v
 kp : ∀ (h h' : Heap) it l i, IsI h it l i -> (∀ o, h.get? it = some o -> h'.get? it = some o) -> IsI h' it l i
 seq : ∀ (X : Cx) (pins : List (Addr × Obj)) (σ : St) (H : Hp) (s : Shared) (l : Addr) (xs : List V), Inv X pins σ H s -> c X.K H l xs -> ∃ its : List Value, Vals xs its /\ IsS s.heap l its.toArray
 dr : ∀ (P : Program) (w : World) (A : Around), A.handled = none -> ∀ (it l : Addr), l ≠ it -> ∀ items : Array Value, Draws P w A it [it, l] items.size (fun i v => items[i]? = some v) (fun i h => IsI h it l i /\ IsS h l items)
 ne : ∀ (X : Cx) (pins : List (Addr × Obj)) (σ : St) (H : Hp) (s : Shared) (l : Addr) (xs : List V) (b : Addr), Inv X pins σ H s -> c X.K H l xs -> zd1 X pins H b -> l ≠ b
 inj : ∀ (X : Cx) (pins : List (Addr × Obj)) (σ : St) (H : Hp) (s : Shared) (l : Addr) (xs ys : List V), Inv X pins σ H s -> c X.K H l xs -> c X.K H l ys -> xs = ys
theorem zkH {X : Cx} {pins : List (Addr × Obj)} {σ : St} {H : Hp} {s : Shared} {l b : Addr} {o : Obj} (I : Inv X pins σ H s) (e : X.K.lookup l = some o) (f : zd1 X pins H b) : l ≠ b := fun z => by
 subst z
 have hb : X.base.get? l = some o := I.mod.kin l o e
 rcases f.2.2.2.1 with h | h
 ·exact I.ok.noex l o hb h
 ·have h1 := Heap.lt_size hb
  have h2 := I.ok.bsz
  exact absurd (Nat.lt_of_lt_of_le h1 (Nat.le_trans h2 h)) (Nat.lt_irrefl _)
theorem rd_ne {H : Hp} {l b : Addr} {u : HO} (h : Rd H l u) (n : H b = none) : l ≠ b := by
 rcases h with h | ⟨o, h⟩
 ·exact zan h n
 ·exact zan h n
theorem sq_lst : SeqKd SqL Heap.IsList Heap.IsListIter where
 obj := seq_lst.obj
 kp := seq_lst.kp
 seq := fun X pins σ H s l xs I e => by
  obtain ⟨its, r, p, _⟩ := I.list e
  exact ⟨its, r, p.isList⟩
 dr := seq_lst.dr
 ne := fun X pins σ H s l xs b I e f => by
  rcases e with e | ⟨o, _, _, e, _⟩
  ·exact rd_ne e f.1
  ·exact zkH I e f
 inj := fun X pins σ H s l xs ys I => I.list_inj
theorem sq_tup : SeqKd SqT Heap.IsTuple Heap.IsTupleIter where
 obj := seq_tup.obj
 kp := seq_tup.kp
 seq := fun X pins σ H s l xs I e => by
  obtain ⟨its, r, p, _⟩ := I.tuple e
  exact ⟨its, r, p⟩
 dr := seq_tup.dr
 ne := fun X pins σ H s l xs b I e f => by
  rcases e with e | ⟨o, _, _, e, _⟩
  ·exact rd_ne e f.1
  ·exact zkH I e f
 inj := fun X pins σ H s l xs ys I => I.tuple_inj
def zf7 (c1 c2 : CQ) (K : PySem.W.Frag) (l1 l2 : Addr) : It :=
 ⟨fun i H => ∃ xs ys x y, c1 K H l1 xs /\ c2 K H l2 ys /\ xs[i]? = some x /\ ys[i]? = some y, fun i H v H' => ∃ T x y, H T = none /\ v = .ref T /\ (∀ xs, c1 K H l1 xs -> xs[i]? = some x) /\ (∀ ys, c2 K H l2 ys -> ys[i]? = some y) /\ H' = upd H T (.tup [x, y]), fun i H => ∃ xs, c1 K H l1 xs /\ xs.length = i⟩
theorem ziK {c1 c2 : CQ} {IsS1 IsS2 : Heap -> Addr -> Array Value -> Prop} {IsI1 IsI2 : Heap -> Addr -> Addr -> Nat -> Prop} (S1 : SeqKd c1 IsS1 IsI1) (S2 : SeqKd c2 IsS2 IsI2) {P : Program} {w : World} {K : PySem.W.Frag} {elts : List Expr} {kt : Nat} {pt : Pos} {z TI TO i1 i2 l1 l2 : Addr} (nTO : TO ≠ z) (nTI : TI ≠ z) (n1z : i1 ≠ z) (n2z : i2 ≠ z) (nTT : TI ≠ TO) (n1I : TI ≠ i1) (n2I : TI ≠ i2) (n1T : i1 ≠ TO) (n2T : i2 ≠ TO) (n12 : i1 ≠ i2) :
  Turn P w K (.Tuple elts kt pt) (zf7 c1 c2 K l1 l2) [z, TI, TO, i1, i2] z (fun i h => IsZip h z TI TO .none /\ IsPair h TI (.ref i1) (.ref i2) /\ (∃ a b, IsPair h TO a b) /\ IsI1 h i1 l1 i /\ IsI2 h i2 l2 i) where
 mem := by simp
 obj := fun i h st b hb => by
  obtain ⟨h1, h2, ⟨a, c, h3⟩, h4, h5⟩ := st
  simp only [List.mem_cons, List.not_mem_nil, or_false] at hb
  rcases hb with rfl | rfl | rfl | rfl | rfl
  ·exact ⟨_, h1, fun v z => by cases z⟩
  ·exact ⟨_, h2, fun v z => by cases z⟩
  ·exact ⟨_, h3, fun v z => by cases z⟩
  ·exact S1.obj _ _ _ _ h4
  ·exact S2.obj _ _ _ _ h5
 keep := fun i h h' st k => by
  obtain ⟨h1, h2, ⟨a, c, h3⟩, h4, h5⟩ := st
  exact ⟨k _ (by simp) _ h1, k _ (by simp) _ h2, ⟨a, c, k _ (by simp) _ h3⟩, S1.kp _ _ _ _ _ h4 fun o q => k _ (by simp) o q, S2.kp _ _ _ _ _ h5 fun o q => k _ (by simp) o q⟩
 item := by
  intro X hP' hw hK hc i pins s σ H E I hf st hg
  subst hP' hw hK
  obtain ⟨xs, ys, x, y, hl1, hl2, hx, hy⟩ := hg
  obtain ⟨its1, rv1, p1⟩ := S1.seq X pins σ H s l1 xs I hl1
  obtain ⟨its2, rv2, p2⟩ := S2.seq X pins σ H s l2 ys I hl2
  obtain ⟨u1, hu1, ru1⟩ := rv1.get hx
  obtain ⟨u2, hu2, ru2⟩ := rv2.get hy
  have fz := hf z (by simp)
  have fT := hf TO (by simp)
  have f1 := hf i1 (by simp)
  have f2 := hf i2 (by simp)
  have hlt1 : i < its1.toArray.size := by
   have := List.getElem?_eq_some_iff.mp hu1
   simpa using this.1
  have hlt2 : i < its2.toArray.size := by
   have := List.getElem?_eq_some_iff.mp hu2
   simpa using this.1
  obtain ⟨h1, h2, ⟨a, c, h3⟩, h4, h5⟩ := st
  have a1 := S1.ne X pins σ H s l1 xs z I hl1 fz
  have a2 := S1.ne X pins σ H s l1 xs TO I hl1 fT
  have a3 := S1.ne X pins σ H s l1 xs i1 I hl1 f1
  have a4 := S1.ne X pins σ H s l1 xs i2 I hl1 f2
  have b1 := S2.ne X pins σ H s l2 ys z I hl2 fz
  have b2 := S2.ne X pins σ H s l2 ys TO I hl2 fT
  have b3 := S2.ne X pins σ H s l2 ys i1 I hl2 f1
  have b4 := S2.ne X pins σ H s l2 ys i2 I hl2 f2
  refine zbL (S1.dr X.prog X.w X.A.in1 (I.ok.hd hc) i1 l1 a3 its1.toArray) (S2.dr X.prog X.w X.A.in1 (I.ok.hd hc) i2 l2 b4 its2.toArray) h1 h2 h3 ⟨h4, p1⟩ ⟨h5, p2⟩ hlt1 hlt2 nTO nTI n1z n2z n1T n2T
   (by simp [Ne.symm n1z, Ne.symm a1]) (by simp [Ne.symm n1T, Ne.symm a2]) (by simp [Ne.symm n12, Ne.symm a4]) (by simp [Ne.symm n2z, Ne.symm b1]) (by simp [Ne.symm n2T, Ne.symm b2]) (by simp [n12, Ne.symm b3]) fun v1 v2 h' tk e1 e2 q1 q2 q3 q4 q5 q6 q7 => ?_
  refine ⟨.ref s.heap.objs.size, rfl, wpAny_letOwnedTupleGo_zip (s := { s with heap := h', toks := tk }) q1 fun g r1 r2 => ?_⟩
  have hv1 : v1 = u1 := by
   have h1 : its1[i]? = some v1 := by simpa using e1
   rw [hu1] at h1
   exact (Option.some.inj h1).symm
  have hv2 : v2 = u2 := by
   have h1 : its2[i]? = some v2 := by simpa using e2
   rw [hu2] at h1
   exact (Option.some.inj h1).symm
  subst hv1 hv2
  have hzt : z < s.heap.objs.size := Heap.lt_size h1
  have hT2 : g.get? s.heap.objs.size = some { cls := .type "tuple", data := .seq #[v1, v2] } := (r2.2 _ (Nat.ne_of_gt hzt)).trans q5
  have new : ObjOk X.prog X.w (upd H s.heap.objs.size (.tup [x, y])) g s.heap.objs.size (.tup [x, y]) := ⟨(by show 2 <= sizeLine; decide), [v1, v2], .cons ru1 (.cons ru2 .nil), ⟨_, hT2, rfl, _, rfl⟩, _, hT2, rfl⟩
  refine ⟨.ref s.heap.objs.size, _, I.turnNl (ch := [z, TO, i1, i2]) (fun b hb => hf b ?_) (fun c o hc q => (r2.2 c ?_).trans (q7 c o ?_ ?_ ?_ ?_ q)) (Nat.le_refl _) new, rfl, ⟨s.heap.objs.size, x, y, I.hok.fresh (Nat.le_refl _), rfl, (fun us h => by rw [S1.inj X pins σ H s l1 us xs I h hl1]; exact hx), (fun us h => by rw [S2.inj X pins σ H s l2 us ys I h hl2]; exact hy), rfl⟩, ⟨r1, (r2.2 _ nTI).trans (q7 _ _ nTI nTT n1I n2I h2), ⟨_, _, (r2.2 _ nTO).trans q2⟩, S1.kp _ _ _ _ _ q3.1 fun o q => (r2.2 _ n1z).trans q, S2.kp _ _ _ _ _ q4.1 fun o q => (r2.2 _ n2z).trans q⟩, fun b hb => ?_⟩
  ·simp only [List.mem_cons, List.not_mem_nil, or_false] at hb ⊢
   rcases hb with h | h | h | h <;> simp [h]
  ·exact fun z => hc (by simp [z])
  ·exact fun z => hc (by simp [z])
  ·exact fun z => hc (by simp [z])
  ·exact fun z => hc (by simp [z])
  ·exact fun z => hc (by simp [z])
  ·have fb := hf b hb
   have lt : b < s.heap.objs.size := by
    simp only [List.mem_cons, List.not_mem_nil, or_false] at hb
    rcases hb with rfl | rfl | rfl | rfl | rfl
    ·exact hzt
    ·exact Heap.lt_size h2
    ·exact Heap.lt_size h3
    ·obtain ⟨o, q, _⟩ := S1.obj _ _ _ _ h4; exact Heap.lt_size q
    ·obtain ⟨o, q, _⟩ := S2.obj _ _ _ _ h5; exact Heap.lt_size q
   rw [zal (Nat.ne_of_lt lt)]
   exact fb.1
 done := by
  intro X hP' hw hK hc i pins s σ H E I hf st hg
  subst hP' hw hK
  obtain ⟨xs, hl1, hn⟩ := hg
  obtain ⟨its1, rv1, p1⟩ := S1.seq X pins σ H s l1 xs I hl1
  have fz := hf z (by simp)
  have f1 := hf i1 (by simp)
  obtain ⟨h1, h2, ⟨a, c, h3⟩, h4, h5⟩ := st
  have a1 := S1.ne X pins σ H s l1 xs z I hl1 fz
  have a3 := S1.ne X pins σ H s l1 xs i1 I hl1 f1
  have hi : i = its1.toArray.size := by rw [<- hn, rv1.length]; simp
  subst hi
  refine zbN (S1.dr X.prog X.w X.A.in1 (I.ok.hd hc) i1 l1 a3 its1.toArray) h1 h2 h3 ⟨h4, p1⟩ nTO n1z (by simp [Ne.symm n1z, Ne.symm a1]) fun h' k => ⟨rfl, I.turnN (t' := s.toks) (ch := [z, TO, i1, i2]) (fun b hb => hf b ?_) fun c o hc q => k c o (fun z => hc (by simp [z])) (fun z => hc (by simp [z])) (fun z => hc (by simp [z])) (fun z => hc (by simp [z])) q⟩
  simp only [List.mem_cons, List.not_mem_nil, or_false] at hb ⊢
  rcases hb with h | h | h | h <;> simp [h]
 self := fun A i s Q E st q => wpAny_pyIter_zip st.1 q
def zlB (c1 c2 : CQ) (K : PySem.W.Frag) (te1 te2 : TE) : TI := fun σ H R => te1 σ H fun x H1 => te2 σ H1 fun y H2 => ∃ l1 l2 xs ys, [x, y] = [V.ref l1, V.ref l2] /\ c1 K H2 l1 xs /\ c2 K H2 l2 ys /\ R (zf7 c1 c2 K l1 l2) H2
section
variable {X : Cx} {elts : List Expr} {kt : Nat} {pt : Pos} {e1 e2 : Expr} {te1 te2 : TE} {p pos : Pos}
theorem zc5 {c1 c2 : CQ} {IsS1 IsS2 : Heap -> Addr -> Array Value -> Prop} {IsI1 IsI2 : Heap -> Addr -> Addr -> Nat -> Prop} (S1 : SeqKd c1 IsS1 IsI1) (S2 : SeqKd c2 IsS2 IsI2) {pins : List (Addr × Obj)} {σ : St} {H1 : Hp} {s1 : Shared} {R : It -> Hp -> Prop} {l1 l2 : Addr} {h' : Heap} (I1 : Inv X pins σ H1 s1)
  (a1 : IsZip h' (s1.heap.objs.size + 4) (s1.heap.objs.size + 2) (s1.heap.objs.size + 3) .none) (a2 : IsPair h' (s1.heap.objs.size + 2) (.ref s1.heap.objs.size) (.ref (s1.heap.objs.size + 1))) (a3 : IsPair h' (s1.heap.objs.size + 3) .none .none)
  (a4 : IsI1 h' s1.heap.objs.size l1 0) (a5 : IsI2 h' (s1.heap.objs.size + 1) l2 0) (k : ∀ b o, s1.heap.get? b = some o -> h'.get? b = some o) (q : R (zf7 c1 c2 X.K l1 l2) H1) :
  PIE X pins σ (.Tuple elts kt pt) R (.ref (s1.heap.objs.size + 4)) { s1 with heap := h' } := by
 have nn : ∀ i j : Nat, i ≠ j -> s1.heap.objs.size + i ≠ s1.heap.objs.size + j := fun i j h e => h (by exact Nat.add_left_cancel e)
 refine ⟨s1.heap.objs.size + 4, [s1.heap.objs.size + 4, s1.heap.objs.size + 2, s1.heap.objs.size + 3, s1.heap.objs.size, s1.heap.objs.size + 1], _, _, H1, rfl, I1.kept (t' := s1.toks) k, ziK S1 S2 (nn 3 4 (by decide)) (nn 2 4 (by decide)) (nn 0 4 (by decide)) (nn 1 4 (by decide)) (nn 2 3 (by decide)) (nn 2 0 (by decide)) (nn 2 1 (by decide)) (nn 0 3 (by decide)) (nn 1 3 (by decide)) (nn 0 1 (by decide)), ⟨a1, a2, ⟨_, _, a3⟩, a4, a5⟩, fun b hb => ?_, q⟩
 have le : s1.heap.objs.size <= b := by
  simp only [List.mem_cons, List.not_mem_nil, or_false] at hb
  rcases hb with h | h | h | h | h
  ·rw [h]; exact Nat.le_add_right _ _
  ·rw [h]; exact Nat.le_add_right _ _
  ·rw [h]; exact Nat.le_add_right _ _
  ·rw [h]; exact Nat.le_refl _
  ·rw [h]; exact Nat.le_add_right _ _
 exact I1.fpOk le (I1.hok.fresh le)
theorem zfn (hg : Gl X "zip") (hm : X.mg "zip" = none) (he1 : PE X e1 te1) (he2 : PE X e2 te2) (hs : autoParam (starEach [e1, e2] X.env = (false, eval e1 X.env) :: starEach [e2] X.env) AutoP.a3._auto_1) (hs2 : autoParam (starEach [e2] X.env = [(false, eval e2 X.env)]) AutoP.a3._auto_1) : PI X (.Tuple elts kt pt) (.Call (.Name "zip" p) [e1, e2] [] pos) (zlB SqT SqL X.K te1 te2) := by
 intro pins s σ H R I h
 refine Call_ (zcV I hg hm boot_zip (PyProof.Rows.callWith_type1 (thn (zaH he1 (zaH he2 zbU hs2) hs pos pins s σ H (fun zs H1 => ∃ l1 l2 xs ys, zs = [V.ref l1, V.ref l2] /\ SqT X.K H1 l1 xs /\ SqL X.K H1 l2 ys /\ R (zf7 SqT SqL X.K l1 l2) H1) I h) fun us s1 ⟨vs, H1, I1, r1, q1⟩ => ?_) hs (by rw [hs2]; rfl)))
 obtain ⟨l1, l2, xs, ys, rfl, hl1, hl2, q⟩ := q1
 obtain ⟨u, v, rfl, ru, rv⟩ := zdR r1
 cases ru
 cases rv
 obtain ⟨its1, rv1, p1⟩ := sq_tup.seq X pins σ H1 s1 l1 xs I1 hl1
 obtain ⟨its2, rv2, p2⟩ := sq_lst.seq X pins σ H1 s1 l2 ys I1 hl2
 exact zgR p1 p2 fun h' a1 a2 a3 a4 a5 k => wpAny_pyIter_zip a1 (zc5 sq_tup sq_lst I1 a1 a2 a3 a4 a5 k q)
theorem zfm (hg : Gl X "zip") (hm : X.mg "zip" = none) (he1 : PE X e1 te1) (he2 : PE X e2 te2) (hs : autoParam (starEach [e1, e2] X.env = (false, eval e1 X.env) :: starEach [e2] X.env) AutoP.a3._auto_1) (hs2 : autoParam (starEach [e2] X.env = [(false, eval e2 X.env)]) AutoP.a3._auto_1) : PI X (.Tuple elts kt pt) (.Call (.Name "zip" p) [e1, e2] [] pos) (zlB SqT SqT X.K te1 te2) := by
 intro pins s σ H R I h
 refine Call_ (zcV I hg hm boot_zip (PyProof.Rows.callWith_type1 (thn (zaH he1 (zaH he2 zbU hs2) hs pos pins s σ H (fun zs H1 => ∃ l1 l2 xs ys, zs = [V.ref l1, V.ref l2] /\ SqT X.K H1 l1 xs /\ SqT X.K H1 l2 ys /\ R (zf7 SqT SqT X.K l1 l2) H1) I h) fun us s1 ⟨vs, H1, I1, r1, q1⟩ => ?_) hs (by rw [hs2]; rfl)))
 obtain ⟨l1, l2, xs, ys, rfl, hl1, hl2, q⟩ := q1
 obtain ⟨u, v, rfl, ru, rv⟩ := zdR r1
 cases ru
 cases rv
 obtain ⟨its1, rv1, p1⟩ := sq_tup.seq X pins σ H1 s1 l1 xs I1 hl1
 obtain ⟨its2, rv2, p2⟩ := sq_tup.seq X pins σ H1 s1 l2 ys I1 hl2
 exact zgQ p1 p2 fun h' a1 a2 a3 a4 a5 k => wpAny_pyIter_zip a1 (zc5 sq_tup sq_tup I1 a1 a2 a3 a4 a5 k q)
end
end L2
set_option autoImplicit false
namespace MD
open PySem PySem.Spec PyProof.Rows L2
theorem Res.bind_assoc {α β γ : Type} (r : Res α) (k : α -> Sto -> Res β) (l : β -> Sto -> Res γ) : (r.bind k).bind l = r.bind fun a m => (k a m).bind l := by
 cases r <;> rfl
theorem Res.bind_ok' {α : Type} (r : Res α) : (r.bind fun a m => .ok a m) = r := by cases r <;> rfl
theorem RepL.append {K : PySem.W.Frag} {α : List Addr} {H : Hp} : ∀ {ds es : List D} {vs ws : List V}, RepL K α H ds vs -> RepL K α H es ws -> RepL K α H (ds ++ es) (vs ++ ws)
 | [], _, _, _, h1, h2 => by rw [RepL] at h1; subst h1; exact h2
 | _ :: _, _, _, _, h1, h2 => by
  rw [RepL] at h1
  obtain ⟨v, r, rfl, a, b⟩ := h1
  rw [List.cons_append, RepL]
  exact ⟨v, r ++ _, rfl, a, RepL.append b h2⟩
theorem RepL.one {K : PySem.W.Frag} {α : List Addr} {H : Hp} {d : D} {v : V} (h : Rep K α H d v) : RepL K α H [d] [v] := by
 rw [RepL]
 exact ⟨v, [], rfl, h, by rw [RepL]⟩
theorem RepL.get {K : PySem.W.Frag} {α : List Addr} {H : Hp} : ∀ {ds : List D} {vs : List V} {i : Nat} {d : D}, RepL K α H ds vs -> ds[i]? = some d -> ∃ v, vs[i]? = some v /\ Rep K α H d v
 | [], _, _, _, _, e => by simp at e
 | _ :: _, _, 0, _, h, e => by
  rw [RepL] at h
  obtain ⟨v, r, rfl, a, b⟩ := h
  simp at e
  subst e
  exact ⟨v, rfl, a⟩
 | _ :: _, _, i + 1, d, h, e => by
  rw [RepL] at h
  obtain ⟨v, r, rfl, a, b⟩ := h
  obtain ⟨w, h1, h2⟩ := RepL.get (i := i) (d := d) b (by simpa using e)
  exact ⟨w, by simpa using h1, h2⟩
section
variable {K : PySem.W.Frag} {cl : Str -> Addr} {ex : XD} {gt : GV} {ta : TV} {fa : EV} {fr : AV}
theorem zha {n : Nat} {fin : List V -> Hp -> Prop} {σ : L2.St} {H : Hp} (h : ∃ α ρ m, Wd K cl α m H /\ RepE K α H ρ σ /\ PQ K cl ex (zaQ n fr gt ta fa ρ m) α H fun ds α' _ H' => ∀ vs, RepL K α' H' ds vs -> fin vs H') :
  zmz n (tDI K cl ex fr) (tDG K cl ex gt) (tDT K cl ex ta) (tD K cl ex fa) fin σ H := by
 obtain ⟨α, ρ, m, W, hr, h⟩ := h
 refine ⟨α, ρ, m, W, hr, PQ.mono (Ext.refl W) h.bind fun ds α1 m1 H1 E1 W1 q J hJ => ?_⟩
 obtain ⟨hk, q⟩ := PQ.if q
 have hr1 := hr.mono W E1
 refine znW (k := ds.length) (fun i ys H2 => ∃ α2 m2 done, Ext α1 H1 α2 H2 /\ Wd K cl α2 m2 H2 /\ RepL K α2 H2 done ys /\ done.length <= i /\ PQ K cl ex ((zcR gt ta fa (ρ ++ List.replicate n none) (ds.drop i) m2).bind fun xs m4 => .ok (done ++ xs) m4) α2 H2 fun ds α' _ H' => ∀ vs, RepL K α' H' ds vs -> fin vs H') hk ?_ ?_ ?_ ?_
 ·refine ⟨α1, m1, [], Ext.refl W1, W1, by rw [RepL], Nat.le_refl _, ?_⟩
  simp only [List.nil_append, List.drop_zero, Res.bind_ok']
  exact q
 ·rintro i ys H2 ⟨_, _, done, _, _, r, l, _⟩
  rw [<- r.length]
  exact l
 ·rintro i ys H2 hi ⟨α2, m2, done, E2, W2, r2, l2, q2⟩
  have hd : ds[i]? = some ds[i] := by simp [hi]
  obtain ⟨g1, g2⟩ := (hJ i α2 m2 H2 E2 W2).1 _ hd
  refine ⟨g1, fun x H3 y => ?_⟩
  obtain ⟨sm, rx⟩ := g2 x H3 y
  have Es := Ext.of_same W2 sm
  have W3 := W2.same sm
  rw [List.drop_eq_getElem_cons hi, zcR, Res.bind_assoc] at q2
  have E23 := E2.trans Es
  refine ⟨α2, ρ ++ List.replicate n none, m2, ds[i], W3, (hr1.mono W1 E23).more n, rx, PQ.mono Es q2.bind fun ρ4 α4 m4 H4 E4 W4 q4 σ4 hr4 => ?_⟩
  rw [Res.bind_assoc] at q4
  refine tDT.use W4 hr4 q4 fun α5 m5 H5 b E5 W5 hr5 q5 => ?_
  have E45 := E4.trans E5
  cases b with
  | false => exact ⟨α5, m5, done, E23.trans E45, W5, (r2.mono W2 Es).mono W3 E45, Nat.le_succ_of_le l2, q5⟩
  | true =>
   have q5' : PQ K cl ex (((fa ρ4 m5).bind fun x m3 => (zcR gt ta fa (ρ ++ List.replicate n none) (ds.drop (i + 1)) m3).bind fun xs m4 => .ok (x :: xs) m4).bind fun xs m4 => .ok (done ++ xs) m4) α5 H5 fun ds α' _ H' => ∀ vs, RepL K α' H' ds vs -> fin vs H' := q5
   rw [Res.bind_assoc] at q5'
   refine tD.use W5 hr5 q5' fun α6 m6 H6 d v E6 W6 hr6 rv q6 => ?_
   rw [Res.bind_assoc] at q6
   refine ⟨α6, m6, done ++ [d], E23.trans (E45.trans E6), W6, RepL.append (((r2.mono W2 Es).mono W3 E45).mono W5 E6) (RepL.one rv), by rw [List.length_append]; show done.length + 1 <= i + 1; omega, ?_⟩
   simp only [List.append_assoc, List.singleton_append]
   exact q6
 ·rintro ys H2 ⟨α2, m2, done, E2, W2, r2, l2, q2⟩
  rw [List.drop_of_length_le (Nat.le_refl _), zcR] at q2
  refine ⟨(hJ ds.length α2 m2 H2 E2 W2).2 rfl, ?_⟩
  have q3 : PQ K cl ex (.ok (done ++ []) m2) α2 H2 fun ds α' _ H' => ∀ vs, RepL K α' H' ds vs -> fin vs H' := q2
  rw [List.append_nil] at q3
  exact PQ.ok W2 q3 ys r2
end
def gL1 (ds : List D) (m : Sto) : Res D := .ok (.lst ds) m
def zcc (z : Str) : List D := (List.range z.cps.size).map fun i => .str ⟨#[z.cps.getD i 0]⟩
def zix (d : D) (m : Sto) : Res (List D) := match d with
 | .tup ds => .ok ds m
 | .lst ds => .ok ds m
 | .str z => .ok (zcc z) m
 | .scr ds => .ok ds m
 | _ => .bad
def aIt (fa : EV) : AV := fun ρ m => (fa ρ m).bind zix
def zcA (lo : Int) (n : Nat) : List D := (List.range n).map fun i => .int (lo + (i : Nat))
def zmK (ds : List D) (m : Sto) : Res (List D) := match ds with
 | [.int j] => if -(2 ^ 62) <= j /\ j < 2 ^ 62 then .ok (zcA 0 j.toNat) m else .bad
 | _ => .bad
theorem zi4 : ∃ f : List D -> Sto -> Res (List D), f = zmK := ⟨_, rfl⟩
def zlZ : List D -> Sto -> Res (List D) := Classical.choose zi4
theorem zi5 : zlZ = zmK := Classical.choose_spec zi4
def znZ (g : List D -> Sto -> Res (List D)) (fr : AV) : AV := fun ρ m => (fr ρ m).bind g
def zko (i : Nat) : List D -> List D
 | [] => []
 | d :: r => .tup [.int i, d] :: zko (i + 1) r
def asSq2 (d : D) (m : Sto) : Res (List D) := match d with
 | .tup ds => .ok ds m
 | .lst ds => .ok ds m
 | _ => .bad
def aEnum (fa : EV) : AV := fun ρ m => (fa ρ m).bind fun d m1 => (asSq2 d m1).bind fun ds m2 => .ok (zko 0 ds) m2
def zbM : List D -> List D -> List D
 | x :: xs, y :: ys => .tup [x, y] :: zbM xs ys
 | _, _ => []
def zipD3 : List D -> List D -> List D -> List D
 | x :: xs, y :: ys, z :: zs => .tup [x, y, z] :: zipD3 xs ys zs
 | _, _, _ => []
def zlR (x y : D) (m : Sto) : Res (List D) := match x, y with
 | .tup xs, .tup ys => if xs.length <= ys.length then .ok (zbM xs ys) m else .bad
 | .tup xs, .lst ys => if xs.length <= ys.length then .ok (zbM xs ys) m else .bad
 | _, _ => .bad
def aZip (fa fb : EV) : AV := fun ρ m => (fa ρ m).bind fun x m1 => (fb ρ m1).bind fun y m2 => zlR x y m2
def zip3 (x y z : D) (m : Sto) : Res (List D) := match x, y, z with
 | .tup xs, .tup ys, .tup zs => if xs.length <= ys.length /\ xs.length <= zs.length then .ok (zipD3 xs ys zs) m else .bad
 | _, _, _ => .bad
def aZip3 (fa fb fc : EV) : AV := fun ρ m => (fa ρ m).bind fun x m1 => (fb ρ m1).bind fun y m2 => (fc ρ m2).bind fun z m3 => zip3 x y z m3
theorem zg1 : ∀ (xs ys : List D) (i : Nat) (d : D), (zbM xs ys)[i]? = some d -> ∃ a b, xs[i]? = some a /\ ys[i]? = some b /\ d = .tup [a, b]
 | [], _, i, d, h => by simp [zbM] at h
 | _ :: _, [], i, d, h => by simp [zbM] at h
 | a :: r, b :: s, 0, d, h => by
  simp [zbM] at h
  exact ⟨a, b, rfl, rfl, h.symm⟩
 | a :: r, b :: s, i + 1, d, h => by
  obtain ⟨x, y, h1, h2, h3⟩ := zg1 r s i d (by simpa [zbM] using h)
  exact ⟨x, y, by simpa using h1, by simpa using h2, h3⟩
theorem zg0 : ∀ (xs ys : List D), xs.length <= ys.length -> (zbM xs ys).length = xs.length
 | [], _, _ => by simp [zbM]
 | _ :: _, [], h => by simp at h
 | _ :: r, _ :: s, h => by rw [zbM, List.length_cons, List.length_cons, zg0 r s (by simpa using h)]
section
variable {X : Cx} {N0 : List Str} {cl : Str -> Addr} {ex : XD} {a b c e tg it : Expr} {es ifs : List Expr} {fa fb fc : EV} {ta tb : TV} {fr : AV} {pos p : Pos} {gt : GV} {scope : Scope} {xs : List Str} {clo : List (Str × Addr)}
theorem za7 (hc : X.calm = true) (hx : X.xe = fun _ _ => False) (S : CompOk X N0 scope xs clo) (hi : QI X cl ex tg it fr)
  (hg : ∀ C s H fp, QG (X.comp N0 scope xs clo C s H fp) cl ex tg gt) (hf : ∀ C s H fp, PIf (X.comp N0 scope xs clo C s H fp) ifs (tDT X.K cl ex ta)) (he : ∀ C s H fp, QE (X.comp N0 scope xs clo C s H fp) cl ex e fa)
  (hs : autoParam (∀ x, foldedSetIterable it X.env x = pure x) AutoP.a2._auto_1) : QE X cl ex (.ListComp e [⟨tg, it, ifs, 0⟩] scope pos) (eFn gL1 (zaQ xs.length fr gt ta fa)) :=
 ⟨PE.weak (znd (g := tDG X.K cl ex gt) (tf := tDT X.K cl ex ta) (te := tD X.K cl ex fa) hc hx S hi.out (fun C s H fp => (hg C s H fp).out) hf (fun C s H fp => (he C s H fp).out) hs) fun σ H Q hh => ex3 hh fun α ρ m W hr h => zha ⟨α, ρ, m, W, hr, PQ.mono (Ext.refl W) h.bind fun ds α1 m1 H1 E1 W1 q vs rv p hp => PQ.okS W1 (Same.new hp) q _ (zbr W1 hp rv)⟩⟩
theorem zgl {i : Nat} {y : Str} {py spos : Pos} (hc : X.calm = true) (hx : X.xe = fun _ _ => False) (hN : X.N.Nodup) (hy : X.N[i]? = some y) (hl : X.env.scope.names.lookup y = some .local) (S : CompOk X N0 scope xs clo) (hi : QI X cl ex tg it fr)
  (hg : ∀ C s H fp, QG (X.comp N0 scope xs clo C s H fp) cl ex tg gt) (hf : ∀ C s H fp, PIf (X.comp N0 scope xs clo C s H fp) ifs (tDT X.K cl ex ta)) (he : ∀ C s H fp, QE (X.comp N0 scope xs clo C s H fp) cl ex e fa)
  (hsw : autoParam (swapsWith (.ListComp e [⟨tg, it, ifs, 0⟩] scope pos) (some (.Name y py)) spos.line X.env = pure true) AutoP.a4._auto_1)
  (hs : autoParam (∀ x, foldedSetIterable it X.env x = pure x) AutoP.a2._auto_1) : QS X cl ex (.Assign [.Name y py] (.ListComp e [⟨tg, it, ifs, 0⟩] scope pos) spos) (za1 (eFn gL1 (zaQ xs.length fr gt ta fa)) (gN i)) :=
 ⟨PS.weak (zm0 (g := tDG X.K cl ex gt) (tf := tDT X.K cl ex ta) (te := tD X.K cl ex fa) hc hx hN hy hl S hi.out (fun C s H fp => (hg C s H fp).out) hf (fun C s H fp => (he C s H fp).out) hsw hs) fun D σ H hh => ex3 hh fun α ρ m W hr h => zha ⟨α, ρ, m, W, hr, by
  have h2 : PQ X.K cl ex (((zaQ xs.length fr gt ta fa ρ m).bind gL1).bind fun d m1 => (gN i d ρ m1).bind fun ρ1 m2 => .ok (.nx ρ1) m2) α H fun fl α' _ H' => zbB X.K D fl α' H' := h
  rw [Res.bind_assoc] at h2
  exact PQ.mono (Ext.refl W) h2.bind fun ds α1 m1 H1 E1 W1 q vs rv p hp => PQ.okS W1 (Same.new hp) (show PQ X.K cl ex (.ok (.nx (ρ.set i (some (.lst ds)))) m1) α1 H1 fun fl α' _ H' => zbB X.K D fl α' H' from q) _ (((hr.mono W E1).mono W1 (Ext.of_same W1 (Same.new hp))).set (zbr W1 hp rv))⟩⟩
theorem zaS : PIf X [] (tDT X.K cl ex za2) := fun pins s σ H Q I hh => ex3 hh fun α ρ m W hr h => zm9 pins s σ H Q I (PQ.ok W h)
theorem PI.or {t t' : TI} (h : PI X tg it t) (h' : PI X tg it t') : PI X tg it fun σ H R => t σ H R ∨ t' σ H R := fun pins s σ H R I q => q.elim (h pins s σ H R I) (h' pins s σ H R I)
end
section
variable {K : PySem.W.Frag} {cl : Str -> Addr} {ex : XD} {α α' : List Addr} {m m1 : Sto} {H H' : Hp} {ρ : En} {σ : L2.St}
theorem tD.at {f : EV} {d : D} {Q : VK} (W : Wd K cl α m H) (hr : RepE K α H ρ σ) (hf : f ρ m = .ok d m1) (hQ : ∀ α1 H1 v, Ext α H α1 H1 -> Wd K cl α1 m1 H1 -> RepE K α1 H1 ρ σ -> Rep K α1 H1 d v -> Q v H1) : tD K cl ex f σ H Q :=
 ⟨α, ρ, m, W, hr, by rw [hf]; exact fun α1 H1 E1 W1 v rv => hQ α1 H1 v E1 W1 (hr.mono W E1) rv⟩
theorem tDA.at {f : AV} {d : List D} {Q : List V -> Hp -> Prop} (W : Wd K cl α m H) (hr : RepE K α H ρ σ) (hf : f ρ m = .ok d m1) (hQ : ∀ α1 H1 v, Ext α H α1 H1 -> Wd K cl α1 m1 H1 -> RepE K α1 H1 ρ σ -> RepL K α1 H1 d v -> Q v H1) : tDA K cl ex f σ H Q :=
 ⟨α, ρ, m, W, hr, by rw [hf]; exact fun α1 H1 E1 W1 v rv => hQ α1 H1 v E1 W1 (hr.mono W E1) rv⟩
theorem tD.exc {f : EV} {τ : Type} {c : Exc} {k : D -> Sto -> Res τ} {R : RD τ} {Q : VK} (W : Wd K cl α m H) (hr : RepE K α H ρ σ) (hf : f ρ m = .exc c m1) (q : PQ K cl ex ((f ρ m).bind k) α H R) : tD K cl ex f σ H Q :=
 ⟨α, ρ, m, W, hr, by rw [hf] at q ⊢; exact q⟩
theorem tDA.exc {f : AV} {τ : Type} {c : Exc} {k : List D -> Sto -> Res τ} {R : RD τ} {Q : List V -> Hp -> Prop} (W : Wd K cl α m H) (hr : RepE K α H ρ σ) (hf : f ρ m = .exc c m1) (q : PQ K cl ex ((f ρ m).bind k) α H R) : tDA K cl ex f σ H Q :=
 ⟨α, ρ, m, W, hr, by rw [hf] at q ⊢; exact q⟩
theorem itd_l {l : Addr} {ds : List D} {vs : List V} (W : Wd K cl α m H) (n : l ∉ α) (h : Rd H l (.lst vs)) (r : RepL K α H ds vs) : ItD K cl α H (Itl K l) ds := fun i α1 m1 H1 E1 W1 => by
 have sq : SqL K H1 l vs := .inl (E1.rd h n)
 refine ⟨fun d e => ?_, fun e => ⟨vs, sq, by rw [e, r.length]; exact Nat.le_refl _⟩⟩
 obtain ⟨v, h1, h2⟩ := (r.mono W E1).get e
 refine ⟨⟨vs, v, sq, h1⟩, fun x H2 y => ?_⟩
 obtain ⟨rfl, y⟩ := y
 have := y vs sq
 rw [h1] at this
 cases this
 exact ⟨Same.refl _, h2⟩
theorem itd_s {l : Addr} {ds : List D} {vs : List V} (W : Wd K cl α m H) (h : LstAt K α H l vs) (r : RepL K α H ds vs) : ItD K cl α H (Itl K l) ds := fun i α1 m1 H1 E1 W1 => by
 have sq : SqL K H1 l vs := ((E1.kp W).lstAt h).sq
 refine ⟨fun d e => ?_, fun e => ⟨vs, sq, by rw [e, r.length]; exact Nat.le_refl _⟩⟩
 obtain ⟨v, h1, h2⟩ := (r.mono W E1).get e
 refine ⟨⟨vs, v, sq, h1⟩, fun x H2 y => ?_⟩
 obtain ⟨rfl, y⟩ := y
 have := y vs sq
 rw [h1] at this
 cases this
 exact ⟨Same.refl _, h2⟩
theorem itd_t {l : Addr} {ds : List D} {vs : List V} (W : Wd K cl α m H) (h : SqT K H l vs) (r : RepL K α H ds vs) : ItD K cl α H (Itt K l) ds := fun i α1 m1 H1 E1 W1 => by
 have sq : SqT K H1 l vs := E1.sqt W h
 refine ⟨fun d e => ?_, fun e => ⟨vs, sq, by rw [e, r.length]; exact Nat.le_refl _⟩⟩
 obtain ⟨v, h1, h2⟩ := (r.mono W E1).get e
 refine ⟨⟨vs, v, sq, h1⟩, fun x H2 y => ?_⟩
 obtain ⟨rfl, y⟩ := y
 have := y vs sq
 rw [h1] at this
 cases this
 exact ⟨Same.refl _, h2⟩
theorem itd_f {f : Nat -> V} {g : Nat -> D} {n : Nat} (hg : ∀ i α H, Rep K α H (g i) (f i)) : ItD K cl α H (Itf f n) ((List.range n).map g) := fun i α1 m1 H1 E1 W1 => by
 refine ⟨fun d e => ?_, fun e => by rw [List.length_map, List.length_range] at e; exact e⟩
 obtain ⟨hi, e⟩ := List.getElem?_eq_some_iff.mp e
 rw [List.length_map, List.length_range] at hi
 simp only [List.getElem_map, List.getElem_range] at e
 subst e
 refine ⟨hi, fun x H2 y => ?_⟩
 obtain ⟨rfl, rfl⟩ := y
 exact ⟨Same.refl _, hg _ _ _⟩
theorem itd_r {lo : Int} {n : Nat} : ItD K cl α H (Itr lo n) (zcA lo n) := fun i α1 m1 H1 E1 W1 => by
 unfold zcA
 refine ⟨fun d e => ?_, fun e => by rw [List.length_map, List.length_range] at e; exact Nat.le_of_eq e.symm⟩
 obtain ⟨hi, e⟩ := List.getElem?_eq_some_iff.mp e
 rw [List.length_map, List.length_range] at hi
 simp only [List.getElem_map, List.getElem_range] at e
 subst e
 refine ⟨hi, fun x H2 y => ?_⟩
 obtain ⟨rfl, rfl⟩ := y
 exact ⟨Same.refl _, by rw [Rep]⟩
theorem zbf {T : Addr} {ds : List D} {vs : List V} (W : Wd K cl α m H) (hT : H T = none) (r : RepL K α H ds vs) : Rep K α (upd H T (.tup vs)) (.tup ds) (.ref T) := by
 rw [Rep]
 exact ⟨T, vs, rfl, .inl zap, r.mono W (Ext.of_same W (Same.new hT))⟩
theorem RepL.two {d e : D} {v w : V} (h : Rep K α H d v) (h' : Rep K α H e w) : RepL K α H [d, e] [v, w] := RepL.append (RepL.one h) (RepL.one h')
def zlQ (K : PySem.W.Frag) (cl : Str -> Addr) (c : CQ) (α : List Addr) (H : Hp) (l : Addr) (vs : List V) : Prop := ∀ α1 m1 H1, Ext α H α1 H1 -> Wd K cl α1 m1 H1 -> c K H1 l vs
theorem zio {c1 c2 : CQ} {l1 l2 : Addr} {xs ys : List D} {vs us : List V} (W : Wd K cl α m H) (h : zlQ K cl c1 α H l1 vs) (h' : zlQ K cl c2 α H l2 us) (r : RepL K α H xs vs) (r' : RepL K α H ys us) (hl : xs.length <= ys.length) : ItD K cl α H (zf7 c1 c2 K l1 l2) (zbM xs ys) := fun i α1 m1 H1 E1 W1 => by
 have sq := h α1 m1 H1 E1 W1
 have sq' := h' α1 m1 H1 E1 W1
 refine ⟨fun d e => ?_, fun e => ⟨vs, sq, by rw [e, zg0 _ _ hl, r.length]⟩⟩
 obtain ⟨x, y, h1, h2, rfl⟩ := zg1 xs ys i d e
 obtain ⟨v, h3, h4⟩ := (r.mono W E1).get h1
 obtain ⟨u, h5, h6⟩ := (r'.mono W E1).get h2
 refine ⟨⟨vs, us, v, u, sq, sq', h3, h5⟩, fun x H2 y => ?_⟩
 obtain ⟨T, x, y, hT, rfl, hx, hy, rfl⟩ := y
 have e1 := hx vs sq
 have e2 := hy us sq'
 rw [h3] at e1
 rw [h5] at e2
 cases e1
 cases e2
 exact ⟨Same.new hT, zbf W1 hT (RepL.two h4 h6)⟩
theorem zcb {l : Addr} {vs : List V} (W : Wd K cl α m H) (h : SqT K H l vs) : zlQ K cl SqT α H l vs := fun α1 m1 H1 E1 W1 => E1.sqt W h
theorem zdb {l : Addr} {vs : List V} (n : l ∉ α) (h : Rd H l (.lst vs)) : zlQ K cl SqL α H l vs := fun α1 m1 H1 E1 W1 => .inl (E1.rd h n)
end
section
variable {X : Cx} {cl : Str -> Addr} {ex : XD} {a b c e tg it : Expr} {es ifs : List Expr} {fa fb fc : EV} {ta tb : TV} {fr : AV} {pos p : Pos} {gt : GV}
theorem zbT (hq : QE X cl ex e fa) : QI X cl ex tg e (aIt fa) :=
 ⟨PI.weak (PI.or (zna hq.out) (PI.or (pi_tup hq.out) (pi_txt hq.out))) fun σ H R hh => ex3 hh fun α ρ m W hr q => by
  unfold aIt at q
  cases hf : fa ρ m with
  | bad => rw [hf] at q; exact q.elim
  | exc c m1 => exact .inl (tD.exc W hr hf q)
  | ok d m1 =>
   rw [hf] at q
   cases d with
   | lst ds =>
    refine .inl (tD.at W hr hf fun α1 H1 v E1 W1 hr1 rv => ?_)
    rw [Rep] at rv
    obtain ⟨l, vs, rfl, n, h1, h2⟩ := rv
    exact ⟨l, rfl, ⟨vs, .inl h1⟩, q α1 H1 E1 W1 _ (itd_l W1 n h1 h2)⟩
   | tup ds =>
    refine .inr (.inl (tD.at W hr hf fun α1 H1 v E1 W1 hr1 rv => ?_))
    rw [Rep] at rv
    obtain ⟨l, vs, rfl, h1, h2⟩ := rv
    exact ⟨l, rfl, ⟨vs, h1.sq⟩, q α1 H1 E1 W1 _ (itd_t W1 h1.sq h2)⟩
   | str z =>
    refine .inr (.inr (tD.at W hr hf fun α1 H1 v E1 W1 hr1 rv => ?_))
    rw [Rep] at rv
    exact ⟨z, rv, q α1 H1 E1 W1 _ (itd_f fun i α H => by rw [Rep]; rfl)⟩
   | scr ds =>
    refine .inl (tD.at W hr hf fun α1 H1 v E1 W1 hr1 rv => ?_)
    rw [Rep] at rv
    obtain ⟨l, vs, rfl, h1, h2⟩ := rv
    exact ⟨l, rfl, ⟨vs, h1.sq⟩, q α1 H1 E1 W1 _ (itd_s W1 h1 h2)⟩
   | _ => exact q.elim⟩
theorem zeF (hg : Gl X "range") (hm : X.mg "range" = none) (ha : QA X cl ex [a] fr) (hs : autoParam (starEach [a] X.env = [(false, eval a X.env)]) AutoP.a3._auto_1) : QI X cl ex tg (.Call (.Name "range" p) [a] [] pos) (znZ zlZ fr) :=
 ⟨PI.weak (zjt hg hm ha.out hs) fun σ H R hh => ex3 hh fun α ρ m W hr q => tDA.use W hr q fun α1 m1 H1 d v E1 W1 hr1 rv q1 => by
  rw [zi5] at q1; unfold zmK at q1
  split at q1
  ·obtain ⟨h1, h2⟩ := PQ.if q1
   rw [RepL] at rv
   obtain ⟨v, r, rfl, a1, a2⟩ := rv
   rw [Rep] at a1
   rw [RepL] at a2
   subst a1 a2
   exact ⟨_, rfl, h1.1, h1.2, PQ.ok W1 h2 _ itd_r⟩
  ·exact q1.elim⟩
variable {elts : List Expr} {kt : Nat} {pt : Pos}
theorem qi_zip (hg : Gl X "zip") (hm : X.mg "zip" = none) (h1 : QE X cl ex a fa) (h2 : QE X cl ex b fb) (hs : autoParam (starEach [a, b] X.env = (false, eval a X.env) :: starEach [b] X.env) AutoP.a3._auto_1) (hs2 : autoParam (starEach [b] X.env = [(false, eval b X.env)]) AutoP.a3._auto_1) : QI X cl ex (.Tuple elts kt pt) (.Call (.Name "zip" p) [a, b] [] pos) (aZip fa fb) :=
 ⟨PI.weak (PI.or (zfn hg hm h1.out h2.out hs hs2) (zfm hg hm h1.out h2.out hs hs2)) fun σ H R hh => ex3 hh fun α ρ m W hr q => by
  unfold aZip at q
  cases hf : fa ρ m with
  | bad => rw [hf] at q; exact q.elim
  | exc c m1 => exact .inl (tD.exc W hr hf q)
  | ok d m1 =>
   cases hf2 : fb ρ m1 with
   | bad => rw [hf] at q; exact absurd q (by show ¬ PQ X.K cl ex ((fb ρ m1).bind _) _ _ _; rw [hf2]; exact fun z => z)
   | exc c m2 =>
    refine .inl (tD.at W hr hf fun α1 H1 v E1 W1 hr1 rv => ?_)
    rw [hf] at q
    exact tD.exc (k := fun y m2 => zlR d y m2) W1 hr1 hf2 (PQ.mono E1 q fun _ _ _ _ _ _ z => z)
   | ok d2 m2 =>
    rw [hf] at q
    have q' : PQ X.K cl ex ((fb ρ m1).bind fun y m2 => zlR d y m2) α H fun ds α' _ H' => ∀ J, ItD X.K cl α' H' J ds -> R J H' := q
    rw [hf2] at q'
    have q2 : PQ X.K cl ex (zlR d d2 m2) α H fun ds α' _ H' => ∀ J, ItD X.K cl α' H' J ds -> R J H' := q'
    unfold zlR at q2
    split at q2
    ·obtain ⟨hl, q3⟩ := PQ.if q2
     refine .inr (tD.at W hr hf fun α1 H1 v E1 W1 hr1 rv => tD.at W1 hr1 hf2 fun α2 H2 v2 E2 W2 hr2 rv2 => ?_)
     have rv := rv.mono W1 E2
     rw [Rep] at rv rv2
     obtain ⟨l1, vs, rfl, h1, r1⟩ := rv
     obtain ⟨l2, us, rfl, h2, r2⟩ := rv2
     exact ⟨l1, l2, vs, us, rfl, h1.sq, h2.sq, q3 α2 H2 (E1.trans E2) W2 _ (zio W2 (zcb W2 h1.sq) (zcb W2 h2.sq) r1 r2 hl)⟩
    ·obtain ⟨hl, q3⟩ := PQ.if q2
     refine .inl (tD.at W hr hf fun α1 H1 v E1 W1 hr1 rv => tD.at W1 hr1 hf2 fun α2 H2 v2 E2 W2 hr2 rv2 => ?_)
     have rv := rv.mono W1 E2
     rw [Rep] at rv; rw [Rep] at rv2
     obtain ⟨l1, vs, rfl, h1, r1⟩ := rv
     obtain ⟨l2, us, rfl, n, h2, r2⟩ := rv2
     exact ⟨l1, l2, vs, us, rfl, h1.sq, .inl h2, q3 α2 H2 (E1.trans E2) W2 _ (zio W2 (zcb W2 h1.sq) (zdb n h2) r1 r2 hl)⟩
    ·exact q2.elim⟩
end
def zgL (fl : Fl) (m : Sto) : Res D := match fl with
 | .nx _ => .ok .non m
 | .rt d => .ok d m
 | _ => .bad
def zbR (n : Nat) (body : SV) : List D -> Sto -> Res D := fun ds m => (body (ds.map some ++ List.replicate (n - ds.length) none) m).bind zgL
def spD (K : PySem.W.Frag) (cl : Str -> Addr) (ex : XD) (n : Nat) (g : List D -> Sto -> Res D) : Sp := fun vs H Q _ => vs.length = n /\ ∃ α m ds, Wd K cl α m H /\ RepL K α H ds vs /\ PQ K cl ex (g ds m) α H fun d α' _ H' => ∀ v, Rep K α' H' d v -> Q v H'
theorem zcI {K : PySem.W.Frag} {α : List Addr} {H : Hp} {N : List Str} : ∀ {ds : List D} {vs : List V}, RepL K α H ds vs -> RepE K α H (ds.map some ++ List.replicate (N.length - ds.length) none) (L2.start N vs) := by
 intro ds vs r
 unfold L2.start
 rw [r.length]
 refine RepE.more ⟨by rw [List.length_map, List.length_map, r.length], fun i d e => ?_⟩ _
 rw [List.getElem?_map] at e
 cases h : ds[i]? with
 | none => rw [h] at e; cases e
 | some d' =>
  rw [h] at e
  cases e
  obtain ⟨v, h1, h2⟩ := r.get h
  exact ⟨v, by rw [List.getElem?_map, h1]; rfl, h2⟩
theorem fn_d {K : PySem.W.Frag} {cl : Str -> Addr} {ex : XD} {n : Nat} {N : List Str} {body : SV} {vs : List V} {H : Hp} {Q : VK} {E : XK} (h : spD K cl ex n (zbR N.length body) vs H Q E) : tDS K cl ex body { nx := fun _ H' => Q .non H', rt := Q } (L2.start N vs) H := by
 obtain ⟨_, α, m, ds, W, r, q⟩ := h
 refine ⟨α, _, m, W, zcI r, PQ.mono (Ext.refl W) q.bind fun fl α1 m1 H1 E1 W1 q1 => ?_⟩
 cases fl with
 | nx ρ => exact fun σ _ => PQ.ok W1 q1 _ (by rw [Rep])
 | rt d => exact PQ.ok W1 q1
 | bk ρ => exact q1.elim
 | ct ρ => exact q1.elim
def X0 : XD := fun _ _ _ _ => False
theorem zmU {X : Cx} {cl : Str -> Addr} {e : Expr} {es : List Expr} {fr : AV} {p pos : Pos} {x : Str} {k n : Nat} {f : Addr} {fd : FuncData} {ps : List Str} {g : List D -> Sto -> Res D} (F : FnOk X.prog X.w X.K X.mg X.base CX0 k f fd ps (spD X.K cl X0 n g)) (hn : n = (e :: es).length) (hr : Room k X.A) (hg : Gl X x) (hm : X.mg x = some (.ref f)) (hk : PySem.W.keepIn X.K (.ref f) = true) (hb : Binds X.K fd ps [])
  (ha : QA X cl X0 (e :: es) fr) (hlen : ∀ ρ m ds m1, fr ρ m = .ok ds m1 -> ds.length = (e :: es).length) (hdb : autoParam ((x == ("__debug__" : Str)) = false) AutoP.a1._auto_1) (he : autoParam (starEach (e :: es) X.env = (false, eval e X.env) :: starEach es X.env) AutoP.a3._auto_1) (hpl : autoParam ((backTo pos (starEach es X.env)).any (·.1) = false) AutoP.a3._auto_1) :
  QE X cl X0 (.Call (.Name x p) (e :: es) [] pos) (eFn g fr) :=
 ⟨PE.weak (znf (E := E0) F hr hg hm hk hb .nil pass0 ha.out hdb he hpl) fun σ H Q hh => ex3 hh fun α ρ m W hr h => by
  unfold eFn at h
  cases hf : fr ρ m with
  | bad => rw [hf] at h; exact h.elim
  | exc c m1 => exact tDA.exc W hr hf h
  | ok ds m1 =>
   rw [hf] at h
   refine tDA.at W hr hf fun α1 H1 v E1 W1 hr1 rv => ?_
   refine ⟨?_, α1, m1, ds, W1, by rw [List.append_nil]; exact rv, PQ.mono E1 h fun _ _ _ _ _ _ z => z⟩
   rw [List.append_nil, <- rv.length, hlen ρ m ds m1 hf, hn]⟩
theorem aNil_len : ∀ ρ m ds m1, zak ρ m = .ok ds m1 -> ds.length = ([] : List Expr).length := fun ρ m ds m1 h => by cases h; rfl
theorem aCons_len {fa : EV} {fr : AV} {e : Expr} {es : List Expr} (h : ∀ ρ m ds m1, fr ρ m = .ok ds m1 -> ds.length = es.length) : ∀ ρ m ds m1, zac fa fr ρ m = .ok ds m1 -> ds.length = (e :: es).length := fun ρ m ds m1 q => by
 unfold zac at q
 cases hf : fa ρ m with
 | ok x m2 =>
  rw [hf] at q
  have q : ((fr ρ m2).bind fun xs m3 => Res.ok (x :: xs) m3) = .ok ds m1 := q
  cases hr : fr ρ m2 with
  | ok xs m3 => rw [hr] at q; cases q; rw [List.length_cons, List.length_cons, h ρ m2 xs _ hr]
  | _ => rw [hr] at q; cases q
 | _ => rw [hf] at q; cases q
end MD
set_option autoImplicit false
namespace L2
open PySem PySem.Spec PyProof.Rows
section
variable {X : Cx}
def rCatQ (K : PySem.W.Frag) : R2 := fun x y H Q => ∃ a b xs ys, x = .ref a /\ y = .ref b /\ MD.TupAt K H a xs /\ MD.TupAt K H b ys /\ xs.length + ys.length <= sizeLine /\ ∀ r H', MD.TupAt K H' r (xs ++ ys) -> Same H H' -> Q (.ref r) H'
end
end L2
namespace MD
open PySem PySem.Spec PyProof.Rows L2
def zaW (x y : D) (m : Sto) : Res D := match x, y with
 | .int i, .int j => .ok (.int (i + j)) m
 | .str a, .str b => if a.length + b.length <= sizeLine then .ok (.str (a ++ b)) m else .bad
 | .tup a, .tup b => if a.length + b.length <= sizeLine then .ok (.tup (a ++ b)) m else .bad
 | .lst a, .lst b => if a.length + b.length <= sizeLine then .ok (.lst (a ++ b)) m else .bad
 | _, _ => .bad
def zkS (x y : D) (m : Sto) : Res D := match x, y with
 | .int i, .int j => .ok (.int (i - j)) m
 | _, _ => .bad
def mulR (x y : D) (m : Sto) : Res D := match x, y with
 | .int i, .int j => if (-(2 ^ 64) < i /\ i < 2 ^ 64) ∨ (-(2 ^ 64) < j /\ j < 2 ^ 64) then .ok (.int (i * j)) m else .bad
 | .str z, .int n => if 0 <= n /\ n <= 1000 /\ z.length <= 1000 then .ok (.str (Txt.mul z n)) m else .bad
 | .tup [d], .int n => if 1 <= n /\ n <= 1000 then .ok (.tup (List.replicate n.toNat d)) m else .bad
 | _, _ => .bad
theorem zjJ : ∃ f : D -> D -> Sto -> Res D, f = mulR := ⟨_, rfl⟩
def zc2 : D -> D -> Sto -> Res D := Classical.choose zjJ
theorem zeS : zc2 = mulR := Classical.choose_spec zjJ
def znO (x y : D) (m : Sto) : Res D := match x, y with
 | .int i, .int j => if 0 < j /\ j < 2 ^ 64 then .ok (.int (i / j)) m else .bad
 | _, _ => .bad
theorem zhB : ∃ f : D -> D -> Sto -> Res D, f = znO := ⟨_, rfl⟩
def zeX : D -> D -> Sto -> Res D := Classical.choose zhB
theorem zhC : zeX = znO := Classical.choose_spec zhB
def zdU (x y : D) (m : Sto) : Res D := match x, y with
 | .int i, .int j => if 0 < j then .ok (.int (i % j)) m else .bad
 | _, _ => .bad
def zm4 (x y : D) (m : Sto) : Res D := match x, y with
 | .int i, .int j => if 0 <= j /\ j <= 1000000 /\ i.natAbs < 2 ^ 64 then .ok (.int (i ^ j.toNat)) m else .bad
 | _, _ => .bad
theorem zjn : ∃ f : D -> D -> Sto -> Res D, f = zm4 := ⟨_, rfl⟩
def zfl : D -> D -> Sto -> Res D := Classical.choose zjn
theorem zdt : zfl = zm4 := Classical.choose_spec zjn
def shlR (x y : D) (m : Sto) : Res D := match x, y with
 | .int i, .int j => if 0 <= j /\ j <= 1000000 /\ i.natAbs < 2 ^ 64 then .ok (.int (i * 2 ^ j.toNat)) m else .bad
 | _, _ => .bad
theorem ziT : ∃ f : D -> D -> Sto -> Res D, f = shlR := ⟨_, rfl⟩
def zkV : D -> D -> Sto -> Res D := Classical.choose ziT
theorem ziU : zkV = shlR := Classical.choose_spec ziT
def zma (x : D) (m : Sto) : Res D := match x with
 | .int i => .ok (.int (-i)) m
 | _ => .bad
section
variable {X : Cx} {K : PySem.W.Frag} {cl : Str -> Addr} {ex : XD}
theorem zdP {α : List Addr} {H : Hp} {i : Int} : Rep K α H (.int i) (.int i) := by rw [Rep]
theorem zjd {α : List Addr} {H : Hp} {i : Str} : Rep K α H (.str i) (.str i) := by rw [Rep]
theorem zd4 {α : List Addr} {H : Hp} {i : Bool} : Rep K α H (.bl i) (.bl i) := by rw [Rep]
theorem repN {α : List Addr} {H : Hp} : Rep K α H .non .non := by rw [Rep]
theorem zeb : OpD K cl ex (rI0 fun i j => .int (i - j)) zkS := fun α m H x y vx vy Q W rx ry h => by
 unfold zkS at h
 split at h
 ·rw [Rep] at rx ry; exact ⟨_, _, rx, ry, PQ.ok W h _ zdP⟩
 ·exact h.elim
theorem zgy : OpD K cl ex (rI (fun _ j => 0 < j /\ j < 2 ^ 64) fun i j => .int (i / j)) zeX := fun α m H x y vx vy Q W rx ry h => by
 rw [zhC] at h; unfold znO at h
 split at h
 ·rw [Rep] at rx ry; obtain ⟨hc, h⟩ := PQ.if h; exact ⟨_, _, rx, ry, hc, PQ.ok W h _ zdP⟩
 ·exact h.elim
theorem zbJ : OpD K cl ex (rI (fun _ j => 0 < j) fun i j => .int (i % j)) zdU := fun α m H x y vx vy Q W rx ry h => by
 unfold zdU at h
 split at h
 ·rw [Rep] at rx ry; obtain ⟨hc, h⟩ := PQ.if h; exact ⟨_, _, rx, ry, hc, PQ.ok W h _ zdP⟩
 ·exact h.elim
theorem zcx : OpD K cl ex (rI CPow fun i j => .int (i ^ j.toNat)) zfl := fun α m H x y vx vy Q W rx ry h => by
 rw [zdt] at h; unfold zm4 at h
 split at h
 ·rw [Rep] at rx ry; obtain ⟨hc, h⟩ := PQ.if h; exact ⟨_, _, rx, ry, hc, PQ.ok W h _ zdP⟩
 ·exact h.elim
theorem zfu : OpD K cl ex (rI CPow fun i j => .int (i * 2 ^ j.toNat)) zkV := fun α m H x y vx vy Q W rx ry h => by
 rw [ziU] at h; unfold shlR at h
 split at h
 ·rw [Rep] at rx ry; obtain ⟨hc, h⟩ := PQ.if h; exact ⟨_, _, rx, ry, hc, PQ.ok W h _ zdP⟩
 ·exact h.elim
theorem zlT : UnD K cl ex (rU fun i => .int (-i)) zma := fun α m H x vx Q W rx h => by
 unfold zma at h
 split at h
 ·rw [Rep] at rx; exact ⟨_, rx, PQ.ok W h _ zdP⟩
 ·exact h.elim
theorem znl : OpR X (binaryOp .Add) (rCatQ X.K) := by
 intro pins s σ H x y v u Q I rx ry h
 obtain ⟨a, b, xs, ys, rfl, rfl, ha, hb, hz, q⟩ := h
 by_cases hx : xs = []
 ·subst hx
  cases rx
  cases ry
  obtain ⟨its, r1, p1, _⟩ := I.tuple ha.sq
  obtain ⟨its2, r2, p2, _⟩ := I.tuple hb.sq
  cases r1
  obtain ⟨⟨cls, dd, data, sl⟩, ho, hc, n, hd⟩ := id p1
  obtain ⟨⟨cls2, dd2, data2, sl2⟩, ho2, hc2, n2, hd2⟩ := id p2
  simp only at hc hd hc2 hd2
  subst hc hd hc2 hd2
  exact concat_meets ⟨_, ho, rfl⟩ ⟨_, ho2, rfl⟩ noFill_tuple_add seq_tuple_add PySem.F.slot_tuple_add PySem.F.entry_tuple_add (PySem.F.args_tuple_add_2 _ _)
   (tuple_addW0 a b #[] its2.toArray n n2 dd dd2 sl sl2 rfl) ⟨ho, ho2, ⟨.ref b, H, I, rfl, q b H (by rw [List.nil_append]; exact hb) (L2.Same.refl H)⟩⟩
 ·refine znj pins s σ H (.ref a) (.ref b) v u Q I rx ry ⟨a, b, xs, ys, rfl, rfl, ha.sq, hb.sq, hx, hz, fun e => ?_, fun _ p hp => ?_⟩
  ·subst e
   exact q a H (by rw [List.append_nil]; exact ha) (L2.Same.refl H)
  ·exact q p _ (.inl zap) (MD.Same.new hp)
def rCatR : R2 := fun x y H Q => ∃ l b xs zs, x = .ref l /\ y = .ref b /\ Rd H l (.lst xs) /\ Rd H b (.lst zs) /\ xs.length + zs.length <= sizeLine /\ ∀ p, H p = none -> Q (.ref p) (upd H p (.lst (xs ++ zs)))
theorem znk : OpR X (binaryOp .Add) rCatR := by
 intro pins s σ H x y v u Q I rx ry h
 obtain ⟨l, b, xs, zs, rfl, rfl, hH, hB, hz, q⟩ := h
 cases rx
 cases ry
 obtain ⟨z, its, n, r, e⟩ := hH.ok I.hok
 obtain ⟨z2, its2, n2, r2, e2⟩ := hB.ok I.hok
 have hl := r.length
 have hl2 := r2.length
 refine PySem.P.add_list e e2 ?_ (by rw [List.size_toArray, List.size_toArray]; omega)
 have ea : its.toArray ++ its2.toArray = (its ++ its2).toArray := by simp
 rw [ea]
 exact ⟨.ref _, _, I.lnew (t' := s.toks) (r.append r2) (by rw [List.length_append]; omega), rfl, q _ I.fresh⟩
def rAddA (K : PySem.W.Frag) : R2 := fun x y H Q => (rI0 (fun i j => .int (i + j))) x y H Q ∨ (∃ i j, x = .str i /\ y = .str j /\ i.length + j.length <= sizeLine /\ Q (.str (i ++ j)) H) ∨ rCatQ K x y H Q ∨ rCatR x y H Q
theorem zaq : OpR X (binaryOp .Add) (rAddA X.K) := OpR.or op_add (OpR.or zh8 (OpR.or znl znk))
theorem zau : OpD K cl ex (rAddA K) zaW := fun α m H x y vx vy Q W rx ry h => by
 unfold zaW at h
 split at h
 ·rw [Rep] at rx ry; exact .inl ⟨_, _, rx, ry, PQ.ok W h _ zdP⟩
 ·rw [Rep] at rx ry; obtain ⟨hc, h⟩ := PQ.if h; exact .inr (.inl ⟨_, _, rx, ry, hc, PQ.ok W h _ zjd⟩)
 ·obtain ⟨hc, h⟩ := PQ.if h
  rw [Rep] at rx ry
  obtain ⟨a, xs, rfl, h1, r1⟩ := rx
  obtain ⟨b, ys, rfl, h2, r2⟩ := ry
  refine .inr (.inr (.inl ⟨a, b, xs, ys, rfl, rfl, h1, h2, by rw [<- r1.length, <- r2.length]; exact hc, fun r H' hr sm => ?_⟩))
  exact PQ.okS W sm h _ (by rw [Rep]; exact ⟨r, _, rfl, hr, (RepL.append r1 r2).mono W (Ext.of_same W sm)⟩)
 ·obtain ⟨hc, h⟩ := PQ.if h
  rw [Rep] at rx ry
  obtain ⟨a, xs, rfl, n1, h1, r1⟩ := rx
  obtain ⟨b, ys, rfl, n2, h2, r2⟩ := ry
  refine .inr (.inr (.inr ⟨a, b, xs, ys, rfl, rfl, h1, h2, by rw [<- r1.length, <- r2.length]; exact hc, fun p hp => ?_⟩))
  exact PQ.okS W (Same.new hp) h _ (zbr W hp (RepL.append r1 r2))
 ·exact h.elim
def rMulQ (K : PySem.W.Frag) : R2 := fun x y H Q => ∃ a v n, x = .ref a /\ y = .int n /\ TupAt K H a [v] /\ 1 <= n /\ n <= 1000 /\ ∀ r H', TupAt K H' r (List.replicate n.toNat v) -> L2.Same H H' -> Q (.ref r) H'
theorem zni : OpR X (binaryOp .Mult) (rMulQ X.K) := by
 intro pins s σ H x y v u Q I rx ry h
 obtain ⟨a, w, n, rfl, rfl, ha, n1, n2, q⟩ := h
 cases rx
 obtain ⟨t, rfl⟩ := ry
 obtain ⟨its, r1, p1, _⟩ := I.tuple ha.sq
 obtain ⟨u, rfl, ru⟩ := zbC r1
 obtain ⟨⟨cls, dd, data, sl⟩, ho, hc, k, hd⟩ := id p1
 simp only at hc hd
 subst hc hd
 refine wpAny_binaryOp_repeat_ref (by decide) ⟨_, ho, rfl⟩ (fun s' => typeIs_int s' n t) zc1 F.fills_int_mul F.slot_int_rmul zfe F.slot_int_index.lookup
  (call_meets F.slot_int_rmul (typeIs_int s n t) F.entry_int_rmul (F.args_int_rmul_2 _ _) (zfI n t a _ k dd sl) ⟨ho, rfl, ⟨_, ho, rfl⟩, ?_⟩)
 by_cases e : n = 1
 ·subst e
  exact call_meets F.slot_tuple_mul ⟨_, ho, rfl⟩ F.entry_tuple_mul (F.args_tuple_mul_2 _ _) (zkP a u t k dd sl) ⟨ho, ⟨.ref a, H, I, rfl, q a H ha (L2.Same.refl H)⟩⟩
 ·refine call_meets F.slot_tuple_mul ⟨_, ho, rfl⟩ F.entry_tuple_mul (F.args_tuple_mul_2 _ _) (zkO a u n t k dd sl (by omega) n2) ⟨ho, ?_⟩
  rw [zhz]
  have z : (List.replicate n.toNat w).length <= sizeLine := by
   rw [List.length_replicate]
   have : sizeLine = 16777216 := by decide
   omega
  exact ⟨.ref s.heap.objs.size, upd H s.heap.objs.size (.tup (List.replicate n.toNat w)), I.laid (t' := s.toks) (fun b o e => Heap.get?_push_of_some _ e) (Nat.le_refl _) ⟨z, List.replicate n.toNat u, zg2 ru _, ⟨_, Heap.get?_push_size _ rfl, rfl, 0, rfl⟩, _, Heap.get?_push_size _ rfl, rfl⟩, rfl, q _ _ (.inl zap) (Same.new (I.hok.fresh (Nat.le_refl _)))⟩
theorem zgA {z : Str} {n : Int} (h : 0 <= n /\ n <= 1000 /\ z.length <= 1000) : MulOk z n := by
 obtain ⟨h0, h1, h2⟩ := h
 refine ⟨by simp; omega, fun h3 _ => ?_, fun h3 _ => ?_⟩
 ·have h4 : (1000 : Int) <= (2 ^ 63 - 1) / n := (Int.le_ediv_iff_mul_le (by omega)).mpr (by omega)
  omega
 ·have h6 : z.length * n.toNat <= 1000 * 1000 := Nat.mul_le_mul h2 (by omega)
  have h7 := sizeLine_eq
  unfold Builtin.Str.tooLong
  simp
  omega
def rMulA (K : PySem.W.Frag) : R2 := fun x y H Q => (rI CMul fun i j => .int (i * j)) x y H Q ∨ (∃ z n, x = .str z /\ y = .int n /\ MulOk z n /\ Q (.str (Txt.mul z n)) H) ∨ rMulQ K x y H Q
theorem zaY : OpR X (binaryOp .Mult) (rMulA X.K) := OpR.or op_mul (OpR.or zh7 zni)
theorem RepL.rep {α : List Addr} {H : Hp} {d : D} {v : V} (h : Rep K α H d v) : ∀ n : Nat, RepL K α H (List.replicate n d) (List.replicate n v)
 | 0 => by simp [RepL]
 | n + 1 => by
  rw [List.replicate_succ, List.replicate_succ, RepL]
  exact ⟨v, _, rfl, h, RepL.rep h n⟩
theorem zbp : OpD K cl ex (rMulA K) zc2 := fun α m H x y vx vy Q W rx ry h => by
 rw [zeS] at h; unfold mulR at h
 split at h
 ·rw [Rep] at rx ry; obtain ⟨hc, h⟩ := PQ.if h; exact .inl ⟨_, _, rx, ry, hc, PQ.ok W h _ zdP⟩
 ·rw [Rep] at rx; rw [Rep] at ry; obtain ⟨hc, h⟩ := PQ.if h; exact .inr (.inl ⟨_, _, rx, ry, zgA hc, PQ.ok W h _ zjd⟩)
 ·obtain ⟨hc, h⟩ := PQ.if h
  rw [Rep] at rx
  rw [Rep] at ry
  obtain ⟨a, xs, rfl, h1, r1⟩ := rx
  rw [RepL] at r1
  obtain ⟨v, r, rfl, rv, r2⟩ := r1
  rw [RepL] at r2
  subst r2
  refine .inr (.inr ⟨a, v, _, rfl, ry, h1, hc.1, hc.2, fun r H' hr sm => ?_⟩)
  exact PQ.okS W sm h _ (by rw [Rep]; exact ⟨r, _, rfl, hr, (RepL.rep rv _).mono W (Ext.of_same W sm)⟩)
 ·exact h.elim
end
mutual
def py : D -> PyData
 | .bl b => .bool b
 | .int i => .int i
 | .str x => .str x
 | .tup ds => .tuple (pyL ds)
 | .lst ds => .list (pyL ds)
 | _ => .none
def pyL : List D -> List PyData
 | [] => []
 | d :: r => py d :: pyL r
end
mutual
def zco : D -> Bool
 | .non => true
 | .bl _ => true
 | .int _ => true
 | .str _ => true
 | .tup ds => pyOkL ds
 | .lst ds => pyOkL ds
 | _ => false
def pyOkL : List D -> Bool
 | [] => true
 | d :: r => zco d && pyOkL r
end
def deep (d : D) : Bool := zco d && SeqAt.shaped (py d)
def eqB (x y : D) : Option Bool := match x, y with
 | .int i, .int j => some (decide (i = j))
 | .str a, .str b => some (decide (a = b))
 | .bl a, .bl b => some (decide (a = b))
 | .non, .non => some true
 | .non, .int _ => some false
 | .non, .str _ => some false
 | .non, .bl _ => some false
 | .int _, .non => some false
 | .str _, .non => some false
 | .bl _, .non => some false
 | .int _, .str _ => some false
 | .str _, .int _ => some false
 | .bl _, .str _ => some false
 | .str _, .bl _ => some false
 | x, y => if deep x && deep y then some (PyData.eqv (py x) (py y)) else none
def rs (m : Sto) (d : D) : D := match d with
 | .ob k => match m[k]? with
  | some (.lst xs) => .lst xs
  | _ => .ob k
 | d => d
def eqD (x y : D) (m : Sto) : Res D := match eqB (rs m x) (rs m y) with
 | some b => .ok (.bl b) m
 | none => .bad
def neD (x y : D) (m : Sto) : Res D := match eqB (rs m x) (rs m y) with
 | some b => .ok (.bl (!b)) m
 | none => .bad
section
variable {X : Cx} {K : PySem.W.Frag} {cl : Str -> Addr} {ex : XD} {pins : List (Addr × Obj)} {σ : L2.St} {H : Hp} {s : Shared} {α : List Addr}
mutual
theorem zbv (I : Inv X pins σ H s) : ∀ {d : D} {v : V} {u : Value}, zco d = true -> Rep X.K α H d v -> RelV v u -> ∃ as, Reads s.heap u (py d) as
 | .non, v, u, _, r, rv => by rw [Rep] at r; subst r; cases rv; exact ⟨_, .none⟩
 | .bl b, v, u, _, r, rv => by rw [Rep] at r; subst r; cases rv; exact ⟨_, .bool b⟩
 | .int i, v, u, _, r, rv => by rw [Rep] at r; subst r; obtain ⟨t, rfl⟩ := rv; exact ⟨_, .int i t⟩
 | .str x, v, u, _, r, rv => by rw [Rep] at r; subst r; obtain ⟨t, rfl⟩ := rv; exact ⟨_, .str x t⟩
 | .tup ds, v, u, ok, r, rv => by
  rw [Rep] at r
  obtain ⟨a, xs, rfl, h1, h2⟩ := r
  cases rv
  obtain ⟨its, r1, ⟨o, e1, e2, n, e3⟩, _⟩ := I.tuple h1.sq
  obtain ⟨as, h⟩ := rep_readsL I (by rw [zco] at ok; exact ok) h2 r1
  exact ⟨as, .tuple e1 e2 e3 (by simpa using h)⟩
 | .lst ds, v, u, ok, r, rv => by
  rw [Rep] at r
  obtain ⟨a, xs, rfl, _, h1, h2⟩ := r
  cases rv
  obtain ⟨its, r1, ⟨o, n, e1, e2, _, e3⟩, _⟩ := I.list (xs := xs) (.inl h1)
  obtain ⟨as, h⟩ := rep_readsL I (by rw [zco] at ok; exact ok) h2 r1
  exact ⟨_, .list e1 e2 e3 (by simpa using h)⟩
 | .flt _, _, _, ok, _, _ => by simp [zco] at ok
 | .byt _, _, _, ok, _, _ => by simp [zco] at ok
 | .exn _ _, _, _, ok, _, _ => by simp [zco] at ok
 | .ob _, _, _, ok, _, _ => by simp [zco] at ok
 | .scr _, _, _, ok, _, _ => by simp [zco] at ok
theorem rep_readsL (I : Inv X pins σ H s) : ∀ {ds : List D} {vs : List V} {us : List Value}, pyOkL ds = true -> RepL X.K α H ds vs -> Vals vs us -> ∃ as, ReadsAll s.heap us (pyL ds) as
 | [], vs, us, _, r, rv => by rw [RepL] at r; subst r; cases rv; exact ⟨_, .nil⟩
 | d :: ds, vs, us, ok, r, rv => by
  rw [RepL] at r
  obtain ⟨v, r', rfl, h1, h2⟩ := r
  rw [pyOkL, Bool.and_eq_true] at ok
  cases rv with
  | cons a b =>
   obtain ⟨as, q1⟩ := zbv I ok.1 h1 a
   obtain ⟨bs, q2⟩ := rep_readsL I ok.2 h2 b
   exact ⟨_, .cons q1 q2⟩
end
def zk2 (K : PySem.W.Frag) (f : Bool -> Bool) : R2 := fun vx vy H Q => ∃ x y α, Rep K α H x vx /\ Rep K α H y vy /\ deep x = true /\ deep y = true /\ Q (.bl (f (PyData.eqv (py x) (py y)))) H
theorem zjA (hu : X.A.units + 64 < cLine) : OpR X (compareOp .Eq) (zk2 X.K id) := by
 intro pins s σ H vx vy v u Q I rx ry h
 obtain ⟨x, y, α, r1, r2, d1, d2, q⟩ := h
 rw [deep, Bool.and_eq_true] at d1 d2
 obtain ⟨as, h1⟩ := zbv I d1.1 r1 rx
 obtain ⟨bs, h2⟩ := zbv I d2.1 r2 ry
 exact eq_dataH h1 h2 d1.2 d2.2 hu ⟨.bl _, H, I, rfl, q⟩
theorem zjw (hu : X.A.units + 64 < cLine) : OpR X (compareOp .NotEq) (zk2 X.K not) := by
 intro pins s σ H vx vy v u Q I rx ry h
 obtain ⟨x, y, α, r1, r2, d1, d2, q⟩ := h
 rw [deep, Bool.and_eq_true] at d1 d2
 obtain ⟨as, h1⟩ := zbv I d1.1 r1 rx
 obtain ⟨bs, h2⟩ := zbv I d2.1 r2 ry
 exact ne_dataH h1 h2 d1.2 d2.2 hu ⟨.bl _, H, I, rfl, q⟩
def rEqA (K : PySem.W.Frag) : R2 := fun x y H Q => rEq x y H Q ∨ zk2 K id x y H Q
def rNeA (K : PySem.W.Frag) : R2 := fun x y H Q => rNe x y H Q ∨ zk2 K not x y H Q
theorem za8 (hu : X.A.units + 64 < cLine) : OpR X (compareOp .Eq) (rEqA X.K) := OpR.or op_eq (zjA hu)
theorem zcw (hu : X.A.units + 64 < cLine) : OpR X (compareOp .NotEq) (rNeA X.K) := OpR.or op_ne (zjw hu)
mutual
theorem Rep.bare {K : PySem.W.Frag} {α : List Addr} {H : Hp} : ∀ {d : D} {v : V}, zco d = true -> Rep K α H d v -> Rep K [] H d v
 | .non, _, _, h => by simpa [Rep] using h
 | .bl _, _, _, h => by simpa [Rep] using h
 | .int _, _, _, h => by simpa [Rep] using h
 | .str _, _, _, h => by simpa [Rep] using h
 | .flt _, _, c, _ => by simp [zco] at c
 | .byt _, _, c, _ => by simp [zco] at c
 | .exn _ _, _, c, _ => by simp [zco] at c
 | .ob _, _, c, _ => by simp [zco] at c
 | .scr _, _, c, _ => by simp [zco] at c
 | .tup ds, _, c, h => by
  rw [Rep] at h ⊢
  obtain ⟨a, xs, e, h1, h2⟩ := h
  rw [zco] at c
  exact ⟨a, xs, e, h1, RepL.bare c h2⟩
 | .lst ds, _, c, h => by
  rw [Rep] at h ⊢
  obtain ⟨a, xs, e, n, h1, h2⟩ := h
  rw [zco] at c
  exact ⟨a, xs, e, (by simp), h1, RepL.bare c h2⟩
theorem RepL.bare {K : PySem.W.Frag} {α : List Addr} {H : Hp} : ∀ {ds : List D} {vs : List V}, pyOkL ds = true -> RepL K α H ds vs -> RepL K [] H ds vs
 | [], _, _, h => by rw [RepL] at h ⊢; exact h
 | _ :: _, _, c, h => by
  rw [RepL] at h ⊢
  obtain ⟨v, r, e, h1, h2⟩ := h
  rw [pyOkL, Bool.and_eq_true] at c
  exact ⟨v, r, e, Rep.bare c.1 h1, RepL.bare c.2 h2⟩
end
def RepW (K : PySem.W.Frag) (α : List Addr) (H : Hp) (x : D) (v : V) : Prop := Rep K α H x v ∨ ∃ xs a ys, x = .lst xs /\ v = .ref a /\ H a = some (.lst ys) /\ RepL K α H xs ys
theorem RepW.bare {x : D} {v : V} (c : deep x = true) (h : RepW K α H x v) : Rep K [] H x v := by
 rw [deep, Bool.and_eq_true] at c
 rcases h with h | ⟨xs, a, ys, rfl, rfl, h1, h2⟩
 ·exact h.bare c.1
 ·rw [Rep]
  have c1 := c.1
  rw [zco] at c1
  exact ⟨a, ys, rfl, (by simp), .inl h1, h2.bare c1⟩
theorem zhf {m : Sto} (W : Wd K cl α m H) {x : D} {v : V} (r : Rep K α H x v) : RepW K α H (rs m x) v := by
 unfold rs
 split
 ·split
  ·rename_i xs hx
   rw [Rep] at r
   obtain ⟨a, h1, rfl⟩ := r
   obtain ⟨ys, h2, h3⟩ := (show MoRep K cl α H a (.lst xs) from W.at' _ a _ h1 hx)
   exact .inr ⟨_, a, ys, rfl, rfl, h2, h3⟩
  ·exact .inl r
 ·exact .inl r
theorem zkn {x y : D} {vx vy : V} {b : Bool} (e : eqB x y = some b) (rx : RepW K α H x vx) (ry : RepW K α H y vy) : (scal vx vy = true /\ decide (vx = vy) = b) ∨ (deep x = true /\ deep y = true /\ PyData.eqv (py x) (py y) = b) := by
 unfold eqB at e
 split at e
 case h_15 =>
  split at e
  ·rename_i hc
   rw [Bool.and_eq_true] at hc
   exact .inr ⟨hc.1, hc.2, Option.some.inj e⟩
  ·cases e
 all_goals (
  rcases rx with rx | ⟨_, _, _, z, _⟩
  case inr => cases z
  rcases ry with ry | ⟨_, _, _, z, _⟩
  case inr => cases z
  rw [Rep] at rx; rw [Rep] at ry; subst rx ry; refine .inl ⟨rfl, ?_⟩; rw [<- Option.some.inj e]; simp)
theorem zb6 : OpD K cl ex (rEqA K) eqD := fun α m H x y vx vy Q W rx ry h => by
 unfold eqD at h
 split at h
 ·rename_i b e
  have rx := zhf W rx
  have ry := zhf W ry
  rcases zkn e rx ry with ⟨h1, h2⟩ | ⟨h1, h2, h3⟩
  ·exact .inl ⟨h1, by rw [h2]; exact PQ.ok W h _ zd4⟩
  ·exact .inr ⟨_, _, [], rx.bare h1, ry.bare h2, h1, h2, by rw [h3]; exact PQ.ok W h _ zd4⟩
 ·exact h.elim
theorem zeP : OpD K cl ex (rNeA K) neD := fun α m H x y vx vy Q W rx ry h => by
 unfold neD at h
 split at h
 ·rename_i b e
  have rx := zhf W rx
  have ry := zhf W ry
  rcases zkn e rx ry with ⟨h1, h2⟩ | ⟨h1, h2, h3⟩
  ·exact .inl ⟨h1, by rw [h2]; exact PQ.ok W h _ zd4⟩
  ·exact .inr ⟨_, _, [], rx.bare h1, ry.bare h2, h1, h2, by rw [h3]; exact PQ.ok W h _ zd4⟩
 ·exact h.elim
end
def ltS (x y : Str) : Bool := decide (x.cps.toList < y.cps.toList)
def ltD (x y : D) (m : Sto) : Res D := match x, y with
 | .int i, .int j => .ok (.bl (decide (i < j))) m
 | .str a, .str b => .ok (.bl (ltS a b)) m
 | _, _ => .bad
def leD (x y : D) (m : Sto) : Res D := match x, y with
 | .int i, .int j => .ok (.bl (decide (i <= j))) m
 | .str a, .str b => .ok (.bl (!ltS b a)) m
 | _, _ => .bad
def gtD (x y : D) (m : Sto) : Res D := match x, y with
 | .int i, .int j => .ok (.bl (decide (j < i))) m
 | _, _ => .bad
def geD (x y : D) (m : Sto) : Res D := match x, y with
 | .int i, .int j => .ok (.bl (decide (j <= i))) m
 | _, _ => .bad
def isB (x y : D) : Option Bool := match x, y with
 | .bl a, .bl b => some (a == b)
 | .non, .non => some true
 | _, .non => some false
 | _, _ => none
def isD (x y : D) (m : Sto) : Res D := match isB x y with
 | some b => .ok (.bl b) m
 | none => .bad
def isntD (x y : D) (m : Sto) : Res D := match isB x y with
 | some b => .ok (.bl (!b)) m
 | none => .bad
section
variable {X : Cx} {K : PySem.W.Frag} {cl : Str -> Addr} {ex : XD}
theorem zjy : OpR X (compareOp .LtE) (fun x y H Q => ∃ i j, x = .str i /\ y = .str j /\ Q (.bl (!ltS j i)) H) := by
 intro pins s σ H x y v u Q I rx ry h
 obtain ⟨i, j, rfl, rfl, q⟩ := h
 obtain ⟨t, rfl⟩ := rx
 obtain ⟨t', rfl⟩ := ry
 exact PySem.P.le_str (zay I q rfl)
def rLtA : R2 := fun x y H Q => (rI0 (fun i j => .bl (decide (i < j)))) x y H Q ∨ ∃ i j, x = .str i /\ y = .str j /\ Q (.bl (decide (i.cps.toList < j.cps.toList))) H
def rLeA : R2 := fun x y H Q => (rI0 (fun i j => .bl (decide (i <= j)))) x y H Q ∨ ∃ i j, x = .str i /\ y = .str j /\ Q (.bl (!ltS j i)) H
theorem zl9 : OpR X (compareOp .Lt) rLtA := OpR.or op_lt zjx
theorem zcU : OpR X (compareOp .LtE) rLeA := OpR.or op_le zjy
theorem od_lt : OpD K cl ex rLtA ltD := fun α m H x y vx vy Q W rx ry h => by
 unfold ltD at h
 split at h
 ·rw [Rep] at rx ry; exact .inl ⟨_, _, rx, ry, PQ.ok W h _ zd4⟩
 ·rw [Rep] at rx ry; exact .inr ⟨_, _, rx, ry, PQ.ok W h _ zd4⟩
 ·exact h.elim
theorem zfv : OpD K cl ex rLeA leD := fun α m H x y vx vy Q W rx ry h => by
 unfold leD at h
 split at h
 ·rw [Rep] at rx ry; exact .inl ⟨_, _, rx, ry, PQ.ok W h _ zd4⟩
 ·rw [Rep] at rx ry; exact .inr ⟨_, _, rx, ry, PQ.ok W h _ zd4⟩
 ·exact h.elim
theorem od_gt : OpD K cl ex (rI0 (fun i j => .bl (decide (j < i)))) gtD := fun α m H x y vx vy Q W rx ry h => by
 unfold gtD at h
 split at h
 ·rw [Rep] at rx ry; exact ⟨_, _, rx, ry, PQ.ok W h _ zd4⟩
 ·exact h.elim
theorem od_ge : OpD K cl ex (rI0 (fun i j => .bl (decide (j <= i)))) geD := fun α m H x y vx vy Q W rx ry h => by
 unfold geD at h
 split at h
 ·rw [Rep] at rx ry; exact ⟨_, _, rx, ry, PQ.ok W h _ zd4⟩
 ·exact h.elim
def rIs (f : Bool -> Bool) : R2 := fun x y H Q => (y = .non /\ Q (.bl (f (decide (x = .non)))) H) ∨ ∃ b c, x = .bl b /\ y = .bl c /\ Q (.bl (f (b == c))) H
theorem zfq : OpR X (compareOp .Is) (rIs id) := OpR.or op_isN op_isT
def isNon : D -> Bool
 | .non => true
 | _ => false
theorem zjc {α : List Addr} {H : Hp} {x : D} {vx : V} (rx : Rep K α H x vx) : decide (vx = .non) = isNon x := by
 cases x <;> rw [Rep] at rx
 case ob => obtain ⟨_, _, rfl⟩ := rx; rfl
 case tup => obtain ⟨_, _, rfl, _⟩ := rx; rfl
 case lst => obtain ⟨_, _, rfl, _⟩ := rx; rfl
 case scr => obtain ⟨_, _, rfl, _⟩ := rx; rfl
 case exn => obtain ⟨_, _, _, _, rfl, _⟩ := rx; rfl
 all_goals (subst rx; rfl)
theorem znE {α : List Addr} {H : Hp} {x y : D} {vx vy : V} {b : Bool} {f : Bool -> Bool} {Q : VK} (e : isB x y = some b) (rx : Rep K α H x vx) (ry : Rep K α H y vy) (q : Q (.bl (f b)) H) : rIs f vx vy H Q := by
 unfold isB at e
 split at e
 ·rw [Rep] at rx ry
  exact .inr ⟨_, _, rx, ry, by rw [Option.some.inj e]; exact q⟩
 ·have h := zjc rx
  rw [Rep] at ry
  exact .inl ⟨ry, by rw [h]; show Q (.bl (f true)) H; rw [Option.some.inj e]; exact q⟩
 ·rename_i hn
  have h := zjc rx
  rw [Rep] at ry
  refine .inl ⟨ry, ?_⟩
  have : isNon x = false := by
   cases x with
   | non => exact (hn rfl).elim
   | _ => rfl
  rw [h, this, Option.some.inj e]
  exact q
 ·cases e
theorem zjE : OpD K cl ex (rIs id) isD := fun α m H x y vx vy Q W rx ry h => by
 unfold isD at h
 split at h
 ·exact znE (f := id) ‹_› rx ry (PQ.ok W h _ zd4)
 ·exact h.elim
end
section
variable {K : PySem.W.Frag} {cl : Str -> Addr} {ex : XD} {α : List Addr} {m : Sto} {H : Hp}
theorem Wd.lst (W : Wd K cl α m H) {k : Nat} {a : Addr} {ds : List D} (h1 : α[k]? = some a) (h2 : m[k]? = some (.lst ds)) : ∃ xs, H a = some (.lst xs) /\ RepL K α H ds xs := W.at' k a _ h1 h2
theorem Wd.dct (W : Wd K cl α m H) {k : Nat} {a : Addr} {ds : List (L2.Key × D)} (h1 : α[k]? = some a) (h2 : m[k]? = some (.dct ds)) : ∃ xs, H a = some (.dK xs) /\ RepKV K α H ds xs := W.at' k a _ h1 h2
theorem Wd.set (W : Wd K cl α m H) {k : Nat} {a : Addr} {u : HO} {o : MO} (h1 : α[k]? = some a) (h2 : ∀ _ : Ext α H α (upd H a u), MoRep K cl α (upd H a u) a o) (hn : autoParam (∀ o v, H a ≠ some (.frz o v)) AutoP.a5._auto_1) : Wd K cl α (m.set k o) (upd H a u) /\ Ext α H α (upd H a u) := by
 have ha : a ∈ α := List.mem_of_getElem? h1
 have E : Ext α H α (upd H a u) := by
  refine ⟨⟨[], by simp, fun _ h => nomatch h⟩, fun b o h n => by rw [zal (fun z => n (by rw [z]; exact ha))]; exact h, fun b hb => ?_, fun b o v q => by rw [zal fun z => hn o v (by rw [<- z]; exact q)]; exact q⟩
  by_cases hba : b = a
  ·rw [hba, zap]; exact fun z => nomatch z
  ·rw [zal hba]; exact W.has hb
 refine ⟨⟨by rw [List.length_set]; exact W.len, W.nd, fun j b o' e1 e2 => ?_⟩, E⟩
 by_cases hj : k = j
 ·subst hj
  rw [h1] at e1
  cases e1
  have hk : k < m.length := by rw [<- W.len]; exact (List.getElem?_eq_some_iff.mp h1).1
  rw [List.getElem?_set_self hk] at e2
  cases e2
  exact h2 E
 ·rw [List.getElem?_set_ne hj] at e2
  have hne : b ≠ a := fun z => by
   subst z
   obtain ⟨hk, e3⟩ := List.getElem?_eq_some_iff.mp h1
   obtain ⟨hk2, e4⟩ := List.getElem?_eq_some_iff.mp e1
   exact hj ((List.getElem_inj W.nd).mp (e3.trans e4.symm))
  exact (W.at' j b o' e1 e2).mono W E fun o h => by rw [zal hne]; exact h
end
theorem RepL.atI {K : PySem.W.Frag} {α : List Addr} {H : Hp} {ds : List D} {vs : List V} {i : Int} {d : D} (r : RepL K α H ds vs) (h : L2.atI ds i = some d) : ∃ v, L2.atI vs i = some v /\ Rep K α H d v := by
 unfold L2.atI at h ⊢
 rw [r.length] at h
 cases e : ixN vs.length i with
 | none => rw [e] at h; cases h
 | some j =>
  rw [e] at h
  exact r.get (i := j) h
def zg4 (kvs : List (L2.Key × D)) (k : L2.Key) : Option D := match kvs with
 | [] => none
 | p :: r => if p.1 = k then some p.2 else zg4 r k
def zjl (kvs : List (L2.Key × D)) (k : L2.Key) (d : D) : List (L2.Key × D) := match kvs with
 | [] => [(k, d)]
 | p :: r => if p.1 = k then (p.1, d) :: r.map (fun q => if q.1 = k then (q.1, d) else q) else p :: zjl r k d
theorem RepKV.val {K : PySem.W.Frag} {α : List Addr} {H : Hp} {k : L2.Key} : ∀ {ds : List (L2.Key × D)} {vs : List (L2.Key × V)}, RepKV K α H ds vs -> (∀ d, zg4 ds k = some d -> ∃ v, zga vs k = some v /\ Rep K α H d v) /\ (zg4 ds k = none -> zga vs k = none)
 | [], _, h => by
  cases (show _ = [] from h)
  exact ⟨fun d e => (nomatch e), fun _ => rfl⟩
 | p :: r, _, ⟨v, r', e, h1, h2⟩ => by
  subst e
  have ih := RepKV.val (k := k) h2
  unfold zg4
  by_cases hk : p.1 = k
  ·rw [if_pos hk, zc6 hk]
   exact ⟨fun d e => by cases e; exact ⟨v, rfl, h1⟩, fun e => nomatch e⟩
  ·rw [if_neg hk, zc7 hk]
   exact ih
theorem RepKV.length {K : PySem.W.Frag} {α : List Addr} {H : Hp} : ∀ {ds : List (L2.Key × D)} {vs : List (L2.Key × V)}, RepKV K α H ds vs -> ds.length = vs.length
 | [], _, h => by
  have h : _ = [] := h
  subst h; rfl
 | p :: r, _, ⟨v, r', e, h1, h2⟩ => by subst e; rw [List.length_cons, List.length_cons, RepKV.length h2]
theorem RepKV.map {K : PySem.W.Frag} {α : List Addr} {H : Hp} {k : L2.Key} {d : D} {v : V} (r : Rep K α H d v) : ∀ {ds : List (L2.Key × D)} {vs : List (L2.Key × V)}, RepKV K α H ds vs -> RepKV K α H (ds.map fun q => if q.1 = k then (q.1, d) else q) (vs.map fun q => if q.1 = k then (q.1, v) else q)
 | [], _, h => by
  have h : _ = [] := h
  subst h; rfl
 | p :: t, _, ⟨w, r', e, h1, h2⟩ => by
  subst e
  rw [List.map_cons, List.map_cons]
  by_cases hk : p.1 = k
  ·rw [if_pos hk, if_pos hk]
   exact ⟨v, _, rfl, r, RepKV.map r h2⟩
  ·rw [if_neg hk, if_neg hk]
   exact ⟨w, _, rfl, h1, RepKV.map r h2⟩
theorem RepKV.put {K : PySem.W.Frag} {α : List Addr} {H : Hp} {k : L2.Key} {d : D} {v : V} (r : Rep K α H d v) : ∀ {ds : List (L2.Key × D)} {vs : List (L2.Key × V)}, RepKV K α H ds vs -> RepKV K α H (zjl ds k d) (zds vs k v)
 | [], _, h => by
  have h : _ = [] := h
  subst h
  exact ⟨v, [], rfl, r, rfl⟩
 | p :: t, _, ⟨w, r', e, h1, h2⟩ => by
  subst e
  unfold zjl
  by_cases hk : p.1 = k
  ·rw [if_pos hk]
   have e2 : zds ((p.1, w) :: r') k v = (p.1, v) :: r'.map fun q => if q.1 = k then (q.1, v) else q := by
    unfold zds
    rw [if_pos (by simp [hk]), List.map_cons, if_pos hk]
   rw [e2]
   exact ⟨v, _, rfl, r, RepKV.map r h2⟩
  ·rw [if_neg hk]
   have ih := RepKV.put (k := k) r h2
   have e2 : zds ((p.1, w) :: r') k v = (p.1, w) :: zds r' k v := by
    unfold zds
    by_cases ha : (r'.any fun kv => decide (kv.1 = k)) = true
    ·rw [if_pos (by rw [List.any_cons, ha, Bool.or_true]), if_pos ha, List.map_cons, if_neg hk]
    ·rw [if_neg ha, if_neg (by rw [List.any_cons]; simp only [decide_eq_false hk, Bool.false_or]; exact ha)]
     rfl
   rw [e2]
   exact ⟨w, _, rfl, h1, ih⟩
def opt {τ : Type} (o : Option τ) (m : Sto) : Res τ := match o with
 | some d => .ok d m
 | none => .bad
def ixD (x y : D) (m : Sto) : Res D := match x, y with
 | .tup ds, .int i => opt (L2.atI ds i) m
 | .lst ds, .int i => opt (L2.atI ds i) m
 | .str z, .int i => if z.length <= sizeLine then opt ((L2.atI z.cps.toList i).map fun c => D.str ⟨#[c]⟩) m else .bad
 | .ob k, .int i => match m[k]? with
  | some (.lst ds) => opt (L2.atI ds i) m
  | some (.dct kvs) => opt (zg4 kvs (.inl i)) m
  | _ => .bad
 | .ob k, .str z => match m[k]? with
  | some (.dct kvs) => opt (zg4 kvs (.inr z)) m
  | _ => .bad
 | _, _ => .bad
section
variable {X : Cx} {K : PySem.W.Frag} {cl : Str -> Addr} {ex : XD}
def rIxD : R2 := fun x y H Q => ∃ a v, x = .ref a /\ DGet H a y (some v) /\ Q v H
theorem znB (hu : X.A.units + 1 < cLine) : IxR X rIxD := by
 intro value slice pins s σ H x y v u Q I rx ry h hs
 obtain ⟨a, w, rfl, g, q⟩ := h
 cases rx
 have hT := zgO I g
 unfold subscriptTail
 refine wpAny_bind ?_
 rw [getitemInPython_of_ne hT.not_modules]
 refine wpAny_bind (wpAny_specialOf hT PySem.F.slot_dict_getitem.lookup ?_)
 have fin : wpAny (model X.prog X.w) X.A (subscripted slice false (.ref a) u) (fun r s₃ => wpAny (model X.prog X.w) X.A (letTemporaryGo value (.ref a) r >>= fun _ => pure r) (EP X pins σ Q) X.xe s₃) X.xe s := by
  rw [hs]
  exact wpAny_operating (wpAny_mono (zkw hu I g ry fun w' s3 I3 rw' => (⟨w, H, I3, rw', q⟩ : EP X pins σ Q w' s3)) (fun r s₃ h₃ => wpAny_bind (wpAny_letTemporaryGo (wpAny_pure h₃))) fun _ _ x => x)
 first
  | exact wpAny_pure (wpAny_bind fin)
  | exact wpAny_bind (wpAny_pure (wpAny_bind fin))
  | exact wpAny_bind fin
def rIxA (K : PySem.W.Frag) : R2 := fun x y H Q => rIx K x y H Q ∨ rIxD x y H Q
theorem ix_A (hu : X.A.units + 1 < cLine) : IxR X (rIxA X.K) := IxR.or ix_seq (znB hu)
theorem zch {τ : Type} {o : Option τ} {α : List Addr} {m : Sto} {H : Hp} {R : RD τ} (h : PQ K cl ex (opt o m) α H R) : ∃ d, o = some d /\ PQ K cl ex (.ok d m) α H R := by
 cases o with
 | none => exact h.elim
 | some d => exact ⟨d, rfl, h⟩
theorem od_ix : OpD K cl ex (rIxA K) ixD := fun α m H x y vx vy Q W rx ry h => by
 unfold ixD at h
 split at h
 ·obtain ⟨d, e, h⟩ := zch h
  rw [Rep] at rx
  rw [Rep] at ry
  obtain ⟨a, xs, rfl, h1, r1⟩ := rx
  obtain ⟨v, e2, rv⟩ := r1.atI e
  exact .inl (.inr (.inl ⟨a, xs, _, v, rfl, ry, h1.sq, e2, PQ.ok W h _ rv⟩))
 ·obtain ⟨d, e, h⟩ := zch h
  rw [Rep] at rx
  rw [Rep] at ry
  obtain ⟨a, xs, rfl, _, h1, r1⟩ := rx
  obtain ⟨v, e2, rv⟩ := r1.atI e
  exact .inl (.inl ⟨a, xs, _, v, rfl, ry, .inl h1, e2, PQ.ok W h _ rv⟩)
 ·obtain ⟨hc, h⟩ := PQ.if h
  obtain ⟨d, e, h⟩ := zch h
  rw [Rep] at rx
  rw [Rep] at ry
  obtain ⟨c, e2, rfl⟩ := Option.map_eq_some_iff.mp e
  exact .inl (.inr (.inr ⟨_, _, c, rx, ry, hc, e2, PQ.ok W h _ zjd⟩))
 ·rw [Rep] at rx
  rw [Rep] at ry
  obtain ⟨a, ha, rfl⟩ := rx
  split at h
  ·obtain ⟨d, e, h⟩ := zch h
   obtain ⟨xs, h1, r1⟩ := W.lst ha ‹_›
   obtain ⟨v, e2, rv⟩ := r1.atI e
   exact .inl (.inl ⟨a, xs, _, v, rfl, ry, SqL.of h1, e2, PQ.ok W h _ rv⟩)
  ·obtain ⟨d, e, h⟩ := zch h
   obtain ⟨xs, h1, r1⟩ := W.dct ha ‹_›
   obtain ⟨v, e2, rv⟩ := (RepKV.val r1).1 d e
   refine .inr ⟨a, v, rfl, ?_, PQ.ok W h _ rv⟩
   rw [ry, <- e2]
   exact DGet.k (k := .inl _) h1
  ·exact h.elim
 ·rw [Rep] at rx
  rw [Rep] at ry
  obtain ⟨a, ha, rfl⟩ := rx
  split at h
  ·obtain ⟨d, e, h⟩ := zch h
   obtain ⟨xs, h1, r1⟩ := W.dct ha ‹_›
   obtain ⟨v, e2, rv⟩ := (RepKV.val r1).1 d e
   refine .inr ⟨a, v, rfl, ?_, PQ.ok W h _ rv⟩
   rw [ry, <- e2]
   exact DGet.k (k := .inr _) h1
  ·exact h.elim
 ·exact h.elim
end
def zhK {τ : Type} (xs : List τ) (lo hi : Option Int) : List τ := (xs.drop (HT.sIx xs.length 0 lo)).take (HT.sIx xs.length xs.length hi - HT.sIx xs.length 0 lo)
theorem RepL.take {K : PySem.W.Frag} {α : List Addr} {H : Hp} : ∀ {ds : List D} {vs : List V} (n : Nat), RepL K α H ds vs -> RepL K α H (ds.take n) (vs.take n)
 | [], _, _, h => by rw [RepL] at h; subst h; simp [RepL]
 | _ :: _, _, 0, h => by simp [RepL]
 | _ :: _, _, n + 1, h => by
  rw [RepL] at h
  obtain ⟨v, r, rfl, a, b⟩ := h
  rw [List.take_succ_cons, List.take_succ_cons, RepL]
  exact ⟨v, _, rfl, a, RepL.take n b⟩
theorem RepL.drop {K : PySem.W.Frag} {α : List Addr} {H : Hp} : ∀ {ds : List D} {vs : List V} (n : Nat), RepL K α H ds vs -> RepL K α H (ds.drop n) (vs.drop n)
 | _, _, 0, h => h
 | [], _, n + 1, h => by rw [RepL] at h; subst h; simp [RepL]
 | _ :: _, _, n + 1, h => by
  rw [RepL] at h
  obtain ⟨v, r, rfl, a, b⟩ := h
  exact RepL.drop n b
theorem RepL.cut {K : PySem.W.Frag} {α : List Addr} {H : Hp} {ds : List D} {vs : List V} (lo hi : Option Int) (r : RepL K α H ds vs) : RepL K α H (zhK ds lo hi) (zmm vs lo hi) := by
 unfold zhK zmm
 rw [r.length]
 exact RepL.take _ (RepL.drop _ r)
abbrev OV := En -> Sto -> Res (Option Int)
def zcJ : OV := fun _ m => .ok none m
def zdx (f : EV) : OV := fun ρ m => (f ρ m).bind fun d m1 => match d with
 | .int i => .ok (some i) m1
 | _ => .bad
def tDO (K : PySem.W.Frag) (cl : Str -> Addr) (ex : XD) (f : OV) : TO := fun σ H Q => ∃ α ρ m, Wd K cl α m H /\ RepE K α H ρ σ /\ PQ K cl ex (f ρ m) α H fun d _ _ H' => Q d H'
structure QO (X : Cx) (cl : Str -> Addr) (ex : XD) (e : Option Expr) (f : OV) : Prop where
 out : PO X e (tDO X.K cl ex f)
theorem PO.weak {X : Cx} {e : Option Expr} {t t' : TO} (h : PO X e t) (w : ∀ σ H Q, t' σ H Q -> t σ H Q) : PO X e t' := fun pins s σ H Q I q => h pins s σ H Q I (w σ H Q q)
def slD (x : D) (lo hi : Option Int) (m : Sto) : Res D := match x with
 | .tup ds => if HT.sIx ds.length 0 lo = 0 /\ HT.sIx ds.length ds.length hi = ds.length then .bad else .ok (.tup (zhK ds lo hi)) m
 | .lst ds => .ok (.lst (zhK ds lo hi)) m
 | .scr ds => .ok (.lst (zhK ds lo hi)) m
 | .str z => if z.length <= sizeLine then .ok (.str (Txt.slice z lo hi)) m else .bad
 | .ob k => match m[k]? with
  | some (.lst ds) => .ok (.lst (zhK ds lo hi)) m
  | _ => .bad
 | _ => .bad
def eSl (f : EV) (lo hi : OV) : EV := fun ρ m => (f ρ m).bind fun x m1 => (lo ρ m1).bind fun l m2 => (hi ρ m2).bind fun h m3 => slD x l h m3
section
variable {X : Cx} {cl : Str -> Addr} {ex : XD} {e : Expr} {fa : EV} {lo hi : OV} {el eh : Option Expr} {pos p2 : Pos}
theorem zbG : QO X cl ex none zcJ := ⟨PO.weak zm8 fun σ H Q hh => ex3 hh fun α ρ m W hr h => PQ.ok W h⟩
theorem zbS (hq : QE X cl ex e fa) : QO X cl ex (some e) (zdx fa) := ⟨PO.weak (zm7 hq.out) fun σ H Q hh => ex3 hh fun α ρ m W hr h => tD.use W hr h fun α1 m1 H1 d v E1 W1 hr1 rv q1 => by
 split at q1
 ·rw [Rep] at rv; exact ⟨_, rv, PQ.ok W1 q1⟩
 ·exact q1.elim⟩
theorem tDO.use {K : PySem.W.Frag} {α : List Addr} {m : Sto} {H : Hp} {ρ : En} {σ : L2.St} {τ : Type} {f : OV} {k : Option Int -> Sto -> Res τ} {R : RD τ} {Q : Option Int -> Hp -> Prop} (W : Wd K cl α m H) (hr : RepE K α H ρ σ) (h : PQ K cl ex ((f ρ m).bind k) α H R)
  (hQ : ∀ α1 m1 H1 d, Ext α H α1 H1 -> Wd K cl α1 m1 H1 -> RepE K α1 H1 ρ σ -> PQ K cl ex (k d m1) α1 H1 R -> Q d H1) : tDO K cl ex f σ H Q :=
 ⟨α, ρ, m, W, hr, PQ.mono (Ext.refl W) h.bind fun d α1 m1 H1 E1 W1 q => hQ α1 m1 H1 d E1 W1 (hr.mono W E1) q⟩
theorem zgn (he : QE X cl ex e fa) (hl : QO X cl ex el lo) (hh : QO X cl ex eh hi) : QE X cl ex (.Subscript e (.Slice el eh none p2) pos) (eSl fa lo hi) :=
 ⟨PE.weak (zle (SlR.or sl_tup (SlR.or zmE sl_txt)) he.out hl.out hh.out) fun σ H Q hh => ex3 hh fun α ρ m W hr h =>
  tD.use W hr h fun α1 m1 H1 d v E1 W1 hr1 rv q1 => tDO.use W1 hr1 q1 fun α2 m2 H2 l E2 W2 hr2 q2 => tDO.use W2 hr2 q2 fun α3 m3 H3 u E3 W3 hr3 q3 => by
   have rv := rv.mono W1 (E2.trans E3)
   unfold slD at q3
   split at q3
   ·split at q3
    ·exact q3.elim
    ·rename_i hn
     rw [Rep] at rv
     obtain ⟨a, xs, rfl, h1, r1⟩ := rv
     refine .inl ⟨a, xs, rfl, h1.sq, by rw [<- r1.length]; exact hn, fun p hp => ?_⟩
     exact PQ.okS W3 (Same.new hp) q3 _ (zbf W3 hp (r1.cut l u))
   ·rw [Rep] at rv
    obtain ⟨a, xs, rfl, _, h1, r1⟩ := rv
    exact .inr (.inl ⟨a, xs, rfl, .inl h1, fun p hp => PQ.okS W3 (Same.new hp) q3 _ (zbr W3 hp (r1.cut l u))⟩)
   ·rw [Rep] at rv
    obtain ⟨a, xs, rfl, h1, r1⟩ := rv
    exact .inr (.inl ⟨a, xs, rfl, h1.sq, fun p hp => PQ.okS W3 (Same.new hp) q3 _ (zbr W3 hp (r1.cut l u))⟩)
   ·rw [Rep] at rv
    obtain ⟨hc, q3⟩ := PQ.if q3
    exact .inr (.inr ⟨_, rv, hc, PQ.ok W3 q3 _ zjd⟩)
   ·rw [Rep] at rv
    obtain ⟨a, ha, rfl⟩ := rv
    split at q3
    ·obtain ⟨xs, h1, r1⟩ := W3.lst ha ‹_›
     exact .inr (.inl ⟨a, xs, rfl, SqL.of h1, fun p hp => PQ.okS W3 (Same.new hp) q3 _ (zbr W3 hp (r1.cut l u))⟩)
    ·exact q3.elim
   ·exact q3.elim⟩
end
section
variable {X : Cx} {K : PySem.W.Frag} {cl : Str -> Addr} {ex : XD} {α : List Addr} {m : Sto} {H : Hp}
theorem RepL.one_of {d : D} {vs : List V} (h : RepL K α H [d] vs) : ∃ v, vs = [v] /\ Rep K α H d v := by
 rw [RepL] at h
 obtain ⟨v, r, rfl, a, b⟩ := h
 rw [RepL] at b
 subst b
 exact ⟨v, rfl, a⟩
theorem RepL.two_of {d e : D} {vs : List V} (h : RepL K α H [d, e] vs) : ∃ v w, vs = [v, w] /\ Rep K α H d v /\ Rep K α H e w := by
 rw [RepL] at h
 obtain ⟨v, r, rfl, a, b⟩ := h
 obtain ⟨w, rfl, c⟩ := b.one_of
 exact ⟨v, w, rfl, a, c⟩
def zdW (ds : List D) (m : Sto) : Res D := match ds with
 | [.tup xs] => .ok (.int xs.length) m
 | [.lst xs] => .ok (.int xs.length) m
 | [.scr xs] => .ok (.int xs.length) m
 | [.str z] => if z.length <= sizeLine then .ok (.int z.length) m else .bad
 | [.ob k] => match m[k]? with
  | some (.lst xs) => .ok (.int xs.length) m
  | some (.dct xs) => .ok (.int xs.length) m
  | _ => .bad
 | _ => .bad
def rLen (K : PySem.W.Frag) : List V -> Hp -> VK -> Prop := fun xs H Q => (∃ p ys, xs = [.ref p] /\ (SqL K H p ys ∨ SqT K H p ys) /\ Q (.int ys.length) H) ∨ (∃ z, xs = [.str z] /\ z.length <= sizeLine /\ Q (.int z.length) H) ∨ ∃ a kvs, xs = [V.ref a] /\ H a = some (.dK kvs) /\ Q (.int kvs.length) H
theorem zky : CallR X (.builtin "len") (fun xs H Q => ∃ a kvs, xs = [V.ref a] /\ H a = some (.dK kvs) /\ Q (.int kvs.length) H) := by
 intro pins s σ H xs us Q I r h
 obtain ⟨a, kvs, rfl, e, q⟩ := h
 obtain ⟨u, rfl, ru⟩ := zbC r
 cases ru
 exact d_len I (.inl e) fun t s' I' => ⟨.int kvs.length, H, I', ⟨t, rfl⟩, q⟩
theorem zaF : CallR X (.builtin "len") (rLen X.K) := CallR.or zfW (CallR.or zfV zky)
theorem zbq : FnD K cl ex (rLen K) zdW := fun α m H x vx Q W rx h => by
 unfold zdW at h
 split at h
 ·obtain ⟨v, rfl, rv⟩ := rx.one_of
  rw [Rep] at rv
  obtain ⟨a, xs, rfl, h1, r1⟩ := rv
  exact .inl ⟨a, xs, rfl, .inr h1.sq, by rw [<- r1.length]; exact PQ.ok W h _ zdP⟩
 ·obtain ⟨v, rfl, rv⟩ := rx.one_of
  rw [Rep] at rv
  obtain ⟨a, xs, rfl, _, h1, r1⟩ := rv
  exact .inl ⟨a, xs, rfl, .inl (.inl h1), by rw [<- r1.length]; exact PQ.ok W h _ zdP⟩
 ·obtain ⟨v, rfl, rv⟩ := rx.one_of
  rw [Rep] at rv
  obtain ⟨a, xs, rfl, h1, r1⟩ := rv
  exact .inl ⟨a, xs, rfl, .inl h1.sq, by rw [<- r1.length]; exact PQ.ok W h _ zdP⟩
 ·obtain ⟨v, rfl, rv⟩ := rx.one_of
  rw [Rep] at rv
  subst rv
  obtain ⟨hc, h⟩ := PQ.if h
  exact .inr (.inl ⟨_, rfl, hc, PQ.ok W h _ zdP⟩)
 ·obtain ⟨v, rfl, rv⟩ := rx.one_of
  rw [Rep] at rv
  obtain ⟨a, ha, rfl⟩ := rv
  split at h
  ·obtain ⟨xs, h1, r1⟩ := W.lst ha ‹_›
   exact .inl ⟨a, xs, rfl, .inl (SqL.of h1), by rw [<- r1.length]; exact PQ.ok W h _ zdP⟩
  ·obtain ⟨xs, h1, r1⟩ := W.dct ha ‹_›
   exact .inr (.inr ⟨a, xs, rfl, h1, by rw [<- r1.length]; exact PQ.ok W h _ zdP⟩)
  ·exact h.elim
 ·exact h.elim
def ziC (ds : List D) (m : Sto) : Res D := match ds with
 | [.int i] => .ok (.int i) m
 | [.bl b] => .ok (.int (if b then 1 else 0)) m
 | [.str z] => match PySem.intText? z with
  | some n => if z.length <= 640 then .ok (.int n) m else .bad
  | none => .bad
 | _ => .bad
def rInt : List V -> Hp -> VK -> Prop := fun xs H Q => ((∃ i, xs = [.int i] /\ Q (.int i) H) ∨ ∃ k, xs = [.bl k] /\ Q (.int (if k then 1 else 0)) H) ∨ ∃ z n, xs = [.str z] /\ PySem.intText? z = some n /\ z.length <= 640 /\ Q (.int n) H
theorem zdK : CallR X (.type "int") rInt := CallR.or zkD zfX
theorem zkk : FnD K cl ex rInt ziC := fun α m H x vx Q W rx h => by
 unfold ziC at h
 split at h
 ·obtain ⟨v, rfl, rv⟩ := rx.one_of
  rw [Rep] at rv; subst rv
  exact .inl (.inl ⟨_, rfl, PQ.ok W h _ zdP⟩)
 ·obtain ⟨v, rfl, rv⟩ := rx.one_of
  rw [Rep] at rv; subst rv
  exact .inl (.inr ⟨_, rfl, PQ.ok W h _ zdP⟩)
 ·obtain ⟨v, rfl, rv⟩ := rx.one_of
  rw [Rep] at rv; subst rv
  split at h
  ·obtain ⟨hc, h⟩ := PQ.if h
   exact .inr ⟨_, _, rfl, ‹_›, hc, PQ.ok W h _ zdP⟩
  ·exact h.elim
 ·exact h.elim
def zlX (ds : List D) (m : Sto) : Res D := match ds with
 | [.int i] => if i.natAbs.log2 < 1920 then .ok (.str (toString i)) m else .bad
 | _ => .bad
theorem zfP : FnD K cl ex (fun xs H Q => ∃ i, xs = [.int i] /\ i.natAbs.log2 < 1920 /\ Q (.str (toString i)) H) zlX := fun α m H x vx Q W rx h => by
 unfold zlX at h
 split at h
 ·obtain ⟨v, rfl, rv⟩ := rx.one_of
  rw [Rep] at rv; subst rv
  obtain ⟨hc, h⟩ := PQ.if h
  exact ⟨_, rfl, hc, PQ.ok W h _ zjd⟩
 ·exact h.elim
def absF (ds : List D) (m : Sto) : Res D := match ds with
 | [.int i] => .ok (.int (if i < 0 then -i else i)) m
 | _ => .bad
theorem zmf : FnD K cl ex (fun xs H Q => ∃ i, xs = [.int i] /\ Q (.int (if i < 0 then -i else i)) H) absF := fun α m H x vx Q W rx h => by
 unfold absF at h
 split at h
 ·obtain ⟨v, rfl, rv⟩ := rx.one_of
  rw [Rep] at rv; subst rv
  exact ⟨_, rfl, PQ.ok W h _ zdP⟩
 ·exact h.elim
def max2F (ds : List D) (m : Sto) : Res D := match ds with
 | [.int i, .int j] => .ok (.int (if j > i then j else i)) m
 | _ => .bad
def zii (ds : List D) (m : Sto) : Res D := match ds with
 | [.int i, .int j] => .ok (.int (if j < i then j else i)) m
 | _ => .bad
theorem zkj : FnD K cl ex (fun xs H Q => ∃ i j, xs = [.int i, .int j] /\ Q (.int (if j < i then j else i)) H) zii := fun α m H x vx Q W rx h => by
 unfold zii at h
 split at h
 ·obtain ⟨v, w, rfl, rv, rw'⟩ := rx.two_of
  rw [Rep] at rv rw'; subst rv rw'
  exact ⟨_, _, rfl, PQ.ok W h _ zdP⟩
 ·exact h.elim
def ziA (ds : List D) (m : Sto) : Res D := match ds with
 | [.lst xs] => .ok (.tup xs) m
 | [.tup xs] => .ok (.tup xs) m
 | [.ob k] => match m[k]? with
  | some (.lst xs) => .ok (.tup xs) m
  | _ => .bad
 | [.str z] => if z.cps.size <= sizeLine then .ok (.tup (zcc z)) m else .bad
 | _ => .bad
def rTup (K : PySem.W.Frag) : List V -> Hp -> VK -> Prop := fun xs H Q => (∃ p ys, xs = [.ref p] /\ ((SqL K H p ys /\ ∀ l, H l = none -> Q (.ref l) (upd H l (.tup ys))) ∨ (SqT K H p ys /\ Q (.ref p) H))) ∨ ∃ z, xs = [.str z] /\ z.cps.size <= sizeLine /\ ∀ l, H l = none -> Q (.ref l) (upd H l (.tup ((List.range z.cps.size).map (sgn z))))
theorem zb0 (hc : X.calm = true) : CallR X (.type "tuple") (rTup X.K) := CallR.or ze0 (zdZ hc)
theorem zja {z : Str} : RepL K α H (zcc z) ((List.range z.cps.size).map (sgn z)) := by
 unfold zcc
 generalize List.range z.cps.size = l
 induction l with
 | nil => simp [RepL]
 | cons i r ih => rw [List.map_cons, List.map_cons, RepL]; exact ⟨_, _, rfl, by rw [Rep]; rfl, ih⟩
theorem zfO : FnD K cl ex (rTup K) ziA := fun α m H x vx Q W rx h => by
 unfold ziA at h
 split at h
 ·obtain ⟨v, rfl, rv⟩ := rx.one_of
  rw [Rep] at rv
  obtain ⟨a, xs, rfl, _, h1, r1⟩ := rv
  exact .inl ⟨a, xs, rfl, .inl ⟨.inl h1, fun l hl => PQ.okS W (Same.new hl) h _ (zbf W hl r1)⟩⟩
 ·obtain ⟨v, rfl, rv⟩ := rx.one_of
  have rv2 := rv
  rw [Rep] at rv
  obtain ⟨a, xs, rfl, h1, r1⟩ := rv
  exact .inl ⟨a, xs, rfl, .inr ⟨h1.sq, PQ.ok W h _ rv2⟩⟩
 ·obtain ⟨v, rfl, rv⟩ := rx.one_of
  rw [Rep] at rv
  obtain ⟨a, ha, rfl⟩ := rv
  split at h
  ·obtain ⟨xs, h1, r1⟩ := W.lst ha ‹_›
   exact .inl ⟨a, xs, rfl, .inl ⟨SqL.of h1, fun l hl => PQ.okS W (Same.new hl) h _ (zbf W hl r1)⟩⟩
  ·exact h.elim
 ·obtain ⟨v, rfl, rv⟩ := rx.one_of
  rw [Rep] at rv; subst rv
  obtain ⟨hc, h⟩ := PQ.if h
  exact .inr ⟨_, rfl, hc, fun l hl => PQ.okS W (Same.new hl) h _ (zbf W hl zja)⟩
 ·exact h.elim
def zmF (d : D) (m : Sto) : Option (List D) := match d with
 | .lst xs => some xs
 | .tup xs => some xs
 | .scr xs => some xs
 | .ob k => match m[k]? with
  | some (.lst xs) => some xs
  | _ => none
 | _ => none
def lstF (ds : List D) (m : Sto) : Res D := match ds with
 | [d] => match zmF d m with
  | some xs => .ok (.lst xs) m
  | none => .bad
 | _ => .bad
theorem ziV {d : D} {v : V} {xs : List D} (W : Wd K cl α m H) (e : zmF d m = some xs) (rv : Rep K α H d v) : ∃ p ys, v = .ref p /\ (SqL K H p ys ∨ SqT K H p ys) /\ RepL K α H xs ys := by
 unfold zmF at e
 split at e
 ·cases e; rw [Rep] at rv; obtain ⟨a, ys, rfl, _, h1, r1⟩ := rv; exact ⟨a, ys, rfl, .inl (.inl h1), r1⟩
 ·cases e; rw [Rep] at rv; obtain ⟨a, ys, rfl, h1, r1⟩ := rv; exact ⟨a, ys, rfl, .inr h1.sq, r1⟩
 ·cases e; rw [Rep] at rv; obtain ⟨a, ys, rfl, h1, r1⟩ := rv; exact ⟨a, ys, rfl, .inl h1.sq, r1⟩
 ·rw [Rep] at rv
  obtain ⟨a, ha, rfl⟩ := rv
  split at e
  ·cases e; obtain ⟨ys, h1, r1⟩ := W.lst ha ‹_›; exact ⟨a, ys, rfl, .inl (SqL.of h1), r1⟩
  ·cases e
 ·cases e
theorem fd_lst : FnD K cl ex (fun xs H Q => ∃ p ys, xs = [.ref p] /\ (SqL K H p ys ∨ SqT K H p ys) /\ ∀ l, H l = none -> Q (.ref l) (upd H l (.lst ys))) lstF := fun α m H x vx Q W rx h => by
 unfold lstF at h
 split at h
 ·split at h
  ·obtain ⟨v, rfl, rv⟩ := rx.one_of
   obtain ⟨p, ys, rfl, h1, r1⟩ := ziV W ‹_› rv
   exact ⟨p, ys, rfl, h1, fun l hl => PQ.okS W (Same.new hl) h _ (zbr W hl r1)⟩
  ·exact h.elim
 ·exact h.elim
def zgX : List D -> Option (List Bool)
 | [] => some []
 | .bl i :: r => (zgX r).map (i :: ·)
 | _ => none
def zem : List D -> Option (List Str)
 | [] => some []
 | .str i :: r => (zem r).map (i :: ·)
 | _ => none
theorem zdM : ∀ {ds : List D} {ns : List Bool} {vs : List V}, zgX ds = some ns -> RepL K α H ds vs -> vs = ns.map V.bl
 | [], ns, vs, e, r => by cases e; rw [RepL] at r; exact r
 | d :: t, ns, vs, e, r => by
  unfold zgX at e
  split at e
  ·exact absurd ‹d :: t = []› (by simp)
  ·rename_i i t' e1
   cases e1
   obtain ⟨ms, e2, rfl⟩ := Option.map_eq_some_iff.mp e
   rw [RepL] at r
   obtain ⟨v, r', rfl, a, b⟩ := r
   rw [Rep] at a
   subst a
   rw [zdM e2 b]
   rfl
  ·cases e
theorem zel : ∀ {ds : List D} {ns : List Str} {vs : List V}, zem ds = some ns -> RepL K α H ds vs -> vs = ns.map V.str
 | [], ns, vs, e, r => by cases e; rw [RepL] at r; exact r
 | d :: t, ns, vs, e, r => by
  unfold zem at e
  split at e
  ·exact absurd ‹d :: t = []› (by simp)
  ·rename_i i t' e1
   cases e1
   obtain ⟨ms, e2, rfl⟩ := Option.map_eq_some_iff.mp e
   rw [RepL] at r
   obtain ⟨v, r', rfl, a, b⟩ := r
   rw [Rep] at a
   subst a
   rw [zel e2 b]
   rfl
  ·cases e
def lOf (d : D) (m : Sto) : Option (List D) := match d with
 | .lst xs => some xs
 | .ob k => match m[k]? with
  | some (.lst xs) => some xs
  | _ => none
 | _ => none
theorem zgG {d : D} {v : V} {xs : List D} (W : Wd K cl α m H) (e : lOf d m = some xs) (rv : Rep K α H d v) : ∃ p ys, v = .ref p /\ SqL K H p ys /\ RepL K α H xs ys := by
 unfold lOf at e
 split at e
 ·cases e; rw [Rep] at rv; obtain ⟨a, ys, rfl, _, h1, r1⟩ := rv; exact ⟨a, ys, rfl, .inl h1, r1⟩
 ·rw [Rep] at rv
  obtain ⟨a, ha, rfl⟩ := rv
  split at e
  ·cases e; obtain ⟨ys, h1, r1⟩ := W.lst ha ‹_›; exact ⟨a, ys, rfl, SqL.of h1, r1⟩
  ·cases e
 ·cases e
def sumOk (ns : List Int) : Prop := (∀ a, a ∈ ns -> 0 <= a /\ a <= 2 ^ 50) /\ ns.length <= 1000
instance (ns : List Int) : Decidable (sumOk ns) := by unfold sumOk; infer_instance
def zlP (ds : List D) (m : Sto) : Res D := match ds with
 | [d] => match (lOf d m).bind zgX with
  | some bs => .ok (.bl (bs.all id)) m
  | none => .bad
 | _ => .bad
theorem zhD : FnD K cl ex (fun xs H Q => ∃ (l : Addr) (bs : List Bool), xs = [.ref l] /\ SqL K H l (bs.map V.bl) /\ Q (.bl (bs.all id)) H) zlP := fun α m H x vx Q W rx h => by
 unfold zlP at h
 split at h
 ·split at h
  ·rename_i ns e
   obtain ⟨v, rfl, rv⟩ := rx.one_of
   obtain ⟨xs, e1, e2⟩ := Option.bind_eq_some_iff.mp e
   obtain ⟨p, ys, rfl, h1, r1⟩ := zgG W e1 rv
   rw [zdM e2 r1] at h1
   exact ⟨p, ns, rfl, h1, PQ.ok W h _ zd4⟩
  ·exact h.elim
 ·exact h.elim
end
def zbm (ty : D -> Sto -> Bool) (g : D -> List D -> Sto -> Res D) (fo : EV) (fr : AV) : EV := fun ρ m => (fo ρ m).bind fun o m1 => if ty o m1 = true then (fr ρ m1).bind fun ds m2 => g o ds m2 else .bad
def MtD (K : PySem.W.Frag) (cl : Str -> Addr) (ex : XD) (r : V -> List V -> Hp -> VK -> Prop) (g : D -> List D -> Sto -> Res D) : Prop :=
 ∀ (α : List Addr) (m : Sto) (H : Hp) (x : D) (xs : List D) (vx : V) (vs : List V) (Q : VK), Wd K cl α m H -> Rep K α H x vx -> RepL K α H xs vs -> PQ K cl ex (g x xs m) α H (fun d α' _ H' => ∀ v, Rep K α' H' d v -> Q v H') -> r vx vs H Q
def zcz (d : D) (_ : Sto) : Bool := match d with
 | .str _ => true
 | _ => false
def zck (d : D) (m : Sto) : Bool := match d with
 | .lst _ => true
 | .ob k => match m[k]? with
  | some (.lst _) => true
  | _ => false
 | _ => false
def isTup (d : D) (_ : Sto) : Bool := match d with
 | .tup _ => true
 | _ => false
section
variable {X : Cx} {K : PySem.W.Frag} {cl : Str -> Addr} {ex : XD} {α : List Addr} {m : Sto} {H : Hp} {o e : Expr} {es : List Expr} {fo : EV} {fr : AV} {name : Str} {apos cpos : Pos} {T id : String} {r : V -> List V -> Hp -> VK -> Prop} {g : D -> List D -> Sto -> Res D} {ty : D -> Sto -> Bool}
theorem zcp {d : D} {v : V} (h : zcz d m = true) (W : Wd K cl α m H) (r : Rep K α H d v) : tyV K "str" v H := by
 cases d with
 | str z => rw [Rep] at r; subst r; rfl
 | _ => cases h
theorem ze5 {d : D} {v : V} (h : zck d m = true) (W : Wd K cl α m H) (r : Rep K α H d v) : tyV K "list" v H := by
 unfold zck at h
 split at h
 ·rw [Rep] at r; obtain ⟨a, ys, rfl, _, h1, r1⟩ := r; exact .inl ⟨rfl, ys, .inl h1⟩
 ·rw [Rep] at r
  obtain ⟨a, ha, rfl⟩ := r
  split at h
  ·obtain ⟨ys, h1, _⟩ := W.lst ha ‹_›; exact .inl ⟨rfl, ys, SqL.of h1⟩
  ·cases h
 ·cases h
theorem tBM_of (hty : ∀ {α : List Addr} {m : Sto} {H : Hp} {d : D} {v : V}, ty d m = true -> Wd X.K cl α m H -> Rep X.K α H d v -> tyV X.K T v H) (hd : MtD X.K cl ex r g) : ∀ σ H Q, tD X.K cl ex (zbm ty g fo fr) σ H Q -> tBM X.K T r (tD X.K cl ex fo) (tDA X.K cl ex fr) σ H Q := fun σ H Q hh => ex3 hh fun α ρ m W hr h =>
 tD.use W hr h fun α1 m1 H1 d v E1 W1 hr1 rv q1 => by
  obtain ⟨ht, q1⟩ := PQ.if q1
  exact ⟨hty ht W1 rv, tDA.use W1 hr1 q1 fun α2 m2 H2 ds vs E2 W2 hr2 rvs q2 => hd α2 m2 H2 d ds v vs Q W2 (rv.mono W1 E2) rvs q2⟩
theorem zcs (pa : PlainAttrs T) (slot : Slot T name id) (hty : typeOf (.builtin id) = pure (.type "method_descriptor")) (hm : MtR X id r) (hT : ∀ {α : List Addr} {m : Sto} {H : Hp} {d : D} {v : V}, ty d m = true -> Wd X.K cl α m H -> Rep X.K α H d v -> tyV X.K T v H) (hd : MtD X.K cl ex r g) (ho : QE X cl ex o fo) (ha : QA X cl ex (e :: es) fr)
  (hbase : autoParam (attributeBase o name X.env (eval o X.env) = eval o X.env) AutoP.a3._auto_1)
  (hfew : autoParam (((backTo cpos (starEach (e :: es) X.env)).all (fun x => !x.1) && (backToKw cpos (keywordEach [] X.env)).all (fun x => x.1.isSome)
   && decide ((e :: es).length + ([] : List Keyword).length + (if ([] : List Keyword).isEmpty then 0 else 1) < 30)) = true) AutoP.a3._auto_1)
  (hline : autoParam ((apos.endLine == cpos.line) = true) AutoP.a3._auto_1) (hs : autoParam (starEach (e :: es) X.env = (false, eval e X.env) :: starEach es X.env) AutoP.a3._auto_1) (hplain : autoParam ((backTo cpos (starEach es X.env)).any (·.1) = false) AutoP.a3._auto_1) :
  QE X cl ex (.Call (.Attribute o name apos) (e :: es) [] cpos) (zbm ty g fo fr) :=
 ⟨PE.weak (pe_bm pa slot hty hm ho.out ha.out hbase hfew hline hs hplain) (tBM_of hT hd)⟩
def zdX (o : D) (ds : List D) (m : Sto) : Res D := match o, ds with
 | .str z, [d] => match (lOf d m).bind zem with
  | some ts => if JoinOk z ts = true then .ok (.str (Txt.join z ts)) m else .bad
  | none => .bad
 | _, _ => .bad
theorem zcL : MtD K cl ex (fun x xs H Q => ∃ (z : Str) (l : Addr) (ts : List Str), x = .str z /\ xs = [.ref l] /\ SqL K H l (ts.map V.str) /\ JoinOk z ts = true /\ Q (.str (Txt.join z ts)) H) zdX := fun α m H x xs vx vs Q W rx rxs h => by
 unfold zdX at h
 split at h
 ·split at h
  ·rename_i e
   obtain ⟨hc, h⟩ := PQ.if h
   rw [Rep] at rx
   obtain ⟨v, rfl, rv⟩ := rxs.one_of
   obtain ⟨xs, e1, e2⟩ := Option.bind_eq_some_iff.mp e
   obtain ⟨p, ys, rfl, h1, r1⟩ := zgG W e1 rv
   rw [zel e2 r1] at h1
   exact ⟨_, p, _, rx, rfl, h1, hc, PQ.ok W h _ zjd⟩
  ·exact h.elim
 ·exact h.elim
def zcn (o : D) (ds : List D) (m : Sto) : Res D := match o, ds with
 | .ob k, [d] => match m[k]? with
  | some (.lst xs) => if xs.length < sizeLine then .ok .non (m.set k (.lst (xs ++ [d]))) else .bad
  | _ => .bad
 | _, _ => .bad
theorem zfC : MtD K cl ex zjf zcn := fun α m H x xs vx vs Q W rx rxs h => by
 unfold zcn at h
 split at h
 ·split at h
  ·rename_i k d _ ds e
   obtain ⟨hc, h⟩ := PQ.if h
   rw [Rep] at rx
   obtain ⟨a, ha, rfl⟩ := rx
   obtain ⟨v, rfl, rv⟩ := rxs.one_of
   obtain ⟨ys, h1, r1⟩ := W.lst ha e
   obtain ⟨W2, E2⟩ := W.set (u := .lst (ys ++ [v])) (o := .lst (ds ++ [d])) ha fun E => ⟨_, zap, RepL.append (r1.mono W E) (RepL.one (rv.mono W E))⟩
   exact ⟨a, ys, v, rfl, rfl, h1, by rw [<- r1.length]; exact hc, h _ _ E2 W2 _ repN⟩
  ·exact h.elim
 ·exact h.elim
def popM (o : D) (ds : List D) (m : Sto) : Res D := match o, ds with
 | .ob k, [.int i] => match m[k]? with
  | some (.lst xs) => if -(2 ^ 63) <= i /\ i < 2 ^ 63 then match seqIndex? i xs.length with
   | some j => match xs[j]? with
    | some d => .ok d (m.set k (.lst (xs.eraseIdx j)))
    | none => .bad
   | none => .bad else .bad
  | _ => .bad
 | _, _ => .bad
theorem RepL.erase {ds : List D} {vs : List V} (j : Nat) (r : RepL K α H ds vs) : RepL K α H (ds.eraseIdx j) (vs.eraseIdx j) := by
 rw [List.eraseIdx_eq_take_drop_succ, List.eraseIdx_eq_take_drop_succ]
 exact RepL.append (r.take j) (r.drop (j + 1))
theorem md_pop : MtD K cl ex zl2 popM := fun α m H x xs vx vs Q W rx rxs h => by
 unfold popM at h
 split at h
 ·split at h
  ·rename_i k i _ ds e
   obtain ⟨hc, h⟩ := PQ.if h
   rw [Rep] at rx
   obtain ⟨a, ha, rfl⟩ := rx
   obtain ⟨v, rfl, rv⟩ := rxs.one_of
   rw [Rep] at rv
   subst rv
   obtain ⟨ys, h1, r1⟩ := W.lst ha e
   split at h
   ·rename_i j ej
    split at h
    ·rename_i d ed
     obtain ⟨w, hw, rw'⟩ := r1.get ed
     obtain ⟨W2, E2⟩ := W.set (u := .lst (ys.eraseIdx j)) (o := .lst (ds.eraseIdx j)) ha fun E => ⟨_, zap, (r1.mono W E).erase j⟩
     exact ⟨a, ys, i, j, w, rfl, rfl, h1, hc.1, hc.2, by rw [<- r1.length]; exact ej, hw, h _ _ E2 W2 _ (rw'.mono W E2)⟩
    ·exact h.elim
   ·exact h.elim
  ·exact h.elim
 ·exact h.elim
end
section
variable {X : Cx} {K : PySem.W.Frag} {cl : Str -> Addr} {ex : XD} {α : List Addr} {m : Sto} {H : Hp}
def tyN (d : D) (m : Sto) : Option String := match d with
 | .non => some "NoneType"
 | .bl _ => some "bool"
 | .int _ => some "int"
 | .str _ => some "str"
 | .flt _ => some "float"
 | .tup _ => some "tuple"
 | .lst _ => some "list"
 | .ob k => match m[k]? with
  | some (.lst _) => some "list"
  | some (.dct _) => some "dict"
  | _ => none
 | _ => none
def ziB (t n : String) : Bool := t == n || (t == "bool" && n == "int")
def zbb (n : String) (d : D) (m : Sto) : Res D := match tyN d m with
 | some t => .ok (.bl (ziB t n)) m
 | none => .bad
def zd0 : List String := ["int", "bool", "str", "tuple", "list", "dict"]
theorem zgH {d : D} {t n : String} (h : tyN d m = some t) (hn : n ∈ zd0) : PySem.W.kitOne K (.type t) (.type n) = some (ziB t n) := by
 have ht : t ∈ ["NoneType", "bool", "int", "str", "float", "tuple", "list", "dict"] := by
  unfold tyN at h
  split at h <;> first | (cases h; simp; done) | (split at h <;> first | (cases h; simp; done) | cases h) | cases h
 simp only [zd0, List.mem_cons, List.not_mem_nil, or_false] at hn ht
 rcases hn with rfl | rfl | rfl | rfl | rfl | rfl <;> rcases ht with rfl | rfl | rfl | rfl | rfl | rfl | rfl | rfl <;> rfl
theorem zkB {n : String} (hn : n ∈ zd0) : CallR X (.builtin "isinstance") (fun xs H Q => ∃ cl α m d v t, xs = [v, .ty n] /\ Wd X.K cl α m H /\ Rep X.K α H d v /\ tyN d m = some t /\ Q (.bl (ziB t n)) H) := by
 intro pins s σ H xs us Q I r h
 obtain ⟨cl, α, m, d, v, t, rfl, W, rv, ht, q⟩ := h
 obtain ⟨u, w, rfl, ru, rw'⟩ := zdR r
 cases rw'
 have kt := zgH (K := X.K) ht hn
 have old : ∀ {t' : Value}, TyOf X.K H v t' -> t' = .type t -> wpAny (model X.prog X.w) X.A (call (.builtin "isinstance") [u, .type n]) (EP X pins σ Q) X.xe s := fun {t'} ty e => by
  subst e
  exact zdC I ru ty kt fun tk => ⟨.bl _, H, I.tok _, rfl, q⟩
 unfold tyN at ht
 split at ht
 ·cases ht; rw [Rep] at rv; subst rv; exact old .non rfl
 ·cases ht; rw [Rep] at rv; subst rv; exact old (.bl _) rfl
 ·cases ht; rw [Rep] at rv; subst rv; exact old (.int _) rfl
 ·cases ht; rw [Rep] at rv; subst rv; exact old (.str _) rfl
 ·cases ht; rw [Rep] at rv; subst rv; exact old (.flt _) rfl
 ·cases ht
  rw [Rep] at rv
  obtain ⟨a, xs, rfl, h1, _⟩ := rv
  rcases h1 with h1 | ⟨o, _, _, k1, k2, _⟩
  ·exact old (.tup h1) rfl
  ·cases ru
   exact PySem.W.kia_one PySem.W.kitx_tuple I.kIn ⟨o, I.kIn a o k1, k2⟩ kt (fun z => nomatch z) fun tk => ⟨.bl _, H, I.tok _, rfl, q⟩
 ·cases ht
  rw [Rep] at rv
  obtain ⟨a, xs, rfl, _, h1, _⟩ := rv
  rcases h1 with h1 | ⟨o, h1⟩
  ·exact old (.lst h1) rfl
  ·exact old (.frz h1) rfl
 ·rw [Rep] at rv
  obtain ⟨a, ha, rfl⟩ := rv
  split at ht
  ·cases ht; obtain ⟨xs, h1, _⟩ := W.lst ha ‹_›; exact old (.lst h1) rfl
  ·cases ht; obtain ⟨xs, h1, _⟩ := W.dct ha ‹_›; exact old (.dK h1) rfl
  ·cases ht
 ·cases ht
theorem zbo {e : Expr} {fa : EV} {p p2 pos : Pos} {x : Str} {n : String} (hn : n ∈ zd0) (hg : Gl X "isinstance") (hm : X.mg "isinstance" = none) (hg2 : Gl X x) (hm2 : X.mg x = none) (hv : bootBuiltins x = some (.type n)) (ha : QE X cl ex e fa) (hx : autoParam (x ≠ "__name__") AutoP.a1._auto_1) (hdb : autoParam ((x == ("__debug__" : Str)) = false) AutoP.a1._auto_1)
  (he : autoParam (starEach [e, .Name x p2] X.env = (false, eval e X.env) :: starEach [.Name x p2] X.env) AutoP.a3._auto_1) (he2 : autoParam (starEach [.Name x p2] X.env = (false, eval (.Name x p2) X.env) :: starEach [] X.env) AutoP.a3._auto_1) (hpl : autoParam ((backTo pos (starEach [.Name x p2] X.env)).any (·.1) = false) AutoP.a3._auto_1) :
  QE X cl ex (.Call (.Name "isinstance" p) [e, .Name x p2] [] pos) (eUn (zbb n) fa) :=
 ⟨PE.weak (zcu (zkB hn) hg hm boot_isinstance (zaH ha.out (zaH (zeI (v := .ty n) hg2 hm2 hv rfl hx hdb) zbU he2) he) (by decide) (by decide) he hpl) fun σ H Q hh => ex3 hh fun α ρ m W hr h => tD.use W hr h fun α1 m1 H1 d v E1 W1 hr1 rv q1 => by
  unfold zbb at q1
  split at q1
  ·exact ⟨cl, α1, m1, d, v, _, rfl, W1, rv, ‹_›, PQ.ok W1 q1 _ zd4⟩
  ·exact q1.elim⟩
def inB (x : D) (ds : List D) : Option Bool := if deep x && (pyOkL ds && PyData.canLayAll0 (pyL ds)) then some ((pyL ds).any fun y => PyData.eqv y (py x)) else none
def inO (x y : D) (m : Sto) : Option Bool := match y with
 | .tup ds => inB x ds
 | .lst ds => inB x ds
 | .ob k => match m[k]? with
  | some (.lst ds) => inB x ds
  | some (.dct kvs) => match x with
   | .int i => some (zg4 kvs (.inl i)).isSome
   | .str z => some (zg4 kvs (.inr z)).isSome
   | _ => none
  | _ => none
 | .str j => match x with
  | .str i => some (!(Builtin.Str.occurrences j i 0 j.length 1).isEmpty)
  | _ => none
 | _ => none
def inD (x y : D) (m : Sto) : Res D := match inO x y m with
 | some b => .ok (.bl b) m
 | none => .bad
def rInS (K : PySem.W.Frag) (f : Bool -> Bool) : R2 := fun vx vy H Q => ∃ (α : List Addr) (x : D) (ds : List D) (p : Addr) (ys : List V), vy = .ref p /\ (SqL K H p ys ∨ SqT K H p ys) /\ RepL K α H ds ys /\ Rep K α H x vx /\ deep x = true /\ pyOkL ds = true /\ PyData.canLayAll0 (pyL ds) = true /\ Q (.bl (f ((pyL ds).any fun y => PyData.eqv y (py x)))) H
def rInD (f : Bool -> Bool) : R2 := fun x y H Q => ∃ a o, y = .ref a /\ DGet H a x o /\ Q (.bl (f o.isSome)) H
def rInT (f : Bool -> Bool) : R2 := fun x y H Q => ∃ i j, x = .str i /\ y = .str j /\ Q (.bl (f (!(Builtin.Str.occurrences j i 0 j.length 1).isEmpty))) H
def rInA (K : PySem.W.Frag) (f : Bool -> Bool) : R2 := fun x y H Q => rInS K f x y H Q ∨ rInD f x y H Q ∨ rInT f x y H Q
theorem op_inS (hu : X.A.units + 65 < cLine) : OpR X (compareOp .In) (rInS X.K id) := by
 intro pins s σ H vx vy v u Q I rx ry h
 obtain ⟨α, x, ds, p, ys, rfl, sq, r1, r2, d1, ok, cL, q⟩ := h
 cases ry
 rw [deep, Bool.and_eq_true] at d1
 obtain ⟨bs, h2⟩ := zbv I d1.1 r2 rx
 have c2 := SeqAt.canLay_of_shaped d1.2
 have rm := PyProof.Rows.room_in_shaped (A := X.A) (xs := pyL ds) d1.2 hu
 rcases sq with sq | sq
 ·obtain ⟨its, rv, ⟨o, n, e1, e2, _, e3⟩, _⟩ := I.list sq
  obtain ⟨as, h1⟩ := rep_readsL I ok r1 rv
  exact SeqAt.in_list_reads (Reads.list e1 e2 e3 (by simpa using h1)) h2 cL c2 rm ⟨.bl _, H, I, rfl, q⟩
 ·obtain ⟨its, rv, ⟨o, e1, e2, n, e3⟩, _⟩ := I.tuple sq
  obtain ⟨as, h1⟩ := rep_readsL I ok r1 rv
  exact SeqAt.in_tuple_reads (Reads.tuple e1 e2 e3 (by simpa using h1)) h2 cL c2 rm ⟨.bl _, H, I, rfl, q⟩
theorem op_inD (hu : X.A.units + 1 < cLine) : OpR X (compareOp .In) (rInD id) := by
 intro pins s σ H x y v u Q I rx ry h
 obtain ⟨a, o, rfl, g, q⟩ := h
 cases ry
 exact d_in hu I g rx fun s' I' => ⟨.bl _, H, I', rfl, q⟩
theorem hu65 {A : Around} {k : Nat} (hr : Room k A) : A.units + 65 < cLine := by have := hr.un; omega
theorem op_inA {k : Nat} (hr : Room k X.A) : OpR X (compareOp .In) (rInA X.K id) := OpR.or (op_inS (hu65 hr)) (OpR.or (op_inD (znJ hr)) zjz)
theorem znI {f : Bool -> Bool} {x y : D} {vx vy : V} {b : Bool} {Q : VK} (W : Wd K cl α m H) (e : inO x y m = some b) (rx : Rep K α H x vx) (ry : Rep K α H y vy) (q : Q (.bl (f b)) H) : rInA K f vx vy H Q := by
 have seq : ∀ {ds : List D} {p : Addr} {ys : List V}, inB x ds = some b -> vy = .ref p -> (SqL K H p ys ∨ SqT K H p ys) -> RepL K α H ds ys -> rInA K f vx vy H Q := fun {ds p ys} e1 e2 e3 e4 => by
  unfold inB at e1
  split at e1
  ·rename_i hc
   rw [Bool.and_eq_true, Bool.and_eq_true] at hc
   exact .inl ⟨α, x, ds, p, ys, e2, e3, e4, rx, hc.1, hc.2.1, hc.2.2, by rw [Option.some.inj e1]; exact q⟩
  ·cases e1
 unfold inO at e
 split at e
 ·rw [Rep] at ry; obtain ⟨a, ys, rfl, h1, r1⟩ := ry; exact seq e rfl (.inr h1.sq) r1
 ·rw [Rep] at ry; obtain ⟨a, ys, rfl, _, h1, r1⟩ := ry; exact seq e rfl (.inl (.inl h1)) r1
 ·rw [Rep] at ry
  obtain ⟨a, ha, rfl⟩ := ry
  split at e
  ·obtain ⟨ys, h1, r1⟩ := W.lst ha ‹_›; exact seq e rfl (.inl (SqL.of h1)) r1
  ·obtain ⟨ys, h1, r1⟩ := W.dct ha ‹_›
   have key : ∀ {k : L2.Key}, vx = kV k -> some (zg4 _ k).isSome = some b -> rInA K f vx (.ref a) H Q := fun {k} e1 e2 => by
    refine .inr (.inl ⟨a, zga ys k, rfl, by rw [e1]; exact DGet.k h1, ?_⟩)
    have : (zga ys k).isSome = b := by
     rw [<- Option.some.inj e2]
     cases h : zg4 _ k with
     | none => rw [(RepKV.val r1).2 h]; rfl
     | some d => obtain ⟨v, hv, _⟩ := (RepKV.val r1).1 d h; rw [hv]; rfl
    rw [this]
    exact q
   split at e
   ·rw [Rep] at rx; exact key (k := .inl _) rx e
   ·rw [Rep] at rx; exact key (k := .inr _) rx e
   ·cases e
  ·cases e
 ·split at e
  ·rw [Rep] at rx; rw [Rep] at ry; exact .inr (.inr ⟨_, _, rx, ry, by rw [Option.some.inj e]; exact q⟩)
  ·cases e
 ·cases e
theorem od_in : OpD K cl ex (rInA K id) inD := fun α m H x y vx vy Q W rx ry h => by
 unfold inD at h
 split at h
 ·exact znI (f := id) W ‹_› rx ry (PQ.ok W h _ zd4)
 ·exact h.elim
end
section
variable {X : Cx} {cl : Str -> Addr} {ex : XD} {o i e value : Expr} {fo fi fv : EV} {fr : AV} {pos p pos' : Pos}
def zj0 (d : D) : Option L2.Key := match d with
 | .int i => some (.inl i)
 | .str z => some (.inr z)
 | _ => none
def putS (x y v : D) (m : Sto) : Res Unit := match x with
 | .ob k => match m[k]?, zj0 y with
  | some (.dct kvs), some q => if kvs.length < sizeLine then .ok () (m.set k (.dct (zjl kvs q v))) else .bad
  | some (.lst ds), some (.inl i) => match ixN ds.length i with
   | some j => .ok () (m.set k (.lst (ds.set j v)))
   | none => .bad
  | _, _ => .bad
 | _ => .bad
theorem zjZ {K : PySem.W.Frag} {α : List Addr} {H : Hp} {d : D} {v : V} {k : L2.Key} (h : zj0 d = some k) (r : Rep K α H d v) : v = kV k := by
 unfold zj0 at h
 split at h
 ·cases h; rw [Rep] at r; exact r
 ·cases h; rw [Rep] at r; exact r
 ·cases h
def zfk (x y v : D) (m : Sto) : Res Unit := match x with
 | .ob k => match m[k]? with
  | some (.dct kvs) => match zj0 y with
   | some q => if kvs.length < sizeLine then .ok () (m.set k (.dct (zjl kvs q v))) else .bad
   | none => .bad
  | _ => .bad
 | _ => .bad
def zkZ (fo fi fv : EV) : SV := fun ρ m => (fv ρ m).bind fun v m1 => (fo ρ m1).bind fun x m2 => (fi ρ m2).bind fun y m3 => (zfk x y v m3).bind fun _ m4 => .ok (.nx ρ) m4
theorem zmN (hu : X.A.units + 1 < cLine) (ho : QE X cl ex o fo) (hi : QE X cl ex i fi) (hv : QE X cl ex value fv) (hs : swapsWith value (some (.Subscript o i pos')) pos.line X.env = pure false) :
  QS X cl ex (.Assign [.Subscript o i pos'] value pos) (zkZ fo fi fv) :=
 ⟨PS.weak (zm2 hu ho.out hi.out hv.out hs) fun D σ H hh => ex3 hh fun α ρ m W hr h => tD.use W hr h fun α1 m1 H1 dv v E1 W1 hr1 rv q1 => tD.use W1 hr1 q1 fun α2 m2 H2 dx x E2 W2 hr2 rx q2 => tD.use W2 hr2 q2 fun α3 m3 H3 dy y E3 W3 hr3 ry q3 => by
  have rv := rv.mono W1 (E2.trans E3)
  have rx := rx.mono W2 E3
  unfold zfk at q3
  split at q3
  ·rw [Rep] at rx
   obtain ⟨a, ha, rfl⟩ := rx
   split at q3
   ·rename_i k _ kvs e
    split at q3
    ·rename_i q ek
     split at q3
     ·rename_i hc
      obtain ⟨ys, h1, r1⟩ := W3.dct ha e
      obtain ⟨W4, E4⟩ := W3.set (u := .dK (zds ys q v)) (o := .dct (zjl kvs q dv)) ha fun E => ⟨_, zap, RepKV.put (rv.mono W3 E) (r1.mono W3 E)⟩
      refine ⟨a, _, rfl, by rw [zjZ ek ry]; exact DPut.k h1 (by rw [<- r1.length]; exact hc), ?_⟩
      exact (show PQ X.K cl ex (.ok (.nx ρ) (m3.set k (.dct (zjl kvs q dv)))) α3 H3 fun fl α' _ H' => zbB X.K D fl α' H' from q3) _ _ E4 W4 _ (hr3.mono W3 E4)
     ·exact q3.elim
    ·exact q3.elim
   ·exact q3.elim
  ·exact q3.elim⟩
def zdv : List (Str × EV) -> En -> Sto -> Res (List (L2.Key × D))
 | [], _, m => .ok [] m
 | (k, f) :: r, ρ, m => (f ρ m).bind fun d m1 => (zdv r ρ m1).bind fun ps m2 => .ok ((.inr k, d) :: ps) m2
def zjO (more : List (L2.Key × D)) : List (L2.Key × D) := more.foldl (fun acc kv => zjl acc kv.1 kv.2) []
def zeY (fs : List (Str × EV)) : EV := fun ρ m => (zdv fs ρ m).bind fun ps m1 => .ok (.ob m1.length) (m1 ++ [.dct (zjO ps)])
inductive QPs (X : Cx) (cl : Str -> Addr) (ex : XD) : List (Option Expr) -> List Expr -> List (Str × EV) -> Prop where
 | nil : QPs X cl ex [] [] []
 | cons {k : Str} {j} {pk : Pos} {v : Expr} {f : EV} {ks : List (Option Expr)} {vs : List Expr} {fs : List (Str × EV)} : QE X cl ex v f -> QPs X cl ex ks vs fs -> QPs X cl ex (some (.Constant (.str k) j pk) :: ks) (v :: vs) ((k, f) :: fs)
theorem QPs.pps {ks : List (Option Expr)} {vs : List Expr} {fs : List (Str × EV)} (h : QPs X cl ex ks vs fs) : PPs X pos ks vs (fs.map fun q => (tC (.str q.1), tD X.K cl ex q.2)) := by
 induction h with
 | nil => exact zm3
 | cons hv _ ih => exact zla zl7 hv.out ih
theorem QPs.keys {ks : List (Option Expr)} {vs : List Expr} {fs : List (Str × EV)} (h : QPs X cl ex ks vs fs) : ks.all (·.isSome) = true /\ ks.length = vs.length /\ ks.length = fs.length := by
 induction h with
 | nil => exact ⟨rfl, rfl, rfl⟩
 | cons _ _ ih => exact ⟨by rw [List.all_cons, ih.1]; rfl, by rw [List.length_cons, List.length_cons, ih.2.1], by rw [List.length_cons, List.length_cons, ih.2.2]⟩
theorem ze7 {K : PySem.W.Frag} {σ : L2.St} {ρ : En} {R : RD (List (L2.Key × D))} : ∀ (fs : List (Str × EV)) {α : List Addr} {m : Sto} {H : Hp} {Q : List (V × V) -> Hp -> Prop}, Wd K cl α m H -> RepE K α H ρ σ -> PQ K cl ex (zdv fs ρ m) α H R →
  (∀ α1 m1 H1 ps vs, Ext α H α1 H1 -> Wd K cl α1 m1 H1 -> RepE K α1 H1 ρ σ -> ps.length = fs.length -> RepKV K α1 H1 ps vs -> R ps α1 m1 H1 -> Q (vs.map fun kv => (kV kv.1, kv.2)) H1) -> zg8 (fs.map fun q => (tC (.str q.1), tD K cl ex q.2)) σ H Q
 | [], α, m, H, Q, W, hr, h, hQ => hQ α m H [] [] (Ext.refl W) W hr rfl rfl (PQ.ok W h)
 | (k, f) :: r, α, m, H, Q, W, hr, h, hQ => by
  refine tD.use W hr h fun α1 m1 H1 d v E1 W1 hr1 rv q1 => ?_
  refine ze7 (R := fun ps α2 m2 H2 => R ((.inr k, d) :: ps) α2 m2 H2) r W1 hr1 (PQ.mono (Ext.refl W1) q1.bind fun ps α2 m2 H2 E2 W2 q2 => PQ.ok W2 q2) fun α2 m2 H2 ps vs E2 W2 hr2 hl rps q2 => ?_
  exact hQ α2 m2 H2 ((.inr k, d) :: ps) ((.inr k, v) :: vs) (E1.trans E2) W2 hr2 (by rw [List.length_cons, List.length_cons, hl]) ⟨v, vs, rfl, rv.mono W1 E2, rps⟩ q2
theorem zff {K : PySem.W.Frag} {α : List Addr} {H : Hp} : ∀ (ps : List (L2.Key × D)) {vs : List (L2.Key × V)} {qs : List (L2.Key × D)} {us : List (L2.Key × V)}, RepKV K α H ps vs -> RepKV K α H qs us -> RepKV K α H (ps.foldl (fun acc kv => zjl acc kv.1 kv.2) qs) (zbV us vs)
 | [], _, _, _, h, h' => by
  cases (show _ = [] from h)
  exact h'
 | p :: r, _, _, _, ⟨v, r', e, h1, h2⟩, h' => by
  subst e
  exact (show RepKV K α H _ (zbV (zds _ p.1 v) r') from zff r h2 (RepKV.put h1 h'))
theorem zmT {ks : List (Option Expr)} {vs : List Expr} {fs : List (Str × EV)} (h : QPs X cl ex ks vs fs) (h0 : ks ≠ []) (h15 : ks.length <= 15) : QE X cl ex (.Dict ks vs pos) (zeY fs) :=
 ⟨PE.weak (znc h.pps h.keys.1 h.keys.2.1 h0 h15) fun σ H Q hh => ex3 hh fun α ρ m W hr q p hp => by
  have s0 := Same.new (o := .dK []) hp
  have W0 := W.same s0
  have E0 := Ext.of_same W s0
  refine ze7 (R := fun ps α1 m1 H1 => PQ X.K cl ex (.ok (.ob m1.length) (m1 ++ [.dct (zjO ps)])) α H fun d α' _ H' => ∀ v, Rep X.K α' H' d v -> Q v H') fs W0 (hr.mono W E0) ?_ fun α1 m1 H1 ps us E1 W1 hr1 hl rps q1 => ?_
  ·cases hf : zdv fs ρ m with
   | ok ps m1 => rw [show zeY fs ρ m = (zdv fs ρ m).bind _ from rfl, hf] at q; exact fun _ _ _ _ => q
   | exc c m1 => rw [show zeY fs ρ m = (zdv fs ρ m).bind _ from rfl, hf] at q; exact fun α2 H2 E2 W2 => q α2 H2 (E0.trans E2) W2
   | bad => rw [show zeY fs ρ m = (zdv fs ρ m).bind _ from rfl, hf] at q; exact q
  have pn : p ∉ α := W.nin hp
  have pk : H1 p = some (.dK []) := E1.keep p _ zap pn
  have E01 : Ext α H α1 H1 := E0.trans E1
  have pn1 : p ∉ α1 := fun z => by
   obtain ⟨β, rfl, hb⟩ := E1.pre
   rcases List.mem_append.mp z with z | z
   ·exact pn z
   ·have := hb p z
    rw [zap] at this
    cases this
  refine ⟨pk, us, rfl, by rw [<- rps.length, hl, <- h.keys.2.2]; exact h15, ?_⟩
  have keep : ∀ a o, H1 a = some o -> a ≠ p -> upd H1 p (.dK (zbV [] us)) a = some o := fun a o e n => by rw [zal n]; exact e
  have kp : Kp α1 H1 (α1 ++ [p]) (upd H1 p (.dK (zbV [] us))) := by
   refine ⟨⟨[p], rfl⟩, (fun a xs e => keep a _ e fun z => by rw [z, pk] at e; cases e), (fun a xs n e => ?_), (fun a xs e => keep a _ e fun z => by rw [z, pk] at e; cases e), fun a xs e => keep a _ e fun z => by rw [z, pk] at e; cases e⟩
   have hap : a ≠ p := fun z => by
    rcases e with e | ⟨_, e⟩ <;> rw [z, pk] at e <;> cases e
   refine ⟨fun z => ?_, ?_⟩
   ·rcases List.mem_append.mp z with z | z
    ·exact n z
    ·exact hap (List.mem_singleton.mp z)
   ·rcases e with e | ⟨o, e⟩
    ·exact .inl (keep a _ e hap)
    ·exact .inr ⟨o, keep a _ e hap⟩
  have W2 := W1.join (u := .dK (zbV [] us)) (o := .dct (zjO ps)) pn1 kp ⟨_, zap, zff ps (rps.kp kp) (show RepKV X.K _ _ [] [] from rfl)⟩
  have E2 : Ext α H (α1 ++ [p]) (upd H1 p (.dK (zbV [] us))) := by
   obtain ⟨β, hβ, hb⟩ := E01.pre
   refine ⟨⟨β ++ [p], by rw [hβ, List.append_assoc], fun b hbm => ?_⟩, fun a o e n => ?_, fun a ha => ?_, fun a o u e => keep a _ (E01.frzs a o u e) (zan e hp)⟩
   ·rcases List.mem_append.mp hbm with z | z
    ·exact hb b z
    ·rw [List.mem_singleton.mp z]; exact hp
   ·exact keep a o (E01.keep a o e n) (zan e hp)
   ·rw [zal (fun z => pn (by rw [<- z]; exact ha))]; exact E01.there a ha
  refine q1 _ _ E2 W2 _ ?_
  rw [Rep]
  refine ⟨p, ?_, rfl⟩
  rw [<- W1.len, List.getElem?_append_right (Nat.le_refl _)]
  simp⟩
end
structure FnX (P : Program) (w : World) (K : PySem.W.Frag) (mg : Str -> Option Value) (base : Heap) (cl : Str -> Addr) (x : Str) (k n : Nat) (g : List D -> Sto -> Res D) : Prop where
 ex : ∃ (f : Addr) (fd : FuncData) (ps : List Str), mg x = some (.ref f) /\ PySem.W.keepIn K (.ref f) = true /\ Binds K fd ps [] /\ FnOk P w K mg base CX0 k f fd ps (spD K cl X0 n g)
theorem qe_fn {X : Cx} {cl : Str -> Addr} {e : Expr} {es : List Expr} {fr : AV} {p pos : Pos} {x : Str} {k n : Nat} {g : List D -> Sto -> Res D} (h : FnX X.prog X.w X.K X.mg X.base cl x k n g) (hn : n = (e :: es).length) (hr : Room k X.A) (hg : Gl X x)
  (ha : QA X cl X0 (e :: es) fr) (hlen : ∀ ρ m ds m1, fr ρ m = .ok ds m1 -> ds.length = (e :: es).length) (hdb : autoParam ((x == ("__debug__" : Str)) = false) AutoP.a1._auto_1) (he : autoParam (starEach (e :: es) X.env = (false, eval e X.env) :: starEach es X.env) AutoP.a3._auto_1) (hpl : autoParam ((backTo pos (starEach es X.env)).any (·.1) = false) AutoP.a3._auto_1) :
  QE X cl X0 (.Call (.Name x p) (e :: es) [] pos) (eFn g fr) := by
 obtain ⟨f, fd, ps, h1, h2, h3, h4⟩ := h.ex
 exact zmU h4 hn hr hg h1 h2 h3 ha hlen hdb he hpl
theorem FnX.mk' {P : Program} {w : World} {K : PySem.W.Frag} {mg : Str -> Option Value} {base : Heap} {cl : Str -> Addr} {x qual : Str} {st : Stmt} {f : Addr} {fd : FuncData} {N ps : List Str} {k n : Nat} {body : SV} (F : Fun K x qual st f fd) (b : Binds K fd ps []) (m : mg x = some (.ref f)) (S : FnScope N ps (zah st)) (hn : n = ps.length)
  (h : ∀ (cdv : Value) (A : Around) (outer : List PySem.Env) (s : Shared) (H : Hp) (E : XK), Room k (A.deeper (envOfC qual (zah st) s.heap.objs.size f cdv)) -> QSs (zfQ CX0 P w K mg base N qual (zah st) f cdv A outer s H E).nox cl X0 (za0 st) body) : FnX P w K mg base cl x (k + 1) n (zbR N.length body) :=
 ⟨f, fd, ps, m, F.kp, b, F.ok S (fun vs H Q E h => by rw [<- hn]; exact h.1) fun cdv A outer s H vs Q E hr q => ⟨_, (h cdv A outer s H E hr).out, fn_d q⟩⟩
theorem FnX.none {P : Program} {w : World} {K : PySem.W.Frag} {mg : Str -> Option Value} {base : Heap} {cl : Str -> Addr} {x qual : Str} {st : Stmt} {f : Addr} {fd : FuncData} {ps : List Str} {k n : Nat} (F : Fun K x qual st f fd) (b : Binds K fd ps []) (m : mg x = some (.ref f)) : FnX P w K mg base cl x k n (fun _ _ => .bad) :=
 ⟨f, fd, ps, m, F.kp, b, ⟨fun vs H Q E h => (by obtain ⟨_, _, _, _, _, _, q⟩ := h; exact q.elim), fun A outer s H args us vs Q E _ _ _ _ h => (by obtain ⟨_, _, _, _, _, _, q⟩ := h; exact q.elim)⟩⟩
theorem fnO {P : Program} {w : World} {K : PySem.W.Frag} {mg : Str -> Option Value} {base : Heap} {cl : Str -> Addr} {x qual : Str} {st : Stmt} {f : Addr} {fd : FuncData} {N ps : List Str} {k n : Nat} {body : SV} (F : Fun K x qual st f fd) (S : FnScope N ps (zah st)) (hn : n = ps.length)
  (h : ∀ (cdv : Value) (A : Around) (outer : List PySem.Env) (s : Shared) (H : Hp) (E : XK), Room k (A.deeper (envOfC qual (zah st) s.heap.objs.size f cdv)) -> QSs (zfQ CX0 P w K mg base N qual (zah st) f cdv A outer s H E).nox cl X0 (za0 st) body) : FnOk P w K mg base CX0 (k + 1) f fd ps (spD K cl X0 n (zbR N.length body)) :=
 F.ok S (fun vs H Q E h => by rw [<- hn]; exact h.1) fun cdv A outer s H vs Q E hr q => ⟨_, (h cdv A outer s H E hr).out, fn_d q⟩
def spLaw (K : PySem.W.Frag) : Sp := fun vs H Q _ => ∃ (a : Addr) (ns : List Int), vs = [.ref a] /\ SqL K H a (ns.map V.int) /\ ns.length <= 63 /\ ∀ H', Q (.bl true) H'
theorem zfg {K : PySem.W.Frag} {α : List Addr} {H : Hp} : ∀ ns : List Int, RepL K α H (ns.map D.int) (ns.map V.int)
 | [] => by simp [RepL]
 | a :: r => by
  rw [List.map_cons, List.map_cons, RepL]
  exact ⟨_, _, rfl, by rw [Rep], zfg r⟩
theorem law_sp {K : PySem.W.Frag} {cl : Str -> Addr} {g : List D -> Sto -> Res D} (h : ∀ ns : List Int, ns.length <= 63 -> ∃ a m, g [.scr (ns.map D.int)] [] = .ok a m /\ a = .bl true) : ∀ vs H Q E, spLaw K vs H Q E -> spD K cl X0 1 g vs H Q E := by
 rintro vs H Q E ⟨a, ns, rfl, hS, hlen, q⟩
 obtain ⟨_, m', e, rfl⟩ := h ns hlen
 refine ⟨rfl, [], [], [.scr (ns.map D.int)], ⟨rfl, List.nodup_nil, fun k a o h => by simp at h⟩, ?_, ?_⟩
 ·rw [RepL]
  refine ⟨_, _, rfl, ?_, by rw [RepL]⟩
  rw [Rep]
  refine ⟨a, _, rfl, ?_, zfg ns⟩
  rcases hS with hS | hS
  ·exact .inl ⟨by simp, hS⟩
  ·exact .inr hS
 ·rw [e]
  intro α' H' _ _ v r
  rw [Rep] at r
  subst r
  exact q H'
theorem law_fn {P : Program} {w : World} {K : PySem.W.Frag} {mg : Str -> Option Value} {base : Heap} {cl : Str -> Addr} {k : Nat} {f : Addr} {fd : FuncData} {ps : List Str} {g : List D -> Sto -> Res D} (F : FnOk P w K mg base CX0 k f fd ps (spD K cl X0 1 g)) (h : ∀ ns : List Int, ns.length <= 63 -> ∃ a m, g [.scr (ns.map D.int)] [] = .ok a m /\ a = .bl true) : FnOk P w K mg base CX0 k f fd ps (spLaw K) := F.imp (law_sp h)
theorem usS {us : List Value} {n : Nat} (hl : us.length = n + 1) : ∃ a r, us = a :: r /\ r.length = n := by
 cases us with
 | nil => exact absurd hl (by simp)
 | cons a r => exact ⟨a, r, rfl, Nat.succ.inj hl⟩
theorem us0 {us : List Value} (hl : us.length = 0) : us = [] := List.length_eq_zero_iff.mp hl
theorem us1 {us : List Value} (hl : us.length = 1) : ∃ (a0 : Value), us = [a0] := by
 obtain ⟨a0, r, rfl, h⟩ := usS hl
 obtain rfl := us0 h
 exact ⟨a0, rfl⟩
theorem us2 {us : List Value} (hl : us.length = 2) : ∃ (a0 a1 : Value), us = [a0, a1] := by
 obtain ⟨a0, r, rfl, h⟩ := usS hl
 obtain ⟨a1, rfl⟩ := us1 h
 exact ⟨a0, a1, rfl⟩
theorem us3 {us : List Value} (hl : us.length = 3) : ∃ (a0 a1 a2 : Value), us = [a0, a1, a2] := by
 obtain ⟨a0, r, rfl, h⟩ := usS hl
 obtain ⟨a1, a2, rfl⟩ := us2 h
 exact ⟨a0, a1, a2, rfl⟩
end MD
set_option autoImplicit false
namespace HT
open PySem PySem.Spec PyProof.Rows L2
end HT
namespace MD
open PySem PySem.Spec PyProof.Rows L2
def slA (x : D) (lo hi : Option Int) (m : Sto) : Res D := match x with
 | .tup ds => .ok (.tup (zhK ds lo hi)) m
 | d => slD d lo hi m
def eSlA (f : EV) (lo hi : OV) : EV := fun ρ m => (f ρ m).bind fun x m1 => (lo ρ m1).bind fun l m2 => (hi ρ m2).bind fun h m3 => slA x l h m3
end MD
set_option autoImplicit false
namespace HT
open PySem PySem.Spec PyProof.Rows L2
section
variable {prog : Program} {w : World} {A : Around} {E : Value -> Shared -> Prop} {s : Shared}
theorem pick_rev (xs : Array Value) : ((List.range xs.size).filterMap fun (m : Nat) => xs[((xs.size : Int) - 1 + (m : Int) * -1).toNat]?).toArray = xs.toList.reverse.toArray := by
 congr 1
 have h : ∀ m ∈ List.range xs.size, xs[((xs.size : Int) - 1 + (m : Int) * -1).toNat]? = some ((xs.toList.reverse)[m]?.getD default) := by
  intro m hm
  have hm' : m < xs.size := List.mem_range.mp hm
  have e : ((xs.size : Int) - 1 + (m : Int) * -1).toNat = xs.size - 1 - m := by omega
  rw [e, List.getElem?_reverse (by simpa using hm'), Array.length_toList, Array.getElem?_toList, Array.getElem?_eq_getElem (by omega)]
  rfl
 have h2 : (List.range xs.size).filterMap (fun (m : Nat) => xs[((xs.size : Int) - 1 + (m : Int) * -1).toNat]?) = (List.range xs.size).filterMap fun m => some ((xs.toList.reverse)[m]?.getD default) := by
  have cg : ∀ (f g : Nat -> Option Value) (l : List Nat), (∀ m ∈ l, f m = g m) -> l.filterMap f = l.filterMap g := by
   intro f g l
   induction l with
   | nil => intro _; rfl
   | cons a l ih =>
    intro hh
    rw [List.filterMap_cons, List.filterMap_cons, hh a (by simp), ih fun m hm => hh m (List.mem_cons_of_mem _ hm)]
  exact cg _ _ _ h
 rw [h2, List.filterMap_eq_map']
 refine List.ext_getElem? fun i => ?_
 rcases Nat.lt_or_ge i xs.size with hi | hi
 ·rw [List.getElem?_map, List.getElem?_range hi, Option.map_some]
  have : i < xs.toList.reverse.length := by simpa using hi
  rw [List.getElem?_eq_getElem this]
  rfl
 ·rw [List.getElem?_eq_none (by simpa using hi), List.getElem?_eq_none (by simpa using hi)]
end
end HT
namespace MD
open PySem PySem.Spec PyProof.Rows L2
theorem RepL.rev {K : PySem.W.Frag} {α : List Addr} {H : Hp} : ∀ {ds : List D} {vs : List V}, RepL K α H ds vs -> RepL K α H ds.reverse vs.reverse
 | [], [], r => r
 | [], _ :: _, r => by simp [RepL] at r
 | _ :: _, [], r => by simp [RepL] at r
 | d :: ds, v :: vs, r => by
  rw [RepL] at r
  obtain ⟨v', r', e, r1, r2⟩ := r
  cases e
  rw [List.reverse_cons, List.reverse_cons]
  exact RepL.append (RepL.rev r2) (RepL.one r1)
section
variable {X : Cx} {K : PySem.W.Frag} {cl : Str -> Addr} {ex : XD} {α : List Addr} {m : Sto} {H : Hp} {pos : Pos}
theorem zk6 : QE X cl ex (.Dict [] [] pos) (zeY []) :=
 ⟨PE.weak zlg fun σ H Q hh => ex3 hh fun α ρ m W hr q p hp => by
  obtain ⟨W2, E2⟩ := W.new (u := .dK []) (o := .dct []) hp ⟨_, zap, (show RepKV X.K _ _ [] [] from rfl)⟩
  have q' : PQ X.K cl ex (.ok (.ob m.length) (m ++ [.dct []])) α H fun d α' _ H' => ∀ v, Rep X.K α' H' d v -> Q v H' := q
  refine q' _ _ E2 W2 _ ?_
  rw [Rep]
  refine ⟨p, ?_, rfl⟩
  rw [<- W.len, List.getElem?_append_right (Nat.le_refl _), Nat.sub_self]
  rfl⟩
end
def zkh : Nat := 1000000
def zeg : SV :=
 (zaV (eFn gL1 (zaQ 1 (aIt (eOp ixD (zae 0) (eC (.int 0)))) (gN 1) za2 (eOp ixD (zae 1) (eC (.int 1))))))
def zbZ : List D -> Sto -> Res D := zbR 1 zeg
def zdH : SV :=
 (zaV (zlI (eUn (zbb "int") (zae 0)) (eNot (eUn (zbb "bool") (zae 0)))))
def zaN : List D -> Sto -> Res D := zbR 1 zdH
def zcm : SV :=
 (zaV (zlI (eFn zaN (zac (zae 0) zak)) (zb9 leD leD (zae 1) (zae 0) (zae 2))))
def za3 : List D -> Sto -> Res D := zbR 3 zcm
def zdI : SV :=
 (zaV (eFn za3 (zac (zae 0) (zac (eC (.int 0)) (zac (eOp zkS (eOp zkV (eC (.int 1)) (zae 1)) (eC (.int 1))) zak)))))
def zbc : List D -> Sto -> Res D := zbR 2 zdI
def zkg : SV :=
 (zaV (zlI (eUn (zbb "tuple") (zae 0)) (zb9 leD leD (zae 1) (eFn zdW (zac (zae 0) zak)) (zae 2))))
def zfM : List D -> Sto -> Res D := zbR 3 zkg
section
variable {X : Cx} {K : PySem.W.Frag} {cl : Str -> Addr} {ex : XD} {o i : Expr} {fo fi : EV} {pos : Pos}
def putL (x y v : D) (m : Sto) : Res Unit := match x, y with
 | .ob k, .int i => match m[k]? with
  | some (.lst ds) => match ixN ds.length i with
   | some j => .ok () (m.set k (.lst (ds.set j v)))
   | none => .bad
  | _ => .bad
 | _, _ => .bad
def gI (fo fi : EV) : GV := fun d ρ m => (fo ρ m).bind fun x m1 => (fi ρ m1).bind fun y m2 => (putL x y d m2).bind fun _ m3 => .ok ρ m3
theorem RepL.put {α : List Addr} {H : Hp} {d : D} {v : V} (h : Rep K α H d v) : ∀ {ds : List D} {vs : List V} (j : Nat), RepL K α H ds vs -> RepL K α H (ds.set j d) (vs.set j v)
 | [], vs, j, r => by
  rw [RepL] at r
  subst r
  simp [RepL]
 | e :: ds, vs, j, r => by
  rw [RepL] at r
  obtain ⟨u, us, rfl, r1, r2⟩ := r
  cases j with
  | zero => rw [List.set_cons_zero, List.set_cons_zero, RepL]; exact ⟨v, us, rfl, h, r2⟩
  | succ j => rw [List.set_cons_succ, List.set_cons_succ, RepL]; exact ⟨u, _, rfl, r1, RepL.put h j r2⟩
theorem zmO (ho : QE X cl ex o fo) (hi : QE X cl ex i fi) (ha : autoParam (∀ v, assign (.Subscript o i pos) X.env v = (do
   let ov <- holding [v] (eval o X.env)
   let iv <- holding [v, ov] (eval i X.env)
   standAt pos
   holding [v, ov, iv] (setItem ov iv v)
   release [v, ov, iv] [])) AutoP.a2._auto_1) : QG X cl ex (.Subscript o i pos) (gI fo fi) :=
 ⟨PG.weak (pg_sub ho.out hi.out zkX ha) fun v σ H Q ⟨α, ρ, m, d, W, hr, rv, h⟩ => tD.use W hr h fun α1 m1 H1 dx x E1 W1 hr1 rx q1 => tD.use W1 hr1 q1 fun α2 m2 H2 dy y E2 W2 hr2 ry q2 => by
  have rv := rv.mono W (E1.trans E2)
  have rx := rx.mono W1 E2
  unfold putL at q2
  split at q2
  ·rw [Rep] at rx
   rw [Rep] at ry
   obtain ⟨a, ha, rfl⟩ := rx
   subst ry
   split at q2
   ·rename_i ds e
    split at q2
    ·rename_i j' ej
     obtain ⟨ys, h1, r1⟩ := W2.lst ha e
     obtain ⟨W4, E4⟩ := W2.set (u := .lst (ys.set j' v)) (o := .lst (ds.set j' d)) ha fun E => ⟨_, zap, RepL.put (rv.mono W2 E) j' (r1.mono W2 E)⟩
     refine ⟨a, ys, _, j', rfl, rfl, h1, by rw [<- r1.length]; exact ej, ?_⟩
     exact (show PQ X.K cl ex (.ok ρ (m2.set _ (.lst (ds.set j' d)))) α2 H2 _ from q2) _ _ E4 W4 _ (hr2.mono W2 E4)
    ·exact q2.elim
   ·exact q2.elim
  ·exact q2.elim⟩
end
def zhx : SV :=
 (zaG (za1 (eFn zbZ (zac (zae 0) zak)) (gN 2))
 (zaG (sIf (zca (tV (eFn zfM (zac (zae 1) (zac (eFn zdW (zac (zae 2) zak)) (zac (eFn zdW (zac (zae 2) zak)) zak))))))
 (zaV (eC (.bl false)))
 zb4)
 (zaV (eFn zlP (zac (eFn gL1 (zaQ 2 (aZip (zae 1) (zae 2)) (gT 2 (za9 (gN 3) (za9 (gN 4) zeV))) za2 (eFn zbc (zac (zae 3) (zac (zae 4) zak))))) zak)))))
def zcP : List D -> Sto -> Res D := zbR 3 zhx
end MD
namespace L2
open PySem PySem.Spec PyProof.Rows
variable {X : Cx} {e : Expr} {te : TE} {pos : Pos}
end L2
set_option autoImplicit false
namespace MD
open PySem PySem.Spec PyProof.Rows L2
def znt (x y : D) (m : Sto) : Res D := match x, y with
 | .int i, .int j => if i.natAbs.log2 < 1100 /\ j.natAbs.log2 < 1100 then .ok (.int (i * j)) m else .bad
 | _, _ => .bad
theorem zjK : ∃ f : D -> D -> Sto -> Res D, f = znt := ⟨_, rfl⟩
def znu : D -> D -> Sto -> Res D := Classical.choose zjK
theorem zjL : znu = znt := Classical.choose_spec zjK
theorem zfZ {a : Int} (h : a.natAbs.log2 < 1100) : Builtin.Int.intBits a <= 2 ^ 20 := by
 unfold Builtin.Int.intBits
 split
 ·exact Nat.zero_le _
 ·exact Nat.le_trans (Nat.succ_le_of_lt h) (by decide)
theorem zeJ {X : Cx} : OpR X (binaryOp .Mult) (rI IntMulOk fun i j => .int (i * j)) := opI fun _ _ _ _ _ _ _ hc q => mul_int q hc
theorem zeQ {K : PySem.W.Frag} {cl : Str -> Addr} {ex : XD} : OpD K cl ex (rI IntMulOk fun i j => .int (i * j)) znu := fun α m H x y vx vy Q W rx ry h => by
 rw [zjL] at h; unfold znt at h
 split at h
 ·rw [Rep] at rx ry; obtain ⟨hc, h⟩ := PQ.if h; exact ⟨_, _, rx, ry, IntMulOk.of_bits (zfZ hc.1) (zfZ hc.2), PQ.ok W h _ zdP⟩
 ·exact h.elim
open Classical in
def grd {τ : Type} (k : Nat) (o : MO) (m : Sto) (r : Res τ) : Res τ := if m[k]? = some o then r else .bad
def zjS (k : Nat) (o : MO) (g : GV) (body : SV) : List D -> En -> Sto -> Res Fl
 | [], ρ, m => grd k o m (.ok (.nx ρ) m)
 | d :: r, ρ, m => grd k o m ((g d ρ m).bind fun ρ1 m1 => (body ρ1 m1).bind fun fl m2 => match fl with
  | .nx ρ2 => zjS k o g body r ρ2 m2
  | .ct ρ2 => zjS k o g body r ρ2 m2
  | .bk ρ2 => .ok (.nx ρ2) m2
  | .rt d => .ok (.rt d) m2)
abbrev OI := En -> Sto -> Res (Nat × MO × List D)
def asObj (d : D) (m : Sto) : Res (Nat × MO × List D) := match d with
 | .ob k => match m[k]? with
  | some (.lst xs) => .ok (k, .lst xs, xs) m
  | _ => .bad
 | _ => .bad
def aObj (fa : EV) : OI := fun ρ m => (fa ρ m).bind asObj
def sForO (it : OI) (g : GV) (body : SV) : SV := fun ρ m => (it ρ m).bind fun t m1 => zjS t.1 t.2.1 g body t.2.2 ρ m1
end MD
set_option autoImplicit false
namespace L2
open PySem PySem.Spec PyProof.Rows
end L2
namespace MD
open PySem L2
variable {K : PySem.W.Frag} {cl : Str -> Addr} {ex : XD}
end MD
set_option autoImplicit false
namespace MD
open PySem PySem.Spec PyProof.Rows L2
def fldM (c f : Str) (x : D) (m : Sto) : Res D := match x with
 | .ob k => match m[k]? with
  | some (.ins c' fs) => if c' = c then opt (fs.lookup f) m else .bad
  | _ => .bad
 | _ => .bad
def eFld (c f : Str) (fa : EV) : EV := fun ρ m => (fa ρ m).bind (fldM c f)
def putFD (f : Str) (v : D) : List (Str × D) -> List (Str × D)
 | [] => [(f, v)]
 | (g, x) :: r => if g = f then (g, v) :: r else (g, x) :: putFD f v r
def setM (c f : Str) (x y : D) (m : Sto) : Res Unit := match x with
 | .ob k => match m[k]? with
  | some (.ins c' fs) => if c' = c /\ fs.length < 1000 then .ok () (m.set k (.ins c (putFD f y fs))) else .bad
  | _ => .bad
 | _ => .bad
def sFldM (c f : Str) (fo fv : EV) : SV := fun ρ m => (fv ρ m).bind fun y m1 => (fo ρ m1).bind fun x m2 => (setM c f x y m2).bind fun _ m3 => .ok (.nx ρ) m3
def znH (c mth : Str) (x : D) (m : Sto) : Bool := match x with
 | .ob k => match m[k]? with
  | some (.ins c' fs) => decide (c' = c) && (fs.lookup mth).isNone
  | _ => false
 | _ => false
def eMth (c mth : Str) (g : List D -> Sto -> Res D) (fo : EV) (fr : AV) : EV := fun ρ m => (fo ρ m).bind fun x m1 => if znH c mth x m1 = true then (fr ρ m1).bind fun ds m2 => g (x :: ds) m2 else .bad
end MD
set_option autoImplicit false
namespace L2
open PySem PySem.Spec PyProof.Rows
theorem zd6 : ∀ (bs : List Bool), ((List.range bs.length).any fun i => bs.getD i false) = bs.any id
 | [] => rfl
 | b :: r => by
  rw [List.length_cons, List.range_succ_eq_map, List.any_cons, List.any_map, List.any_cons]
  have e : ((fun i => (b :: r).getD i false) ∘ Nat.succ) = fun i => r.getD i false := by
   funext i
   simp
  rw [e, zd6 r]
  simp
theorem zkF {bs : List Bool} {its : List Value} (r : Vals (bs.map V.bl) its) {i : Nat} {v : Value} (h : its.toArray[i]? = some v) : v = .bool (bs.getD i false) := by
 have hi : i < its.length := by
  have := (Array.getElem?_eq_some_iff.mp h).1
  simpa using this
 have hl := r.length
 rw [List.length_map] at hl
 have := zhQ r h
 rw [this]
 congr 1
 simp [List.getD, show i < bs.length by omega]
theorem zkE {X : Cx} (hc : X.calm = true) : CallR X (.builtin "any") (fun xs H Q => ∃ (l : Addr) (bs : List Bool), xs = [.ref l] /\ SqL X.K H l (bs.map V.bl) /\ Q (.bl (bs.any id)) H) := by
 intro pins s σ H xs us Q I r h
 obtain ⟨l, bs, rfl, hq, q⟩ := h
 obtain ⟨u, rfl, rx⟩ := zbC r
 cases rx
 obtain ⟨its, r', pl, hz⟩ := I.list hq
 have hl := pl.isList
 have hlt : l < s.heap.objs.size := by obtain ⟨_, e, _⟩ := hl; exact Heap.lt_size e
 have hlen : bs.length = its.length := by rw [<- r'.length, List.length_map]
 refine call_any_walk (wpAny_pyIter_list hl ?_)
 refine ⟨s.heap.objs.size, _, _, its.toArray.size, _, _, fun i => bs.getD i false, rfl, Walks.list (A := X.A.in1) (I.ok.hd hc) _ l (Nat.ne_of_lt hlt) its.toArray, ⟨⟨_, Heap.get?_push_size _ rfl, rfl, rfl⟩, hl.push _⟩, fun i v s' Q' E' hP hQ => ?_, fun h' tk hk => ?_⟩
 ·rw [zkF r' hP]
  exact wpAny_truthy_bool hQ
 ·rw [List.size_toArray, <- hlen, zd6]
  exact ⟨.bl (bs.any id), H, I.kept fun b o e => hk b o (fun z => Nat.ne_of_lt (Heap.lt_size e) (List.mem_singleton.mp z)) (Heap.get?_push_of_some _ e), rfl, q⟩
end L2
namespace MD
open PySem PySem.Spec PyProof.Rows L2
def anyF (ds : List D) (m : Sto) : Res D := match ds with
 | [d] => match (lOf d m).bind zgX with
  | some bs => .ok (.bl (bs.any id)) m
  | none => .bad
 | _ => .bad
theorem fd_any {K : PySem.W.Frag} {cl : Str -> Addr} {ex : XD} : FnD K cl ex (fun xs H Q => ∃ (l : Addr) (bs : List Bool), xs = [.ref l] /\ SqL K H l (bs.map V.bl) /\ Q (.bl (bs.any id)) H) anyF := fun α m H x vx Q W rx h => by
 unfold anyF at h
 split at h
 ·split at h
  ·rename_i ns e
   obtain ⟨v, rfl, rv⟩ := rx.one_of
   obtain ⟨xs, e1, e2⟩ := Option.bind_eq_some_iff.mp e
   obtain ⟨p, ys, rfl, h1, r1⟩ := zgG W e1 rv
   rw [zdM e2 r1] at h1
   exact ⟨p, ns, rfl, h1, PQ.ok W h _ zd4⟩
  ·exact h.elim
 ·exact h.elim
end MD
namespace PySem
open Sem (wp)
open Builtin
theorem zfB (l1 l2 : Addr) (xs ys : Array Value) :
  Meets (Builtin.«zip.__new__» ⟨[.type "zip", .ref l1, .ref l2], []⟩) (fun _ R s => s.heap.IsList l1 xs /\ s.heap.IsList l2 ys ∧
   R (.ok (.ret (.ref ((((s.heap.push (lIt l1)).push (lIt l2)).push { cls := .type "tuple", data := .seq #[.ref s.heap.objs.size, .ref (s.heap.push (lIt l1)).objs.size] }).push { cls := .type "tuple", data := .seq #[.none, .none] }).objs.size)))
    { s with heap := zpH s.heap (lIt l1) (lIt l2) }) :=
 .of_wp fun prog w A R s h => by
  obtain ⟨hp, g, d, tk, os⟩ := s
  obtain ⟨hl1, hl2, h⟩ := h
  have hsub := sub_zip
  have hL1 := hl1
  have hL2 := Heap.IsList.push hl2 (lIt l1)
  wp_walk using wpAny_pyIter_list hL1, wpAny_pyIter_list hL2
  exact ⟨_, rfl, h⟩
theorem zgT {prog : Program} {w : World} {A : Around} {E : Value -> Shared -> Prop} {s : Shared} {l1 l2 : Addr} {xs ys : Array Value} {Q : Value -> Shared -> Prop} (h1 : s.heap.IsList l1 xs) (h2 : s.heap.IsList l2 ys)
  (h : ∀ h', IsZip h' (s.heap.objs.size + 4) (s.heap.objs.size + 2) (s.heap.objs.size + 3) .none -> IsPair h' (s.heap.objs.size + 2) (.ref s.heap.objs.size) (.ref (s.heap.objs.size + 1)) -> IsPair h' (s.heap.objs.size + 3) .none .none →
   h'.IsListIter s.heap.objs.size l1 0 -> h'.IsListIter (s.heap.objs.size + 1) l2 0 -> (∀ b o, s.heap.get? b = some o -> h'.get? b = some o) -> Q (.ref (s.heap.objs.size + 4)) { s with heap := h' }) :
  wpAny (model prog w) A (call (.type "zip") [.ref l1, .ref l2]) Q E s := by
 refine callType_new F.called_zip (by decide) (F.typeCall_zip_2 _ _) (F.newCall_zip_2 _ _) (fun obj => F.args_object_init_3 obj _ _) F.entry_zip_new (zfB l1 l2 xs ys) ⟨h1, h2, ?_⟩
 have z1 : (s.heap.push (lIt l1)).objs.size = s.heap.objs.size + 1 := Heap.size_push ..
 have z2 : ((s.heap.push (lIt l1)).push (lIt l2)).objs.size = s.heap.objs.size + 2 := by rw [Heap.size_push, z1]
 have z3 : (((s.heap.push (lIt l1)).push (lIt l2)).push { cls := .type "tuple", data := .seq #[.ref s.heap.objs.size, .ref (s.heap.push (lIt l1)).objs.size] }).objs.size = s.heap.objs.size + 3 := by rw [Heap.size_push, z2]
 have z4 : ((((s.heap.push (lIt l1)).push (lIt l2)).push { cls := .type "tuple", data := .seq #[.ref s.heap.objs.size, .ref (s.heap.push (lIt l1)).objs.size] }).push { cls := .type "tuple", data := .seq #[.none, .none] }).objs.size = s.heap.objs.size + 4 := by rw [Heap.size_push, z3]
 have g5 : IsZip (zpH s.heap (lIt l1) (lIt l2)) (s.heap.objs.size + 4) (s.heap.objs.size + 2) (s.heap.objs.size + 3) .none := by
  rw [<- z4, <- z3, <- z2]
  exact Heap.get?_push_size _ rfl
 have g4 : IsPair (zpH s.heap (lIt l1) (lIt l2)) (s.heap.objs.size + 3) .none .none := by
  rw [<- z3]
  exact Heap.get?_push_of_some _ (Heap.get?_push_size _ rfl)
 have g3 : IsPair (zpH s.heap (lIt l1) (lIt l2)) (s.heap.objs.size + 2) (.ref s.heap.objs.size) (.ref (s.heap.objs.size + 1)) := by
  rw [<- z2, <- z1]
  exact Heap.get?_push_of_some _ (Heap.get?_push_of_some _ (Heap.get?_push_size _ rfl))
 have g2 : (zpH s.heap (lIt l1) (lIt l2)).get? (s.heap.objs.size + 1) = some (lIt l2) := by
  rw [<- z1]
  exact Heap.get?_push_of_some _ (Heap.get?_push_of_some _ (Heap.get?_push_of_some _ (Heap.get?_push_size _ rfl)))
 have g1 : (zpH s.heap (lIt l1) (lIt l2)).get? s.heap.objs.size = some (lIt l1) := Heap.get?_push_of_some _ (Heap.get?_push_of_some _ (Heap.get?_push_of_some _ (Heap.get?_push_of_some _ (Heap.get?_push_size _ rfl))))
 show _ /\ _
 rw [z4]
 exact ⟨⟨_, g5, rfl⟩, h _ g5 g3 g4 ⟨_, g1, rfl, rfl⟩ ⟨_, g2, rfl, rfl⟩ fun b o e => Heap.get?_push_of_some _ (Heap.get?_push_of_some _ (Heap.get?_push_of_some _ (Heap.get?_push_of_some _ (Heap.get?_push_of_some _ e))))⟩
end PySem
set_option autoImplicit false
namespace L2
open PySem PySem.Spec PyProof.Rows
section
variable {X : Cx} {elts : List Expr} {kt : Nat} {pt : Pos} {e1 e2 : Expr} {te1 te2 : TE} {p pos : Pos}
theorem zjs (hg : Gl X "zip") (hm : X.mg "zip" = none) (he1 : PE X e1 te1) (he2 : PE X e2 te2) (hs : autoParam (starEach [e1, e2] X.env = (false, eval e1 X.env) :: starEach [e2] X.env) AutoP.a3._auto_1) (hs2 : autoParam (starEach [e2] X.env = [(false, eval e2 X.env)]) AutoP.a3._auto_1) : PI X (.Tuple elts kt pt) (.Call (.Name "zip" p) [e1, e2] [] pos) (zlB SqL SqL X.K te1 te2) := by
 intro pins s σ H R I h
 refine Call_ (zcV I hg hm boot_zip (PyProof.Rows.callWith_type1 (thn (zaH he1 (zaH he2 zbU hs2) hs pos pins s σ H (fun zs H1 => ∃ l1 l2 xs ys, zs = [V.ref l1, V.ref l2] /\ SqL X.K H1 l1 xs /\ SqL X.K H1 l2 ys /\ R (zf7 SqL SqL X.K l1 l2) H1) I h) fun us s1 ⟨vs, H1, I1, r1, q1⟩ => ?_) hs (by rw [hs2]; rfl)))
 obtain ⟨l1, l2, xs, ys, rfl, hl1, hl2, q⟩ := q1
 obtain ⟨u, v, rfl, ru, rv⟩ := zdR r1
 cases ru
 cases rv
 obtain ⟨its1, rv1, p1⟩ := sq_lst.seq X pins σ H1 s1 l1 xs I1 hl1
 obtain ⟨its2, rv2, p2⟩ := sq_lst.seq X pins σ H1 s1 l2 ys I1 hl2
 exact zgT p1 p2 fun h' a1 a2 a3 a4 a5 k => wpAny_pyIter_zip a1 (zc5 sq_lst sq_lst I1 a1 a2 a3 a4 a5 k q)
end
end L2
namespace MD
open PySem PySem.Spec PyProof.Rows L2
theorem zjq (its : List Value) : slicePick its.toArray none none (some (-1)) = its.reverse.toArray := by
 have e : slicePick its.toArray none none (some (-1)) = ((List.range its.toArray.size).filterMap fun (m : Nat) => its.toArray[((its.toArray.size : Int) - 1 + (m : Int) * -1).toNat]?).toArray := by
  have hb : sliceBounds none none (some (-1)) its.toArray.size = ((its.toArray.size : Int) - 1, -1, -1) := rfl
  unfold slicePick
  rw [hb]
  generalize its.toArray = xs
  have hr : sliceRange ((xs.size : Int) - 1) (-1) (-1) = (List.range xs.size).map fun (m : Nat) => ((xs.size : Int) - 1 + (m : Int) * -1).toNat := by
   unfold sliceRange
   have hc : (if (-1 : Int) > 0 then (if (xs.size : Int) - 1 < -1 then (-1 - ((xs.size : Int) - 1) + -1 - 1) / -1 else 0) else (if (xs.size : Int) - 1 > -1 then ((xs.size : Int) - 1 - -1 - -1 - 1) / - -1 else 0)) = (xs.size : Int) := by
    rw [if_neg (by decide)]
    by_cases h : (xs.size : Int) - 1 > -1
    ·rw [if_pos h, show (- -1 : Int) = 1 from rfl, Int.ediv_one]
     omega
    ·rw [if_neg h]
     omega
   show (List.range (if (-1 : Int) > 0 then (if (xs.size : Int) - 1 < -1 then (-1 - ((xs.size : Int) - 1) + -1 - 1) / -1 else 0) else (if (xs.size : Int) - 1 > -1 then ((xs.size : Int) - 1 - -1 - -1 - 1) / - -1 else 0)).toNat).map _ = _
   rw [hc, Int.toNat_natCast]
   refine List.map_congr_left fun k _ => ?_
   congr 1
   omega
  rw [hr, List.filterMap_map]
  rfl
 rw [e, HT.pick_rev]
section
variable {X : Cx} {e st : Expr} {te : TE} {lo hi : Option Expr} {tl th ts : TO} {pos p2 : Pos}
def rRevL (K : PySem.W.Frag) : V -> Option Int -> Option Int -> Option Int -> Hp -> VK -> Prop := fun x lo hi st H Q => ∃ a xs, x = .ref a /\ SqL K H a xs /\ lo = none /\ hi = none /\ st = some (-1) /\ ∀ p, H p = none -> Q (.ref p) (upd H p (.lst xs.reverse))
def tSlSL (K : PySem.W.Frag) (te : TE) (tl th ts : TO) : TE := fun σ H Q => te σ H fun x H1 => tl σ H1 fun l H2 => th σ H2 fun u H3 => ts σ H3 fun z H4 => rRevL K x l u z H4 Q
theorem zh6 (he : PE X e te) (hl : PO X lo tl) (hu : PO X hi th) (hs : PO X (some st) ts) : PE X (.Subscript e (.Slice lo hi (some st) p2) pos) (tSlSL X.K te tl th ts) := by
 intro pins s σ H Q I h
 refine Subscript_ (thn (he pins s σ H _ I h) fun v s1 ⟨x, H1, I1, r1, q1⟩ => ?_)
 refine wpAny_Slice (thn (hl pins s1 σ H1 _ I1 q1) fun vl s2 ⟨l, H2, I2, pl, q2⟩ => thn (hu pins s2 σ H2 _ I2 q2) fun vu s3 ⟨u, H3, I3, pu, q3⟩ => thn (hs pins s3 σ H3 _ I3 q3) fun vz s4 ⟨z, H4, I4, pz, q4⟩ => ?_)
 obtain ⟨a, xs, rfl, hx, rfl, rfl, rfl, q⟩ := q4
 cases r1
 have I5 : Inv X pins σ H4 { s4 with heap := s4.heap.push { cls := .type "slice", data := .fields #[vl, vu, vz] } } := I4.kept (t' := s4.toks) fun b ob q => Heap.get?_push_of_some _ q
 obtain ⟨its, r, ht, hz⟩ := I5.list hx
 have hlen := r.length
 show wpAny (model X.prog X.w) X.A (subscriptTail e (.Slice lo hi (some st) p2) (.ref a) (.ref s4.heap.objs.size)) (EP X pins σ Q) X.xe { s4 with heap := s4.heap.push { cls := .type "slice", data := .fields #[vl, vu, vz] } }
 refine tail_any (ops := [.ref a, .ref s4.heap.objs.size]) ht.isList.typeIs slot_list_getitem.lookup ?_ (by with_unfolding_all rfl)
 refine wpAny_getItem_list_slice ht.isList (Heap.IsSliceOf.new ..) pl pu pz (by simp) ?_ (by rw [List.size_toArray] <;> omega)
 rw [zjq]
 refine ⟨.ref _, _, I5.laid (t' := s4.toks) (o := .lst xs.reverse) (fun b ob q => Heap.get?_push_of_some _ q) (Nat.le_refl _) ?_, rfl, q _ (I5.hok.fresh (Nat.le_refl _))⟩
 exact ⟨by rw [List.length_reverse]; exact hz, _, 0, r.reverse, Heap.get?_push_size _ rfl⟩
end
def slSL (x : D) (lo hi st : Option Int) (m : Sto) : Res D := match x with
 | .lst ds => if lo = none /\ hi = none /\ st = some (-1) then .ok (.lst ds.reverse) m else .bad
 | _ => .bad
def zlH (f : EV) (lo hi st : OV) : EV := fun ρ m => (f ρ m).bind fun x m1 => (lo ρ m1).bind fun l m2 => (hi ρ m2).bind fun h m3 => (st ρ m3).bind fun z m4 => slSL x l h z m4
section
variable {X : Cx} {cl : Str -> Addr} {ex : XD} {e : Expr} {fa : EV} {lo hi st : OV} {el eh : Option Expr} {es : Expr} {pos p2 : Pos}
theorem zmP (he : QE X cl ex e fa) (hl : QO X cl ex el lo) (hh : QO X cl ex eh hi) (hs : QO X cl ex (some es) st) : QE X cl ex (.Subscript e (.Slice el eh (some es) p2) pos) (zlH fa lo hi st) :=
 ⟨PE.weak (zh6 he.out hl.out hh.out hs.out) fun σ H Q hh => ex3 hh fun α ρ m W hr h =>
  tD.use W hr h fun α1 m1 H1 d v E1 W1 hr1 rv q1 => tDO.use W1 hr1 q1 fun α2 m2 H2 l E2 W2 hr2 q2 => tDO.use W2 hr2 q2 fun α3 m3 H3 u E3 W3 hr3 q3 => tDO.use W3 hr3 q3 fun α4 m4 H4 z E4 W4 hr4 q4 => by
   have rv := rv.mono W1 ((E2.trans E3).trans E4)
   unfold slSL at q4
   split at q4
   ·obtain ⟨⟨rfl, rfl, rfl⟩, q4⟩ := PQ.if q4
    rw [Rep] at rv
    obtain ⟨a, xs, rfl, _, h1, r1⟩ := rv
    exact ⟨a, xs, rfl, .inl h1, rfl, rfl, rfl, fun p hp => PQ.okS W4 (Same.new hp) q4 _ (zbr W4 hp r1.rev)⟩
   ·exact q4.elim⟩
end
def zfL : SV :=
 (zaG (za1 (eOp znu (eOp znu (eOp znu (eOp znu (eOp zfl (eC (.int 10)) (eC (.int 60))) (eOp zfl (eC (.int 10)) (eC (.int 60)))) (eOp zfl (eC (.int 10)) (eC (.int 60)))) (eOp zfl (eC (.int 10)) (eC (.int 60)))) (eOp zfl (eC (.int 10)) (eC (.int 60)))) (gN 1))
 (zaG (sPar 2 3 (zac (eC (.int 41)) (zac (eFn zlF zak) zak)))
 (zaG (sFor (aIt (eSl (zae 0) zcJ (zdx (eC (.int 63))))) (gN 4)
 (zaG (za1 (eOp zdU (eOp zaW (eOp zaW (eOp zc2 (zae 2) (eC (.int 6364136223846793005))) (eOp zdU (zae 4) (eOp zfl (eC (.int 10)) (eC (.int 40))))) (eC (.int 17))) (eC (.int 2305843009213693951))) (gN 2))
 (sIf (tV (eOp geD (eFn absF (zac (zae 4) zak)) (eOp zfl (eC (.int 10)) (eC (.int 18)))))
 (zgi (zbm zck zcn (zae 3) (zac (eOp zdU (eFn absF (zac (zae 4) zak)) (zae 1)) zak)))
 zb4)))
 (zaV (zeY [("own", (zae 3)), ("seed", (zae 2)), ("turn", (eC (.int 0)))])))))
def zcB : List D -> Sto -> Res D := zbR 5 zfL
def zee : SV :=
 (zaG (zfd zkh (zhY (tV (eOp neD (eOp ixD (zae 0) (eC (.str "own"))) (eFn zbu zak))) (tV (eOp eqD (eOp ixD (eOp ixD (zae 0) (eC (.str "own"))) (eC (.int 0))) (eC (.int 0)))))
 (zgi (zbm zck popM (eOp ixD (zae 0) (eC (.str "own"))) (zac (eC (.int 0)) zak))))
 (zaG (sIf (tV (eOp neD (eOp ixD (zae 0) (eC (.str "own"))) (eFn zbu zak)))
 (zaG (za1 (eOp zdU (eOp ixD (eOp ixD (zae 0) (eC (.str "own"))) (eC (.int 0))) (zae 1)) (gN 2))
 (zaG (za1 (eOp zeX (eOp ixD (eOp ixD (zae 0) (eC (.str "own"))) (eC (.int 0))) (zae 1)) (gI (eOp ixD (zae 0) (eC (.str "own"))) (eC (.int 0))))
 (zaV (zae 2))))
 zb4)
 (zaG (zkZ (zae 0) (eC (.str "turn")) (eOp zaW (eOp ixD (zae 0) (eC (.str "turn"))) (eC (.int 1))))
 (zaG (za1 (eOp ixD (zae 0) (eC (.str "turn"))) (gN 3))
 (zaG (za1 (eOp zaW (eOp zaW (eOp ixD (zae 0) (eC (.str "seed"))) (eOp zc2 (eOp zc2 (zae 3) (zae 3)) (eC (.int 7919)))) (eOp zc2 (zae 3) (eC (.int 104729)))) (gN 4))
 (zaG (za1 (eOp zdU (eOp zc2 (zae 4) (eC (.int 48271))) (eC (.int 2305843009213693921))) (gN 4))
 (zaG (za1 (eOp zdU (eOp zc2 (zae 4) (eOp zaW (eOp zdU (zae 4) (eC (.int 1000003))) (eC (.int 69621)))) (eC (.int 2305843009213693907))) (gN 4))
 (zaV (eOp zdU (eOp zaW (eOp zeX (zae 4) (eC (.int 65537))) (eOp zeX (zae 4) (eC (.int 1000033)))) (zae 1))))))))))
def zai : List D -> Sto -> Res D := zbR 5 zee
def zhv : SV :=
 (zaV (eOp ixD (zae 1) (eFn zai (zac (zae 0) (zac (eFn zdW (zac (zae 1) zak)) zak)))))
def zbi : List D -> Sto -> Res D := zbR 2 zhv
def zfK : SV :=
 (zaV (eOp zaW (eC (.int 1)) (eFn zai (zac (zae 0) (zac (eOp ixD (eFn zbu (zac (zae 1) (zac (zae 2) zak))) (eFn ziC (zac (eOp eqD (eFn zai (zac (zae 0) (zac (eC (.int 8)) zak))) (eC (.int 0))) zak))) zak)))))
def zb3 : List D -> Sto -> Res D := zbR 3 zfK
def zdG : SV :=
 (zaG (za1 (eC (.str "abcdefghijklmnopqrstuvwxyz")) (gN 2))
 (zaG (za1 (eFn zc4 (zac (eFn zai (zac (zae 0) (zac (eC (.int 26)) zak))) (zac (eFn zbi (zac (zae 0) (zac (eFn zbu (zac (eC (.int 1)) (zac (eC (.int 3)) (zac (eC (.int 5)) (zac (eC (.int 7)) (zac (eC (.int 9)) (zac (eC (.int 11)) zak))))))) zak))) zak))) (gT 2 (za9 (gN 3) (za9 (gN 4) zeV))))
 (zaV (eFn gL1 (zaQ 1 (znZ zlZ (zac (zae 1) zak)) (gN 5) za2 (eOp zc2 (eOp ixD (zae 2) (eOp zdU (eOp zaW (zae 3) (eOp zc2 (zae 4) (zae 5))) (eC (.int 26)))) (eOp zaW (eC (.int 1)) (eOp zdU (eOp zaW (zae 3) (eOp zc2 (zae 5) (zae 5))) (eC (.int 8))))))))))
def zbe : List D -> Sto -> Res D := zbR 5 zdG
def zdE : SV :=
 (zaG (za1 (eOp zkV (eC (.int 1)) (zae 1)) (gN 2))
 (zaG (za1 (eFn zai (zac (zae 0) (zac (eFn zii (zac (zae 2) (zac (eC (.int 4)) zak))) zak))) (gN 3))
 (zaV (eOp ixD (eFn zbu (zac (eFn zai (zac (zae 0) (zac (zae 2) zak))) (zac (zae 3) (zac (eOp zkS (eOp zkS (zae 2) (eC (.int 1))) (zae 3)) (zac (eFn zai (zac (zae 0) (zac (zae 2) zak))) zak))))) (eFn zai (zac (zae 0) (zac (eC (.int 4)) zak)))))))
def zaC : List D -> Sto -> Res D := zbR 4 zdE
def zed : SV :=
 (zaG (za1 (eFn zc4 (zac (eOp zkV (eC (.int 1)) (zae 2)) (zac (eFn zai (zac (zae 0) (zac (eC (.int 8)) zak))) zak))) (gT 2 (za9 (gN 3) (za9 (gN 4) zeV))))
 (zaG (sIf (tV (eOp ltD (zae 4) (eC (.int 3))))
 (zaV (eFn zc4 (zac (eC (.str "step")) (zac (eOp zdU (eOp ixD (eFn zbu (zac (eC (.int 1)) (zac (eFn zaC (zac (zae 0) (zac (zae 2) zak))) zak))) (eFn zai (zac (zae 0) (zac (eC (.int 2)) zak)))) (zae 3)) zak))))
 zb4)
 (zaG (sIf (tV (eOp eqD (zae 4) (eC (.int 3))))
 (zaG (za1 (eFn zc4 (zac (eFn zaC (zac (zae 0) (zac (zae 2) zak))) (zac (eOp zaW (eC (.int 1)) (eOp zc2 (eC (.int 2)) (eFn zai (zac (zae 0) (zac (eC (.int 9)) zak))))) zak))) (gT 2 (za9 (gN 5) (za9 (gN 6) zeV))))
 (zaV (eFn zc4 (zac (eC (.str "turn")) (zac (eFn ziA (zac (eFn gL1 (zaQ 1 (znZ zlZ (zac (eFn zii (zac (zae 3) (zac (eOp zaW (eC (.int 2)) (eFn zai (zac (zae 0) (zac (eC (.int 11)) zak)))) zak))) zak)) (gN 7) za2 (eOp zdU (eOp zaW (zae 5) (eOp zc2 (zae 6) (zae 7))) (zae 3)))) zak)) zak)))))
 zb4)
 (zaG (sIf (zhY (tV (eOp ltD (zae 4) (eC (.int 6)))) (tV (eOp gtD (zae 1) (eC (.int 0)))))
 (zaV (eFn zc4 (zac (eC (.str "with")) (zac (eFn zai (zac (zae 0) (zac (zae 1) zak))) (zac (eOp ixD (eFn zbu (zac (eC (.int 1)) (zac (eUn zma (eC (.int 1))) (zac (eOp zkS (eFn zai (zac (zae 0) (zac (eC (.int 199)) zak))) (eC (.int 99))) zak)))) (eFn zai (zac (zae 0) (zac (eC (.int 3)) zak)))) zak)))))
 zb4)
 (zaV (eOp ixD (eFn zbu (zac (eFn zc4 (zac (eC (.str "still")) zak)) (zac (eFn zc4 (zac (eC (.str "drawn")) zak)) zak))) (eFn zai (zac (zae 0) (zac (eC (.int 2)) zak)))))))))
def zbz : List D -> Sto -> Res D := zbR 7 zed
def zdF : SV :=
 (zaG (za1 (eFn zlF zak) (gN 1))
 (zaG (sFor (aIt (eFn zbe (zac (zae 0) (zac (eFn zb3 (zac (zae 0) (zac (eC (.int 3)) (zac (eC (.int 12)) zak)))) zak)))) (gN 2)
 (zaG (za1 (eOp ixD (eFn zbu (zac (eOp zaW (eC (.int 1)) (eFn zai (zac (zae 0) (zac (eC (.int 8)) zak)))) (zac (eOp zaW (eC (.int 1)) (eFn zai (zac (zae 0) (zac (eC (.int 8)) zak)))) (zac (eC (.int 16)) (zac (eOp zaW (eC (.int 1)) (eFn zai (zac (zae 0) (zac (eC (.int 40)) zak)))) (zac (eC (.int 40)) zak)))))) (eFn zai (zac (zae 0) (zac (eC (.int 5)) zak)))) (gN 3))
 (zgi (zbm zck zcn (zae 1) (zac (eFn zc4 (zac (zae 2) (zac (zae 3) (zac (eFn zbz (zac (zae 0) (zac (eFn zdW (zac (zae 1) zak)) (zac (zae 3) zak)))) zak)))) zak)))))
 (zaV (eFn zc4 (zac (eFn ziA (zac (zae 1) zak)) (zac (eOp ixD (eFn zbu (zac (eC (.int 251)) (zac (eC (.int 1)) (zac (eC (.int 2)) (zac (eC (.int 16)) (zac (eOp zfl (eC (.int 10)) (eC (.int 6))) (zac (eOp zaW (eC (.int 1)) (eFn zai (zac (zae 0) (zac (eOp zfl (eC (.int 10)) (eC (.int 6))) zak)))) zak))))))) (eFn zai (zac (zae 0) (zac (eC (.int 6)) zak)))) zak))))))
def zby : List D -> Sto -> Res D := zbR 4 zdF
end MD
set_option autoImplicit false
namespace MxD
open PySem PySem.Spec PyProof.Rows
end MxD
namespace MD
open PySem PySem.Spec PyProof.Rows L2
section
variable {X : Cx} {K : PySem.W.Frag} {cl : Str -> Addr} {ex : XD}
def zdY : D -> Bool
 | .non => true
 | .bl _ => true
 | .int _ => true
 | .str _ => true
 | _ => false
def vOf : D -> V
 | .non => .non
 | .bl b => .bl b
 | .int i => .int i
 | .str z => .str z
 | _ => .non
theorem zgc {α : List Addr} {H : Hp} {d : D} {v : V} (h : zdY d = true) (r : Rep K α H d v) : v = vOf d := by
 cases d with
 | non => rw [Rep] at r; exact r
 | bl b => rw [Rep] at r; exact r
 | int i => rw [Rep] at r; exact r
 | str z => rw [Rep] at r; exact r
 | _ => cases h
theorem zes {d : D} (h : zdY d = true) : zcC (vOf d) = true := by
 cases d with
 | _ => first | rfl | cases h
theorem zer {α : List Addr} {H : Hp} : ∀ {ds : List D} {vs : List V}, ds.all zdY = true -> RepL K α H ds vs -> vs = ds.map vOf
 | [], _, _, r => by rw [RepL] at r; exact r
 | d :: ds, _, h, r => by
  rw [RepL] at r
  obtain ⟨v, q, rfl, r1, r2⟩ := r
  rw [List.all_cons, Bool.and_eq_true] at h
  rw [List.map_cons, zgc h.1 r1, zer h.2 r2]
theorem zgM {x y : V} {u : Value} (r : RelV x u) (h : zcC x = true) : eqU y u = eqV x y := by
 cases x with
 | non => cases r; rfl
 | bl b => cases r; rfl
 | int i => obtain ⟨t, rfl⟩ := r; rfl
 | str z => obtain ⟨t, rfl⟩ := r; rfl
 | _ => cases h
theorem zeh {y : V} : ∀ {xs : List V} {us : List Value}, Vals xs us -> xs.all zcC = true -> us.countP (eqU y) = xs.countP fun z => eqV z y
 | _, _, .nil, _ => rfl
 | _, _, .cons r rs, h => by
  rw [List.all_cons, Bool.and_eq_true] at h
  rw [List.countP_cons, List.countP_cons, zeh rs h.2, zgM r h.1]
end
end MD
namespace L2
open PySem PySem.Spec PyProof.Rows
variable {X : Cx} {e : Expr} {te : TE} {pos : Pos}
end L2
set_option autoImplicit false
namespace MD
open PySem PySem.Spec PyProof.Rows L2
section
variable {X : Cx} {K : PySem.W.Frag} {cl : Str -> Addr} {ex : XD}
def rFmt : V -> Hp -> VK -> Prop := fun x H Q => (∃ i, x = .int i /\ i.natAbs.log2 < 1920 /\ Q (.str (toString i)) H) ∨ ∃ z, x = .str z /\ z.length <= sizeLine /\ Q (.str z) H
theorem un_fmt : UnR X (fun v => formatField v Str.empty) rFmt := by
 intro pins s σ H x v Q I rx h
 rcases h with ⟨i, rfl, hi, q⟩ | ⟨z, rfl, hz, q⟩
 ·obtain ⟨t, rfl⟩ := rx
  exact wpAny_formatField_int hi ⟨.str _, H, I.tok _, ⟨_, rfl⟩, q⟩
 ·obtain ⟨t, rfl⟩ := rx
  exact wpAny_formatField_str ⟨.str _, H, I, ⟨_, rfl⟩, q⟩ ⟨.str _, H, I.tok _, ⟨_, rfl⟩, q⟩ hz
def fmtD (d : D) (m : Sto) : Res D := match d with
 | .int i => if i.natAbs.log2 < 1920 then .ok (.str (toString i)) m else .bad
 | .str z => if z.length <= sizeLine then .ok (.str z) m else .bad
 | _ => .bad
theorem ud_fmt : UnD K cl ex rFmt fmtD := fun α m H x vx Q W rx h => by
 unfold fmtD at h
 split at h
 ·obtain ⟨hc, h⟩ := PQ.if h
  rw [Rep] at rx
  exact .inl ⟨_, rx, hc, PQ.ok W h _ zjd⟩
 ·obtain ⟨hc, h⟩ := PQ.if h
  rw [Rep] at rx
  exact .inr ⟨_, rx, hc, PQ.ok W h _ zjd⟩
 ·exact h.elim
theorem qe_fv {e : Expr} {fa : EV} {pos : Pos} (ha : QE X cl ex e fa) : QE X cl ex (.FormattedValue e (-1) none pos) (eUn fmtD fa) :=
 ⟨PE.weak (t := tUn rFmt (tD X.K cl ex fa)) (fun pins s σ H Q I h => wpAny_FormattedValue_plain (thn (ha.out pins s σ H _ I h) fun v s1 ⟨x, H1, I1, r1, q1⟩ => un_fmt pins s1 σ H1 x v Q I1 r1 q1)) fun σ H Q hh => ex3 hh fun α ρ m W hr h => tD.use W hr h fun α1 m1 H1 d v E1 W1 hr1 rv h1 => ud_fmt α1 m1 H1 d v Q W1 rv h1⟩
def eCat : Str -> List EV -> EV
 | acc, [] => fun _ m => if acc.length <= sizeLine then .ok (.str acc) m else .bad
 | acc, f :: fs => fun ρ m => (f ρ m).bind fun d m1 => match d with
  | .str z => if (acc ++ z).length <= sizeLine then eCat (acc ++ z) fs ρ m1 else .bad
  | _ => .bad
inductive QJs (X : Cx) (cl : Str -> Addr) (ex : XD) : List Expr -> List EV -> Prop where
 | nil : QJs X cl ex [] []
 | cons {e : Expr} {f : EV} {es : List Expr} {fs : List EV} : QE X cl ex e f -> QJs X cl ex es fs -> QJs X cl ex (e :: es) (f :: fs)
theorem zlx {es : List Expr} {fs : List EV} (h : QJs X cl ex es fs) : ∀ {acc : Str} {pins : List (Addr × Obj)} {s : Shared} {σ : L2.St} {H : Hp} {Q : VK}, Inv X pins σ H s -> tD X.K cl ex (eCat acc fs) σ H Q →
  Joins (model X.prog X.w) X.A X.xe (evalEach es X.env) acc (fun out s1 => out.length <= sizeLine /\ EP X pins σ Q (.str out s1.toks) { s1 with toks := s1.toks + 1 }) s := by
 induction h with
 | nil =>
  intro acc pins s σ H Q I hq
  obtain ⟨α, ρ, m, W, hr, q⟩ := hq
  obtain ⟨hc, q⟩ := PQ.if q
  exact ⟨hc, .str acc, H, I.tok _, ⟨_, rfl⟩, PQ.ok W q _ zjd⟩
 | @cons e f es fs he _ ih =>
  intro acc pins s σ H Q I hq
  obtain ⟨α, ρ, m, W, hr, q⟩ := hq
  refine thn (he.out pins s σ H (fun v H1 => ∃ z, v = .str z /\ (acc ++ z).length <= sizeLine /\ tD X.K cl ex (eCat (acc ++ z) fs) σ H1 Q) I (tD.use W hr q fun α1 m1 H1 d v E1 W1 hr1 rv q1 => ?_)) fun v s1 ⟨x, H1, I1, r1, z, ez, hz, q1⟩ => ?_
  ·cases d with
   | str z =>
    obtain ⟨hc, q1⟩ := PQ.if q1
    rw [Rep] at rv
    exact ⟨z, rv, hc, α1, ρ, m1, W1, hr1, q1⟩
   | _ => exact q1.elim
  ·subst ez
   obtain ⟨t, rfl⟩ := r1
   exact ⟨z, t, rfl, hz, ih I1 q1⟩
theorem zmS {e1 e2 : Expr} {es : List Expr} {fs : List EV} {pos : Pos} (h : QJs X cl ex (e1 :: e2 :: es) fs) : QE X cl ex (.JoinedStr (e1 :: e2 :: es) pos) (eCat Str.empty fs) :=
 ⟨fun pins s σ H Q I hq => wpAny_JoinedStr (zlx h I hq)⟩
def startM (o : D) (ds : List D) (m : Sto) : Res D := match o, ds with
 | .str z, [.str y] => .ok (.bl (Txt.startswith z y)) m
 | _, _ => .bad
theorem ze9 : ∀ l : List (Str × Tok), Vals ((l.map (·.1)).map V.str) (strValues l)
 | [] => .nil
 | p :: r => .cons ⟨p.2, rfl⟩ (ze9 r)
theorem ziS (z y : Str) : (Txt.split z y).length <= z.length + 2 := by
 unfold Txt.split
 split
 ·simp
 ·split
  ·simp
  ·rw [length_partsBetween]
   have := StrLaws.occ_length_le z y 0 z.length (z.length + 1)
   omega
def zl1 : V -> List V -> Hp -> VK -> Prop := fun x vs H Q => ∃ z y, x = .str z /\ vs = [.str y] /\ (y.length == 0) = false /\ z.length + 2 <= sizeLine /\ ∀ p, H p = none -> Q (.ref p) (upd H p (.lst ((Txt.split z y).map V.str)))
theorem zhm : MtR X "str.split" zl1 := by
 intro pins s σ H x vs v us Q I rx rv h
 obtain ⟨z, y, rfl, rfl, hy, hz, q⟩ := h
 obtain ⟨t, rfl⟩ := rx
 obtain ⟨u, rfl, w, rfl⟩ := zbC rv
 have hl := ziS z y
 have fin : ∀ (l : List (Str × Tok)) (k : Nat), l.map (·.1) = Txt.split z y -> EP X pins σ Q (.ref s.heap.objs.size) { s with toks := k, heap := s.heap.push { cls := .type "list", data := .seq (strValues l).toArray } } := fun l k e =>
  ⟨.ref s.heap.objs.size, upd H s.heap.objs.size (.lst ((Txt.split z y).map V.str)), I.laid (t' := k) (fun b u e => Heap.get?_push_of_some _ e) (Nat.le_refl _) (by
   refine ⟨by rw [List.length_map]; omega, strValues l, 0, ?_, Heap.get?_push_size _ rfl⟩
   rw [<- e]
   exact ze9 l), rfl, q _ (I.hok.fresh (Nat.le_refl _))⟩
 unfold Txt.split at fin
 by_cases h1 : (decide (z.length < y.length) || decide (Builtin.Str.strKind z < Builtin.Str.strKind y)) = true
 ·rw [if_pos h1] at fin
  exact call_meets F.slot_str_split (typeIs_str _ _ _) F.entry_str_split (F.args_str_split_2 _ _) (meets_str_split_cannot_occur z y t w h1) (fin [(z, t)] s.toks rfl)
 ·rw [if_neg h1] at fin
  by_cases h2 : (Builtin.Str.occurrences z y 0 z.length (z.length + 1)).isEmpty = true
  ·rw [if_pos h2] at fin
   exact call_meets F.slot_str_split (typeIs_str _ _ _) F.entry_str_split (F.args_str_split_2 _ _) (meets_str_split_not_found z y t w (Bool.eq_false_iff.mpr h1) hy h2) (fin [(z, t)] s.toks rfl)
  ·rw [if_neg h2] at fin
   have h3 := fin (numbered s.toks (Builtin.Str.partsBetween z (Builtin.Str.occurrences z y 0 z.length (z.length + 1)) y.length)) (s.toks + (Builtin.Str.partsBetween z (Builtin.Str.occurrences z y 0 z.length (z.length + 1)) y.length).length) (numbered_texts _ _)
   rw [<- strsFrom_eq] at h3
   refine call_meets F.slot_str_split (typeIs_str _ _ _) F.entry_str_split (F.args_str_split_2 _ _) (meets_str_split_sep z y t w (Bool.eq_false_iff.mpr h1) hy (Bool.eq_false_iff.mpr h2) (by omega) ?_) h3
   unfold Txt.split at hl
   rw [if_neg h1, if_neg h2] at hl
   omega
def zcq (o : D) (ds : List D) (m : Sto) : Res D := match o, ds with
 | .str z, [.str y] => if (y.length == 0) = false /\ z.length + 2 <= sizeLine then .ok (.lst ((Txt.split z y).map D.str)) m else .bad
 | _, _ => .bad
theorem zdn {α : List Addr} {H : Hp} : ∀ zs : List Str, RepL K α H (zs.map D.str) (zs.map V.str)
 | [] => by rw [List.map_nil, RepL]; rfl
 | z :: r => by rw [List.map_cons, List.map_cons, RepL]; exact ⟨_, _, rfl, zjd, zdn r⟩
theorem zhn : MtD K cl ex zl1 zcq := fun α m H x xs vx vs Q W rx rxs h => by
 unfold zcq at h
 split at h
 ·obtain ⟨hc, h⟩ := PQ.if h
  rw [Rep] at rx
  obtain ⟨v, rfl, rv⟩ := rxs.one_of
  rw [Rep] at rv
  subst rv
  exact ⟨_, _, rx, rfl, hc.1, hc.2, fun p hp => PQ.okS W (Same.new hp) h _ (zbr W hp (zdn _))⟩
 ·exact h.elim
end
section
variable {X : Cx} {K : PySem.W.Frag} {cl : Str -> Addr} {ex : XD}
theorem zny {d : D} {m : Sto} {t n n' : String} (h : tyN d m = some t) (hn : n ∈ zd0) (hn' : n' ∈ zd0) : PySem.W.kitAny K (.type t) [.type n, .type n'] = some (ziB t n || ziB t n') := by
 unfold PySem.W.kitAny
 rw [zgH h hn]
 cases ziB t n with
 | true => rfl
 | false =>
  show PySem.W.kitAny K (.type t) [.type n'] = _
  unfold PySem.W.kitAny
  rw [zgH h hn']
  cases ziB t n' <;> rfl
def rIsi2 (K : PySem.W.Frag) (n n' : String) : List V -> Hp -> VK -> Prop := fun xs H Q => ∃ cl α m d v t p, xs = [v, .ref p] /\ Wd K cl α m H /\ Rep K α H d v /\ tyN d m = some t /\ H p = some (.tup [.ty n, .ty n']) /\ Q (.bl (ziB t n || ziB t n')) H
theorem zkC {n n' : String} (hn : n ∈ zd0) (hn' : n' ∈ zd0) : CallR X (.builtin "isinstance") (rIsi2 X.K n n') := by
 intro pins s σ H xs us Q I r h
 obtain ⟨cl, α, m, d, v, t, p, rfl, W, rv, ht, hp, q⟩ := h
 obtain ⟨u, w, rfl, ru, rw'⟩ := zdR r
 cases rw'
 have kt := zny (K := X.K) ht hn hn'
 obtain ⟨its, ri, ⟨⟨cls, dd, data, sl⟩, h1, h2, k, h3⟩, _⟩ := I.tuple (.inl (.inl hp))
 obtain ⟨a, b, rfl, ra, rb⟩ := zdR ri
 cases ra
 cases rb
 simp only at h2 h3
 subst h2 h3
 have fin : ∀ {P : Heap -> Prop}, PySem.W.KitX X.K u (.type t) P -> P s.heap -> u ≠ .builtin "__main__.__loader__#opaque" -> wpAny (model X.prog X.w) X.A (call (.builtin "isinstance") [u, .ref p]) (EP X pins σ Q) X.xe s := fun Z hP hu =>
  PySem.W.kia_tup Z I.kIn hP h1 kt hu fun tk => ⟨.bl _, H, I.tok _, rfl, q⟩
 unfold tyN at ht
 split at ht
 ·cases ht; rw [Rep] at rv; subst rv; cases ru; exact fin PySem.W.kitx_none trivial fun z => nomatch z
 ·cases ht; rw [Rep] at rv; subst rv; cases ru; exact fin PySem.W.kitx_bool trivial fun z => nomatch z
 ·cases ht; rw [Rep] at rv; subst rv; obtain ⟨k, rfl⟩ := ru; exact fin PySem.W.kitx_int trivial fun z => nomatch z
 ·cases ht; rw [Rep] at rv; subst rv; obtain ⟨k, rfl⟩ := ru; exact fin PySem.W.kitx_str trivial fun z => nomatch z
 ·cases ht; rw [Rep] at rv; subst rv; obtain ⟨k, rfl⟩ := ru; exact fin PySem.W.kitx_float trivial fun z => nomatch z
 ·cases ht
  rw [Rep] at rv
  obtain ⟨a, xs, rfl, h1, _⟩ := rv
  cases ru
  obtain ⟨_, _, ⟨o, g1, g2, _⟩, _⟩ := I.tuple h1.sq
  exact fin PySem.W.kitx_tuple ⟨o, g1, g2⟩ fun z => nomatch z
 ·cases ht
  rw [Rep] at rv
  obtain ⟨a, xs, rfl, _, h1, _⟩ := rv
  cases ru
  obtain ⟨_, _, ⟨o, k, g1, g2, _⟩, _⟩ := I.list (.inl h1)
  exact fin PySem.W.kitx_list ⟨o, g1, g2⟩ fun z => nomatch z
 ·rw [Rep] at rv
  obtain ⟨a, ha, rfl⟩ := rv
  cases ru
  split at ht
  ·cases ht
   obtain ⟨xs, h1, _⟩ := W.lst ha ‹_›
   obtain ⟨_, _, ⟨o, k, g1, g2, _⟩, _⟩ := I.list (SqL.of h1)
   exact fin PySem.W.kitx_list ⟨o, g1, g2⟩ fun z => nomatch z
  ·cases ht
   obtain ⟨xs, h1, _⟩ := W.dct ha ‹_›
   obtain ⟨_, _, vs, _, p⟩ := (show ObjOk X.prog X.w H s.heap a (.dK xs) from I.hok a _ h1)
   obtain ⟨o, es, ep, g1, g2, _⟩ := p
   exact fin PySem.W.kitx_dict ⟨o, g1, g2.1⟩ fun z => nomatch z
  ·cases ht
 ·cases ht
def zeU (n n' : String) (d : D) (m : Sto) : Res D := match tyN d m with
 | some t => .ok (.bl (ziB t n || ziB t n')) m
 | none => .bad
theorem zmR {e : Expr} {fa : EV} {p p2 p3 pos ptup : Pos} {x y : Str} {n n' : String} {c} (hn : n ∈ zd0) (hn' : n' ∈ zd0) (hg : Gl X "isinstance") (hm : X.mg "isinstance" = none) (hg2 : Gl X x) (hm2 : X.mg x = none) (hv : bootBuiltins x = some (.type n)) (hg3 : Gl X y) (hm3 : X.mg y = none) (hv3 : bootBuiltins y = some (.type n')) (ha : QE X cl ex e fa) (hx : autoParam (x ≠ "__name__") AutoP.a1._auto_1) (hdb : autoParam ((x == ("__debug__" : Str)) = false) AutoP.a1._auto_1) (hx3 : autoParam (y ≠ "__name__") AutoP.a1._auto_1) (hdb3 : autoParam ((y == ("__debug__" : Str)) = false) AutoP.a1._auto_1)
  (he : autoParam (starEach [e, .Tuple [.Name x p2, .Name y p3] c ptup] X.env = (false, eval e X.env) :: starEach [.Tuple [.Name x p2, .Name y p3] c ptup] X.env) AutoP.a3._auto_1) (he2 : autoParam (starEach [.Tuple [.Name x p2, .Name y p3] c ptup] X.env = (false, eval (.Tuple [.Name x p2, .Name y p3] c ptup) X.env) :: starEach [] X.env) AutoP.a3._auto_1) (hpl : autoParam ((backTo pos (starEach [.Tuple [.Name x p2, .Name y p3] c ptup] X.env)).any (·.1) = false) AutoP.a3._auto_1)
  (he3 : autoParam (starEach [.Name x p2, .Name y p3] X.env = (false, eval (.Name x p2) X.env) :: starEach [.Name y p3] X.env) AutoP.a3._auto_1) (he4 : autoParam (starEach [.Name y p3] X.env = (false, eval (.Name y p3) X.env) :: starEach [] X.env) AutoP.a3._auto_1) :
  QE X cl ex (.Call (.Name "isinstance" p) [e, .Tuple [.Name x p2, .Name y p3] c ptup] [] pos) (eUn (zeU n n') fa) :=
 ⟨PE.weak (zcu (zkC hn hn') hg hm boot_isinstance (zaH ha.out (zaH (zl6 (zaH (zeI (v := .ty n) hg2 hm2 hv rfl hx hdb) (zaH (zeI (v := .ty n') hg3 hm3 hv3 rfl hx3 hdb3) zbU he4) he3)) zbU he2) he) (by decide) (by decide) he hpl) fun σ H Q hh => ex3 hh fun α ρ m W hr h => tD.use W hr h fun α1 m1 H1 d v E1 W1 hr1 rv q1 => by
  unfold zeU at q1
  split at q1
  ·refine ⟨by show 2 <= sizeLine; decide, fun p hp => ?_⟩
   have s1 := Same.new (o := .tup [.ty n, .ty n']) hp
   exact ⟨cl, α1, m1, d, v, _, p, rfl, W1.same s1, rv.mono W1 (Ext.of_same W1 s1), ‹_›, zap, PQ.okS W1 s1 q1 _ zd4⟩
  ·exact q1.elim⟩
end
def zbX : SV :=
 (zaG (sIf (zkL (zca (tV (zb9 leD leD (eC (.int 1)) (eFn zdW (zac (zae 0) zak)) (eC (.int 15))))) (zca (tV (eFn zlP (zac (eFn gL1 (zaQ 1 (aIt (zae 0)) (gN 1) za2 (zb9 leD leD (eC (.str "0")) (zae 1) (eC (.str "9"))))) zak)))))
 (zaV (eC .non))
 zb4)
 (zaG (sIf (zhY (tV (eOp eqD (eOp ixD (zae 0) (eC (.int 0))) (eC (.str "0")))) (tV (eOp neD (zae 0) (eC (.str "0")))))
 (zaV (eC .non))
 zb4)
 (zaV (eFn ziC (zac (zae 0) zak)))))
def zaO : List D -> Sto -> Res D := zbR 1 zbX
end MD
set_option autoImplicit false
namespace L2
open PySem PySem.Spec PyProof.Rows
theorem zbA {h : Heap} {a : Addr} {o : Obj} {vs : Array Value} {i : Nat} {x : Value} (he : h.get? a = some o) (hd : o.data = .fields vs) : (h.update a (Obj.mapFields fun z => z.setIfInBounds i x)).get? a = some { o with data := .fields (vs.setIfInBounds i x) } := by
 obtain ⟨c, d, dt, sl⟩ := o
 simp only at hd
 subst hd
 exact Heap.get?_update_self _ he rfl
theorem zgz {M : Model} {A : Around} {E : Value -> Shared -> Prop} {s : Shared} {nx fr ln fl la : Value} {pl : List Value} (hp : IsPlace pl) {Q : Value -> Shared -> Prop}
  (h : ∀ ts : Array Value, 3 < ts.size -> Q (.ref s.heap.objs.size) { s with heap := s.heap.push { cls := .type "traceback", data := .fields ts } }) : wpAny M A (EntryCells.newEntry nx fr ln fl la pl) Q E s := by
 unfold EntryCells.newEntry newFields
 refine wpAny_newObj_type (h _ ?_) ?_
 ·simp
 ·show Array.size _ <= sizeLine + 2
  have e : sizeLine = 16777216 := by decide
  rcases hp with rfl | ⟨a, b, c, d, c9, b10, _, rfl⟩ <;> simp <;> omega
theorem zhF {M : Model} {A : Around} {E : Value -> Shared -> Prop} {s : Shared} {base : Heap} {env : Env} {outer : List Env} {L e : Addr} {oe : Obj} {vs : Array Value} {head : Value} {hb : Bool} (fr : A.frames = some (env :: outer)) (ff : s.heap.FunFrames base (env :: outer)) (hL : env.frame = some L)
  (he : s.heap.get? e = some oe) (hd : oe.data = .fields vs) (hv : 1 < vs.size) {Q : Unit -> Shared -> Prop}
  (h : ∀ h' : Heap, (∀ b o, b ∉ frs (env :: outer) -> b ≠ e -> s.heap.get? b = some o -> h'.get? b = some o) -> (∀ b o, b ≠ e -> s.heap.get? b = some o -> ∃ sl, h'.get? b = some { o with slots := sl }) →
   (∃ vs', h'.get? e = some { oe with data := .fields vs' } /\ vs'[1]? = some (.ref s.heap.objs.size)) -> (∃ oT ts, h'.get? s.heap.objs.size = some oT /\ oT.data = .fields ts /\ 3 < ts.size) -> Q () { s with heap := h' }) :
  wpAny M A (do
   let a <- frameOf env
   let pl <- entryPlaceOf L hb
   let b <- EntryCells.newEntry head a Value.none (rawInt ↑L) Value.none pl
   setField (Value.ref e) 1 b) Q E s := by
 have nfe : e ∉ frs (env :: outer) := fun z => by
  obtain ⟨_, o, ho, hn⟩ := ff.mem z
  rw [he] at ho
  cases ho
  exact hn _ hd
 refine wpAny_bind (wpAny_frameOf_fun fr ff hL fun h1 so => ?_)
 obtain ⟨sz, k1, k2⟩ := so
 refine wpAny_bind (wpAny_entryPlaceOf fun pl hp => wpAny_bind (zgz hp fun ts hts => ?_))
 have he1 : h1.get? e = some oe := by rw [k1 e nfe]; exact he
 have he2 : (h1.push { cls := .type "traceback", data := .fields ts }).get? e = some oe := Heap.get?_push_of_some _ he1
 have ne : h1.objs.size ≠ e := Nat.ne_of_gt (Heap.lt_size he1)
 refine wpAny_setField he2 hd hv ?_
 have hT : ((h1.push { cls := .type "traceback", data := .fields ts }).update e (Obj.mapFields fun z => z.setIfInBounds 1 (.ref h1.objs.size))).get? h1.objs.size = some { cls := .type "traceback", data := .fields ts } := by
  rw [Heap.get?_update_ne _ _ _ _ ne]; exact Heap.get?_push_size _ rfl
 rw [show s.heap.objs.size = h1.objs.size from sz.symm] at h
 refine h _ (fun b o nb hb q => ?_) (fun b o hb q => ?_) ⟨vs.setIfInBounds 1 (.ref h1.objs.size), ?_, ?_⟩ ⟨_, ts, hT, rfl, hts⟩
 ·have q1 : h1.get? b = some o := by rw [k1 b nb]; exact q
  rw [Heap.get?_update_ne _ _ _ _ hb]
  exact Heap.get?_push_of_some _ q1
 ·obtain ⟨sl, q1⟩ := k2 b o q
  refine ⟨sl, ?_⟩
  rw [Heap.get?_update_ne _ _ _ _ hb]
  exact Heap.get?_push_of_some _ q1
 ·exact zbA he2 hd
 ·rw [Array.getElem?_setIfInBounds]; simp [hv]
def TbO (T : Addr) : Heap -> Prop := fun h => ∃ o vs, h.get? T = some o /\ o.data = .fields vs
theorem ff_up {h : Heap} {base : Heap} {T : Addr} {f : Obj -> Obj} : ∀ l : List Env, T ∉ frs l -> h.FunFrames base l -> (h.update T f).FunFrames base l
 | [], _, _ => by simp only [Heap.FunFrames]
 | x :: l, hn, q => by
  simp only [Heap.FunFrames] at q ⊢
  obtain ⟨q1, ⟨L, o, a, b, c, d⟩, q3⟩ := q
  have hn' : ¬ (L = T ∨ T ∈ frs l) := by
   intro z
   refine hn ?_
   unfold frs
   rw [List.filterMap_cons, a]
   rcases z with z | z
   ·rw [z]; exact List.mem_cons_self ..
   ·exact List.mem_cons_of_mem _ z
  exact ⟨q1, ⟨L, o, a, b, by rw [Heap.get?_update_ne _ _ _ _ fun z => hn' (.inl z)]; exact c, d⟩, ff_up l (fun z => hn' (.inr z)) q3⟩
theorem zlk {M : Model} {A : Around} {E : Value -> Shared -> Prop} {s : Shared} {base : Heap} {env : Env} {outer : List Env} {L e : Addr} {oe : Obj} {vs : Array Value} (fr : A.frames = some (env :: outer)) (ff : s.heap.FunFrames base (env :: outer)) (hL : env.frame = some L)
  (he : s.heap.get? e = some oe) (hd : oe.data = .fields vs) {Q : Unit -> Shared -> Prop}
  (hh : vs[1]? = some .none ∨ ∃ T oT ts, vs[1]? = some (.ref T) /\ T ≠ e /\ s.heap.get? T = some oT /\ oT.data = .fields ts /\ 3 < ts.size) (h0 : vs[1]? ≠ some .none -> Q () s)
  (h : ∀ h' : Heap, (∀ b o, b ∉ frs (env :: outer) -> b ≠ e -> vs[1]? ≠ some (.ref b) -> s.heap.get? b = some o -> h'.get? b = some o) -> (∀ b o, b ≠ e -> vs[1]? ≠ some (.ref b) -> s.heap.get? b = some o -> ∃ sl, h'.get? b = some { o with slots := sl }) -> (∀ T, vs[1]? = some (.ref T) -> TbO T h') →
   (∃ vs', h'.get? e = some { oe with data := .fields vs' } /\ vs'[1]? = some (.ref s.heap.objs.size)) -> (∃ oT ts, h'.get? s.heap.objs.size = some oT /\ oT.data = .fields ts /\ 3 < ts.size) -> Q () { s with heap := h' }) :
  wpAny M A (noteFrame (.ref e) env) Q E s := by
 unfold noteFrame
 rw [hL]
 rcases hh with hv | ⟨T, oT, ts, hv, ne, hT, hdT, h3⟩
 ·have h1 : 1 < vs.size := by have := (Array.getElem?_eq_some_iff.mp hv).1; exact this
  refine wpAny_bind (wpAny_field he hd hv ?_)
  refine zhF (head := .none) fr ff hL he hd h1 fun h' k1 k2 k3 k4 => h h' (fun b o a c _ q => k1 b o a c q) (fun b o a _ q => k2 b o a q) (fun T z => ?_) k3 k4
  rw [hv] at z; cases z
 ·have h1 : 1 < vs.size := by have := (Array.getElem?_eq_some_iff.mp hv).1; exact this
  refine wpAny_bind (wpAny_field he hd hv ?_)
  refine wpAny_bind (wpAny_field hT hdT (Array.getElem?_eq_getElem h3) ?_)
  by_cases hx : (ts[3] == rawInt L) = true
  ·dsimp only
   rw [if_pos hx]
   exact wpAny_pure (h0 (by rw [hv]; intro z; cases z))
  dsimp only
  rw [if_neg hx]
  refine wpAny_bind (wpAny_setField hT hdT h3 ?_)
  have nT : T ∉ frs (env :: outer) := fun z => by
   obtain ⟨_, o, ho, hn⟩ := ff.mem z
   rw [hT] at ho
   cases ho
   exact hn _ hdT
  have hT' := zbA (i := 3) (x := .none) hT hdT
  have he' : (s.heap.update T (Obj.mapFields fun z => z.setIfInBounds 3 .none)).get? e = some oe := by rw [Heap.get?_update_ne _ _ _ _ ne.symm]; exact he
  have ff' : (s.heap.update T (Obj.mapFields fun z => z.setIfInBounds 3 .none)).FunFrames base (env :: outer) := ff_up _ nT ff
  have zs : (s.heap.update T (Obj.mapFields fun z => z.setIfInBounds 3 .none)).objs.size = s.heap.objs.size := Heap.size_update ..
  refine zhF (head := .ref T) fr ff' hL he' hd h1 fun h' k1 k2 k3 k4 => h h' (fun b o a c n q => k1 b o a c ?_) (fun b o a n q => k2 b o a ?_) (fun T' z => ?_) (by simpa only [zs] using k3) (by simpa only [zs] using k4)
  ·rw [Heap.get?_update_ne _ _ _ _ fun z => n (by rw [hv, z])]; exact q
  ·rw [Heap.get?_update_ne _ _ _ _ fun z => n (by rw [hv, z])]; exact q
  ·rw [hv] at z; cases z
   have := k1 T _ nT ne hT'
   exact ⟨_, _, this, rfl⟩
end L2
set_option autoImplicit false
namespace L2
open PySem PySem.Spec PyProof.Rows MD
structure Fly (C : Value) (dd : Option Addr) (e : Addr) (H : Hp) (h : Heap) : Prop where
 te : H e = some (.ext (zkM C dd e))
 lies : ∃ o vs, h.get? e = some o /\ o.cls = C /\ o.dict = dd /\ o.data = .fields vs /\ (vs[1]? = some .none ∨ ∃ T oT ts, vs[1]? = some (.ref T) /\ T ≠ e /\ H T = some (.ext (TbO T)) /\ h.get? T = some oT /\ oT.data = .fields ts /\ 3 < ts.size)
theorem zjB {P : Program} {w : World} {H : Hp} {h : Heap} {C : Value} {dd : Option Addr} {e : Addr} (x : zkM C dd e h) : ObjOk P w H h e (.ext (zkM C dd e)) := by
 refine ⟨x, ?_, fun h1 h2 a k => ?_⟩
 ·obtain ⟨o, _, q, _⟩ := x
  exact ⟨o, q⟩
 ·obtain ⟨o, vs, q, r⟩ := a
  exact ⟨o, vs, k o q, r⟩
theorem znm {P : Program} {w : World} {H : Hp} {h : Heap} {T : Addr} (x : TbO T h) : ObjOk P w H h T (.ext (TbO T)) := by
 refine ⟨x, ?_, fun h1 h2 a k => ?_⟩
 ·obtain ⟨o, _, q, _⟩ := x
  exact ⟨o, q⟩
 ·obtain ⟨o, vs, q, r⟩ := a
  exact ⟨o, vs, k o q, r⟩
theorem ObjOk.has {P : Program} {w : World} {H : Hp} {h : Heap} {a : Addr} {o : HO} (x : ObjOk P w H h a o) : ∃ u, h.get? a = some u := by
 cases o with
 | lst xs => obtain ⟨_, _, _, _, e⟩ := x; exact ⟨_, e⟩
 | tup xs => obtain ⟨_, _, _, _, u, e, _⟩ := x; exact ⟨u, e⟩
 | dK kvs => obtain ⟨_, _, _, _, o, _, _, e, _⟩ := x; exact ⟨_, e⟩
 | dT kvs => obtain ⟨_, _, _, _, o, _, _, e, _⟩ := x; exact ⟨_, e⟩
 | set S n => obtain ⟨o, _, _, _, e, _⟩ := x; exact ⟨_, e⟩
 | ins C dx fs => obtain ⟨_, _, _, e, _⟩ := x; exact ⟨_, e⟩
 | own y => exact x
 | xd fs => obtain ⟨_, ⟨_, _, _, e, _⟩, _⟩ := x; exact ⟨_, e⟩
 | rng lo hi => obtain ⟨_, _, _, e⟩ := x; exact ⟨_, e⟩
 | frz ob u => obtain ⟨e, _⟩ := x; exact ⟨_, e⟩
 | tbl ps => exact ⟨_, show h.get? a = some _ from x⟩
 | met f y => exact ⟨_, show h.get? a = some _ from x⟩
 | ext φ => exact x.2.1
theorem HOk.none {P : Program} {w : World} {H : Hp} {h : Heap} {a : Addr} (x : HOk P w H h) (e : h.get? a = Option.none) : H a = Option.none := by
 cases q : H a with
 | none => rfl
 | some u =>
  obtain ⟨o, z⟩ := (x a u q).has
  rw [e] at z
  cases z
section
variable {X : Cx} {pins : List (Addr × Obj)} {σ : St} {H : Hp} {s : Shared} {C : Value} {dd : Option Addr} {e : Addr}
theorem zlr {h' : Heap} {args : List Value} (I : Inv X pins σ H s) (hm : s.heap.MadeExcOf h' e C args) : H e = none /\ Inv X pins σ (upd H e (.ext (zkM C none e))) { s with heap := h' } /\ Fly C none e (upd H e (.ext (zkM C none e))) h' := by
 have hn := I.hok.none hm.new
 obtain ⟨t, he, _⟩ := hm.there
 have ne : ∀ b o, s.heap.get? b = some o -> b ≠ e := fun b o q z => by rw [z, hm.new] at q; cases q
 refine ⟨hn, ?_, zap, _, _, he, rfl, rfl, rfl, .inl rfl⟩
 refine I.un (t' := s.toks) (h' := h') ⟨fun b o q _ _ _ => hm.keeps b o q, fun b o q _ _ _ => ⟨_, hm.keeps b o q⟩, fun b o q n _ => by rw [zal (ne b o q)]; exact n, fun b o q _ => ⟨_, hm.keeps b o q⟩, fun b xs q => by rw [zal (zan q hn)]; exact q, fun b o u q => by rw [zal (zan q hn)]; exact q, fun b ps q => ⟨#[], by rw [zal (zan q hn), q]; simp⟩⟩ fun b u q => ?_
 by_cases hb : b = e
 ·subst hb
  rw [zap] at q
  cases q
  exact zjB ⟨_, _, he, rfl, rfl, rfl⟩
 ·rw [zal hb] at q
  exact (I.hok b u q).stay (fun c v _ z => hm.keeps c v z) (fun c z => by rw [zal (zan z hn)]; exact z) fun c xs z => by rw [zal (zan z hn)]; exact z
def Tr (e : Addr) (h : Heap) : Prop := ∀ o vs, h.get? e = some o -> o.data = .fields vs -> vs[1]? ≠ some .none
theorem zjH {M : Model} {A : Around} {Q : Unit -> Shared -> Prop} {E : Value -> Shared -> Prop} {env0 : Env} {out0 : List Env} {L : Addr} (I : Inv X pins σ H s) (hk : X.stack = env0 :: out0) (hf : env0.frame = some L) (hA : A.frames = X.A.frames) (F : Fly C dd e H s.heap)
  (h : ∀ s' H', s'.os = s.os -> Same H H' -> Inv X pins σ H' s' -> Fly C dd e H' s'.heap -> Tr e s'.heap -> Q () s') : wpAny M A (noteFrame (.ref e) env0) Q E s := by
 have F0 := F
 obtain ⟨te, o, vs, ho, hc, hdd, hd, hl⟩ := F
 have fr : A.frames = some (env0 :: out0) := by rw [hA, <- hk]; exact I.ok.frames
 have ff : s.heap.FunFrames X.base (env0 :: out0) := hk ▸ I.stack
 refine zlk fr ff hf ho hd (hl.imp id fun ⟨T, oT, ts, a, b, c, d, f, g⟩ => ⟨T, oT, ts, a, b, d, f, g⟩) (fun z => h s H rfl (fun _ _ z => z) I F0 fun o1 v1 q1 q2 => by rw [ho] at q1; cases q1; rw [hd] at q2; cases q2; exact z) fun h' k1 k2 k3 k4 k5 => ?_
 have hn : H s.heap.objs.size = none := I.hok.fresh (Nat.le_refl _)
 have trk : ∀ b, vs[1]? = some (.ref b) -> H b = some (.ext (TbO b)) := fun b z => by
  rcases hl with q | ⟨T, oT, ts, a, _, c, _⟩
  ·rw [q] at z; cases z
  ·rw [a] at z; cases z; exact c
 have nf : ∀ b u, H b = some u -> b ∉ frs (env0 :: out0) := fun b u q z => by
  have := I.stkFree b (hk ▸ z)
  rw [q] at this; cases this
 obtain ⟨vs', he', hv'⟩ := k4
 obtain ⟨oT, ts, hT, hdT, h3⟩ := k5
 have exo : zkM C dd e h' := ⟨_, vs', he', hc, hdd, rfl⟩
 have ssz : ∀ b o, s.heap.get? b = some o -> b ≠ s.heap.objs.size := fun b o q => Nat.ne_of_lt (Heap.lt_size q)
 have un : Un (frs X.stack) [] H (upd H s.heap.objs.size (.ext (TbO s.heap.objs.size))) s.heap h' := by
  rw [hk]
  refine ⟨fun b u q n hb _ => k1 b u hb (fun z => by rw [z, te] at n; cases n) (fun z => by rw [trk b z] at n; cases n) q, fun b u q n hb _ => k2 b u (fun z => by rw [z, te] at n; cases n) (fun z => by rw [trk b z] at n; cases n) q, fun b u q n _ => by rw [zal (ssz b u q)]; exact n, fun b u q _ => ?_, fun b xs q => by rw [zal (zan q hn)]; exact q, fun b o u q => by rw [zal (zan q hn)]; exact q, fun b ps q => ⟨#[], by rw [zal (zan q hn), q]; simp⟩⟩
  by_cases hb : b = e
  ·rw [hb]; exact ⟨_, he'⟩
  ·by_cases hv : vs[1]? = some (.ref b)
   ·obtain ⟨o, _, q, _⟩ := k3 b hv
    exact ⟨o, q⟩
   ·obtain ⟨sl, q⟩ := k2 b u hb hv q
    exact ⟨_, q⟩
 have hok : HOk X.prog X.w (upd H s.heap.objs.size (.ext (TbO s.heap.objs.size))) h' := fun b u q => by
  by_cases hb : b = s.heap.objs.size
  ·subst hb
   rw [zap] at q
   cases q
   exact znm ⟨oT, ts, hT, hdT⟩
  ·rw [zal hb] at q
   by_cases he : b = e
   ·subst he
    rw [te] at q
    cases q
    exact zjB exo
   ·by_cases hv : vs[1]? = some (.ref b)
    ·rw [trk b hv] at q
     cases q
     exact znm (k3 b hv)
    ·refine (I.hok b u q).stay (fun c v hc z => ?_) (fun c z => by rw [zal (zan z hn)]; exact z) fun c xs z => by rw [zal (zan z hn)]; exact z
     rcases hc with rfl | hc
     ·exact k1 c v (nf c u q) he hv z
     ·exact k1 c v (nf c _ hc) (fun z => by rw [z, te] at hc; cases hc) (fun z => by rw [trk c z] at hc; cases hc) z
 refine h _ _ rfl (MD.Same.new hn) (I.call (g' := s.gens) (t' := s.toks) (d' := s.drawn) un hok I.bare fun b z => absurd z (by simp)) ⟨?_, _, vs', he', hc, hdd, rfl, .inr ⟨_, oT, ts, hv', ?_, zap, hT, hdT, h3⟩⟩ fun o1 v1 q1 q2 => ?_
 ·rw [zal (zan te hn)]; exact te
 ·exact (ssz e o ho).symm
 ·rw [show h'.get? e = _ from he'] at q1; cases q1; cases q2; rw [hv']; intro z; cases z
theorem zfN {M : Model} {A : Around} {Q : Unit -> Shared -> Prop} {E : Value -> Shared -> Prop} {f : Option Addr} (I : Inv X pins σ H s) (F : Fly C dd e H s.heap) (h : ∀ s', s'.os = s.os -> Inv X pins σ H s' -> Fly C dd e H s'.heap -> Q () s') : wpAny M A (setFlight (.ref e) f) Q E s := by
 have F0 := F
 obtain ⟨te, o, vs, ho, hc, hdd, hd, hl⟩ := F
 unfold setFlight
 rcases hl with hv | ⟨T, oT, ts, hv, ne, tT, hT, hdT, h3⟩
 ·exact wpAny_bind (wpAny_field ho hd hv (wpAny_pure (h s rfl I F0)))
 ·refine wpAny_bind (wpAny_field ho hd hv ?_)
  show wpAny M A (setField (.ref T) 3 (f.elim .none fun f => rawInt f)) Q E s
  refine wpAny_setField hT hdT h3 (h _ rfl ?_ ⟨te, o, vs, ?_, hc, hdd, hd, .inr ⟨T, _, _, hv, ne, tT, zbA hT hdT, rfl, by simpa using h3⟩⟩)
  ·have e1 : upd H T (.ext (TbO T)) = H := by
    funext b
    by_cases hb : b = T
    ·rw [hb, zap, tT]
    ·rw [zal hb]
   have := I.write (x := T) (e := T) (o := .ext (TbO T)) (t' := s.toks) (h' := s.heap.update T (Obj.mapFields fun z => z.setIfInBounds 3 (f.elim .none fun f => rawInt f))) (by rw [tT]; trivial) (.inl rfl) (fun b u hb q => by rw [Heap.get?_update_ne _ _ _ _ hb]; exact q) ⟨_, zbA hT hdT⟩ (znm ⟨_, _, zbA hT hdT, rfl⟩)
   rw [e1] at this
   exact this
  ·show (s.heap.update T _).get? e = some o
   rw [Heap.get?_update_ne _ _ _ _ ne.symm]; exact ho
theorem zfE {M : Model} {A : Around} {Q : Unit -> Shared -> Prop} {E : Value -> Shared -> Prop} (I : Inv X pins σ H s) (hk : X.stack = X.env :: X.outer) (hA : A.frames = X.A.frames) (F : Fly C dd e H s.heap)
  (h : ∀ s' H', s'.os = s.os -> Same H H' -> Inv X pins σ H' s' -> Fly C dd e H' s'.heap -> Q () s') : wpAny M A (noteFrame (.ref e) X.env) (fun _ s' => wpAny M A (setFlight (.ref e) none) Q E s') E s := by
 have hf : X.env.frame = some X.env.locals := by
  rcases I.ok.stk with z | ⟨_, z⟩
  ·rw [hk] at z
   have := congrArg List.length z
   simp at this
  ·exact z
 exact zjH I hk hf hA F fun s1 H1 o1 S1 I1 F1 _ => zfN I1 F1 fun s2 o2 I2 F2 => h s2 H1 (o2.trans o1) S1 I2 F2
theorem zjV {M : Model} {A : Around} {Q : Unit -> Shared -> Prop} {E : Value -> Shared -> Prop} (I : Inv X pins σ H s) (hk : X.stack = X.env :: X.outer) (hA : A.frames = X.A.frames) (F : Fly C dd e H s.heap)
  (h : ∀ s' H', s'.os = s.os -> Same H H' -> Inv X pins σ H' s' -> Fly C dd e H' s'.heap -> Q () s') : wpAny M A (leaving X.env (.ref e)) Q E s := by
 unfold leaving
 exact wpAny_bind (zfE I hk hA F h)
def CXx (P : Program) (w : World) : CXT := fun outer H s E v s' => ∃ e C dd H', v = .ref e /\ s'.os = s.os /\ AllBare s'.gens /\ Un (frs outer) [] H H' s.heap s'.heap /\ HOk P w H' s'.heap /\ Fly C dd e H' s'.heap /\ E C dd H'
end
end L2
set_option autoImplicit false
namespace MD
open PySem PySem.Spec PyProof.Rows L2
def Res.pu {α : Type} (r : Res α) : Res α := match r with
 | .exc _ _ => .bad
 | r => r
def aPu (f : AV) : AV := fun ρ m => (f ρ m).pu
def tPu (f : TV) : TV := fun ρ m => (f ρ m).pu
def sPu (f : SV) : SV := fun ρ m => (f ρ m).pu
theorem PQ.pu {K : PySem.W.Frag} {cl : Str -> Addr} {ex : XD} {τ : Type} {r : Res τ} {α : List Addr} {H : Hp} {R : RD τ} (h : PQ K cl ex r.pu α H R) : PQ K cl X0 r α H R := by
 cases r with
 | ok d m => exact h
 | exc c m => exact h.elim
 | bad => exact h
def FlyC (K : PySem.W.Frag) (cl : Str -> Addr) (c : Exc) (e : Addr) (α : List Addr) (H : Hp) (h : Heap) : Prop := ∃ dd xs, PySem.W.nsIn K mainGlobals c.cls = some (some (.ref (cl c.cls))) /\ Fly (.ref (cl c.cls)) dd e H h /\ XdAt H dd xs /\ RepL K α H c.args xs
def XP (X : Cx) (cl : Str -> Addr) (pins : List (Addr × Obj)) (σ : L2.St) (W : XD) (v : Value) (s' : Shared) : Prop :=
 ∃ e H' c α' m', v = .ref e /\ Inv X pins σ H' s' /\ FlyC X.K cl c e α' H' s'.heap /\ Wd X.K cl α' m' H' /\ ∀ α2 H2, Ext α' H' α2 H2 -> Wd X.K cl α2 m' H2 -> W c α2 m' H2
def XPs (X : Cx) (cl : Str -> Addr) (pins : List (Addr × Obj)) (W : XD) (v : Value) (s' : Shared) : Prop := ∃ σ, XP X cl pins σ W v s'
section
variable (X : Cx) (cl : Str -> Addr)
structure YE (e : Expr) (f : EV) : Prop where
 out : ∀ (pins : List (Addr × Obj)) (s : Shared) (σ : L2.St) (H : Hp) (Q : VK) (W : XD), Inv X pins σ H s -> tD X.K cl W f σ H Q -> wpAny (model X.prog X.w) X.A (eval e X.env) (EP X pins σ Q) (XP X cl pins σ W) s
structure YS (st : Stmt) (f : SV) : Prop where
 out : ∀ (pins : List (Addr × Obj)) (s : Shared) (σ : L2.St) (H : Hp) (D : Ends) (W : XD), Inv X pins σ H s -> tDS X.K cl W f D σ H -> wpAny (model X.prog X.w) X.A (exec st X.env) (SP X pins D) (XPs X cl pins W) s
structure YSs (st : List Stmt) (f : SV) : Prop where
 out : ∀ (pins : List (Addr × Obj)) (s : Shared) (σ : L2.St) (H : Hp) (D : Ends) (W : XD), Inv X pins σ H s -> tDS X.K cl W f D σ H -> wpAny (model X.prog X.w) X.A (execs st X.env) (SP X pins D) (XPs X cl pins W) s
end
section
variable {X : Cx} {cl : Str -> Addr} {e : Expr} {es : List Expr} {f g : EV} {ta : TV} {fr : AV} {pos p : Pos} {st : Stmt} {sts sts' : List Stmt} {fs gs : SV}
theorem tDT.pu {W : XD} {σ : L2.St} {H : Hp} {Q : Bool -> Hp -> Prop} (h : tDT X.K cl W (tPu ta) σ H Q) : tDT X.K cl X0 ta σ H Q := ex3 h fun α ρ m W hr h => ⟨α, ρ, m, W, hr, PQ.pu h⟩
theorem tDS.pu {W : XD} {σ : L2.St} {H : Hp} {D : Ends} (h : tDS X.K cl W (sPu fs) D σ H) : tDS X.K cl X0 fs D σ H := ex3 h fun α ρ m W hr h => ⟨α, ρ, m, W, hr, PQ.pu h⟩
theorem ys_pu (hx : X.xe = fun _ _ => False) (h : QS X cl X0 st fs) : YS X cl st (sPu fs) :=
 ⟨fun pins s σ H D W I q => wpAny_mono (h.out pins s σ H D I q.pu) (fun _ _ z => z) fun _ _ z => by rw [hx] at z; exact z.elim⟩
theorem ziF : YSs X cl [] zb4 := ⟨fun pins s σ H D W I hh => ex3 hh fun α ρ m W hr h => wpAny_execs_nil ⟨σ, H, I, PQ.ok W h σ hr⟩⟩
theorem zf9 (h1 : YS X cl st fs) : YSs X cl [st] fs := ⟨fun pins s σ H D W I h => by
 refine wpAny_execs_cons (thn (h1.out pins s σ H D W I h) fun f s1 q => ?_)
 cases f with
 | next => exact wpAny_execs_nil q
 | ret v => exact q
 | brk => exact q
 | cont => exact q⟩
theorem zeq (h1 : YS X cl st fs) (h2 : YSs X cl sts gs) : YSs X cl (st :: sts) (zaG fs gs) := ⟨fun pins s σ H D W I hh => by
 refine wpAny_execs_cons (thn (h1.out pins s σ H { D with nx := fun σ1 H1 => tDS X.K cl W gs D σ1 H1 } W I ?_) fun f s1 q => ?_)
 ·exact ex3 hh fun α ρ m W0 hr h => ⟨α, ρ, m, W0, hr, PQ.mono (Ext.refl W0) h.bind fun fl α1 m1 H1 E1 W1 q => by
   cases fl with
   | nx ρ1 => exact fun σ1 hr1 => ⟨α1, ρ1, m1, W1, hr1, q⟩
   | rt d => exact PQ.ok W1 q
   | bk ρ1 => exact PQ.ok W1 q
   | ct ρ1 => exact PQ.ok W1 q⟩
 ·cases f with
  | next =>
   obtain ⟨σ', H', I', q⟩ := q
   exact h2.out pins s1 σ' H' D W I' q
  | ret v => exact q
  | brk => exact q
  | cont => exact q⟩
structure YB (X : Cx) (cl : Str -> Addr) (st : Stmt) (f : SV) : Prop where
 out : ∀ (pins : List (Addr × Obj)) (s : Shared) (σ : L2.St) (H : Hp) (D : Ends) (W : XD), Inv X pins σ H s -> tDS X.K cl W f D σ H -> wpAny (model X.prog X.w) X.A (exec st X.env) (SP X pins D) (XP X cl pins σ W) s
theorem XP.up {W : XD} {pins : List (Addr × Obj)} {σ : L2.St} {v : Value} {s : Shared} (h : XP X cl pins σ W v s) : XPs X cl pins W v s := ⟨σ, h⟩
theorem ys_if (hx : X.xe = fun _ _ => False) {c : Expr} (hc : QT X cl X0 c ta) (ha : YSs X cl sts fs) (hb : YSs X cl sts' gs) : YS X cl (.If c sts sts' pos) (sIf (tPu ta) fs gs) := ⟨fun pins s σ H D W I hh => by
 refine wpAny_If (wpAny_mono (hc.out pins s σ H (fun b H1 => tDS X.K cl W (if b = true then fs else gs) D σ H1) I ?_) (fun d s1 ⟨H1, I1, q1⟩ => ?_) fun _ _ z => by rw [hx] at z; exact z.elim)
 ·refine tDT.pu (W := W) (ex3 hh fun α ρ m W0 hr h => tDT.use W0 hr h fun α1 m1 H1 d E1 W1 hr1 h1 => ⟨α1, ρ, m1, W1, hr1, ?_⟩)
  cases d <;> exact h1
 ·cases d with
  | true => exact ha.out pins s1 σ H1 D W I1 q1
  | false => exact hb.out pins s1 σ H1 D W I1 q1⟩
theorem yb_set {i : Nat} {x : Str} {pos' : Pos} (hN : X.N.Nodup) (hi : X.N[i]? = some x) (hx : Loc X.env.scope x) (he : YE X cl e f) (hs : autoParam (swapsWith e (some (.Name x pos')) pos.line X.env = pure false) AutoP.a3._auto_1) (hf : autoParam (X.fn x = true ∨ X.env.scope.names.lookup x = some .local) AutoP.a0._auto_1) :
  YB X cl (.Assign [.Name x pos'] e pos) (za1 f (gN i)) := ⟨fun pins s σ H D W I hh => by
 refine wpAny_Assign_Name (wpAny_mono (he.out pins s σ H (fun v H1 => D.nx (σ.set i (some v)) H1) W I (ex3 hh fun α ρ m W hr h => tD.use W hr h fun α1 m1 H1 d v E1 W1 hr1 rv h1 => PQ.ok W1 h1 _ (hr1.set rv))) (fun v s1 ⟨y, H1, I1, r1, q1⟩ => ?_) fun _ _ z => z) hs
 exact zbD I1 hN hi hx r1 (fun s2 I2 => ⟨_, H1, I2, q1⟩) hf⟩
end
theorem YB.ys {X : Cx} {cl : Str -> Addr} {st : Stmt} {f : SV} (h : YB X cl st f) : YS X cl st f := ⟨fun pins s σ H D W I q => wpAny_mono (h.out pins s σ H D W I q) (fun _ _ z => z) fun _ _ z => z.up⟩
def exE (K : PySem.W.Frag) (cl : Str -> Addr) (E : XK) : XD := fun c α' _ H' => ∀ dd xs, PySem.W.nsIn K mainGlobals c.cls = some (some (.ref (cl c.cls))) -> XdAt H' dd xs -> RepL K α' H' c.args xs -> E (.ref (cl c.cls)) dd H'
def spX (K : PySem.W.Frag) (cl : Str -> Addr) (n : Nat) (g : List D -> Sto -> Res D) : Sp := fun vs H Q E => vs.length = n /\ ∃ α m ds, Wd K cl α m H /\ RepL K α H ds vs /\ PQ K cl (exE K cl E) (g ds m) α H fun d α' _ H' => ∀ v, Rep K α' H' d v -> Q v H'
theorem fn_x {K : PySem.W.Frag} {cl : Str -> Addr} {n : Nat} {N : List Str} {body : SV} {vs : List V} {H : Hp} {Q : VK} {E : XK} (h : spX K cl n (zbR N.length body) vs H Q E) : tDS K cl (exE K cl E) body { nx := fun _ H' => Q .non H', rt := Q } (L2.start N vs) H := by
 obtain ⟨_, α, m, ds, W, r, q⟩ := h
 refine ⟨α, _, m, W, zcI r, PQ.mono (Ext.refl W) q.bind fun fl α1 m1 H1 E1 W1 q1 => ?_⟩
 cases fl with
 | nx ρ => exact fun σ _ => PQ.ok W1 q1 _ (by rw [Rep])
 | rt d => exact PQ.ok W1 q1
 | bk ρ => exact q1.elim
 | ct ρ => exact q1.elim
theorem fn_okx {P : Program} {w : World} {K : PySem.W.Frag} {mg : Str -> Option Value} {base : Heap} {cl : Str -> Addr} {x qual : Str} {st : Stmt} {f : Addr} {fd : FuncData} {N ps : List Str} {k n : Nat} {body : SV} (F : Fun K x qual st f fd) (S : FnScope N ps (zah st)) (hn : n = ps.length)
  (h : ∀ (cdv : Value) (A : Around) (outer : List PySem.Env) (s : Shared) (H : Hp) (E : XK), Room k (A.deeper (envOfC qual (zah st) s.heap.objs.size f cdv)) -> YSs (zfQ (CXx P w) P w K mg base N qual (zah st) f cdv A outer s H E).nox cl (za0 st) body) : FnOk P w K mg base (CXx P w) (k + 1) f fd ps (spX K cl n (zbR N.length body)) := by
 obtain ⟨oc, od, kV, doc, pm, an, cdv, ct, osl, rfl, lk, hcd⟩ := F.ex
 refine fn_of lk hcd S (fun vs H Q E h => by rw [<- hn]; exact h.1) fun A outer s H vs Q E hr hsp => ?_
 refine ⟨fun D σ H1 => tDS K cl (exE K cl E) body D σ H1, fun pins s1 σ H1 D I hw => ?_, fn_x hsp⟩
 refine wpAny_mono ((h cdv A outer s H E hr).out pins s1 σ H1 D (exE K cl E) (I.wish _) hw) (fun _ _ q => q.unwish) fun v s2 hv => ?_
 obtain ⟨σ', e, H', c, α', m', rfl, I', ⟨dd, xs, hns, F, hxd, hrl⟩, Wd', hW⟩ := hv
 have I2 := I'.unwish
 refine zjV I2 rfl rfl F fun s3 H3 hos sm I3 F3 => ?_
 have Es := Ext.of_same Wd' sm
 exact ⟨e, _, dd, H3, rfl, I3.os, I3.bare, I3.base, I3.hok, F3, hW α' H3 Es (Wd'.same sm) dd xs hns ((Es.kp Wd').xdAt hxd) (hrl.mono Wd' Es)⟩
structure FnE (P : Program) (w : World) (K : PySem.W.Frag) (mg : Str -> Option Value) (base : Heap) (cl : Str -> Addr) (x : Str) (k n : Nat) (g : List D -> Sto -> Res D) : Prop where
 ex : ∃ (f : Addr) (fd : FuncData) (ps : List Str), mg x = some (.ref f) /\ PySem.W.keepIn K (.ref f) = true /\ Binds K fd ps [] /\ FnOk P w K mg base (CXx P w) k f fd ps (spX K cl n g)
theorem FnE.mk' {P : Program} {w : World} {K : PySem.W.Frag} {mg : Str -> Option Value} {base : Heap} {cl : Str -> Addr} {x qual : Str} {st : Stmt} {f : Addr} {fd : FuncData} {N ps : List Str} {k n : Nat} {body : SV} (F : Fun K x qual st f fd) (b : Binds K fd ps []) (m : mg x = some (.ref f)) (S : FnScope N ps (zah st)) (hn : n = ps.length)
  (h : ∀ (cdv : Value) (A : Around) (outer : List PySem.Env) (s : Shared) (H : Hp) (E : XK), Room k (A.deeper (envOfC qual (zah st) s.heap.objs.size f cdv)) -> YSs (zfQ (CXx P w) P w K mg base N qual (zah st) f cdv A outer s H E).nox cl (za0 st) body) : FnE P w K mg base cl x (k + 1) n (zbR N.length body) :=
 ⟨f, fd, ps, m, F.kp, b, fn_okx F S hn h⟩
section
variable {X : Cx} {cl : Str -> Addr} {e : Expr} {es : List Expr} {fr : AV} {p pos : Pos} {x : Str} {k n : Nat} {g : List D -> Sto -> Res D}
theorem zmI {pins : List (Addr × Obj)} {σ : L2.St} {H : Hp} {s : Shared} {Q : VK} {W : XD} {us : List Value} {vs : List V} {f : Addr} {fd : FuncData} {ps : List Str} {α : List Addr} {m : Sto} {ds : List D} (F : FnOk X.prog X.w X.K X.mg X.base (CXx X.prog X.w) k f fd ps (spX X.K cl n g)) (hr : Room k X.A) (hb : Binds X.K fd ps [])
  (I : Inv X pins σ H s) (r : Vals vs us) (hn : vs.length = n) (W0 : Wd X.K cl α m H) (rd : RepL X.K α H ds vs) (q : PQ X.K cl W (g ds m) α H fun d α' _ H' => ∀ v, Rep X.K α' H' d v -> Q v H') : wpAny (model X.prog X.w) X.A (call (.ref f) us) (EP X pins σ Q) (XP X cl pins σ W) s := by
 let E : XK := fun C dd H2 => ∃ c α2 m2 xs, C = .ref (cl c.cls) /\ PySem.W.nsIn X.K mainGlobals c.cls = some (some (.ref (cl c.cls))) /\ XdAt H2 dd xs /\ RepL X.K α2 H2 c.args xs /\ Wd X.K cl α2 m2 H2 /\ ∀ α3 H3, Ext α2 H2 α3 H3 -> Wd X.K cl α3 m2 H3 -> W c α3 m2 H3
 have hq : PQ X.K cl (exE X.K cl E) (g ds m) α H fun d α' _ H' => ∀ v, Rep X.K α' H' d v -> Q v H' := by
  cases hg : g ds m with
  | ok d m1 => rw [hg] at q; exact q
  | bad => rw [hg] at q; exact q
  | exc c m1 =>
   rw [hg] at q
   exact fun α2 H2 E2 W2 dd xs h1 h2 h3 => ⟨c, α2, m1, xs, rfl, h1, h2, h3, W2, fun α3 H3 E3 W3 => q α3 H3 (E2.trans E3) W3⟩
 have h : spX X.K cl n g vs H Q E := ⟨hn, α, m, ds, W0, rd, hq⟩
 have hl : us.length = ps.length := by rw [<- r.length]; exact F.len _ _ _ _ h
 refine wpAny_call (codeAny_mono (F.run X.A X.stack s H ⟨us, []⟩ us vs Q E hr I.env0 (by have := hb s us I.kIn (by simpa using hl); simpa using this) r h) fun r s' hq => ?_)
 cases r with
 | error v =>
  obtain ⟨e, C, dd, H', rfl, os, bare, un, hok, F, c, α2, m2, xs, rfl, h1, h2, h3, h4, h5⟩ := hq
  exact ⟨e, H', c, α2, m2, rfl, I.call' (ch := []) os un hok bare (fun b z => absurd z (by simp)), ⟨dd, xs, h1, F, h2, h3⟩, h4, h5⟩
 | ok fl =>
  cases fl with
  | ret u => exact I.after hq
  | next => exact False.elim hq
  | brk => exact False.elim hq
  | cont => exact False.elim hq
theorem ye_fn (hx : X.xe = fun _ _ => False) (h : FnE X.prog X.w X.K X.mg X.base cl x k n g) (hn : n = (e :: es).length) (hr : Room k X.A) (hg : Gl X x)
  (ha : QA X cl X0 (e :: es) fr) (hlen : ∀ ρ m ds m1, fr ρ m = .ok ds m1 -> ds.length = (e :: es).length) (hdb : autoParam ((x == ("__debug__" : Str)) = false) AutoP.a1._auto_1) (he : autoParam (starEach (e :: es) X.env = (false, eval e X.env) :: starEach es X.env) AutoP.a3._auto_1) (hpl : autoParam ((backTo pos (starEach es X.env)).any (·.1) = false) AutoP.a3._auto_1) :
  YE X cl (.Call (.Name x p) (e :: es) [] pos) (eFn g (aPu fr)) := by
 obtain ⟨f, fd, ps, h1, h2, h3, h4⟩ := h.ex
 refine ⟨fun pins s σ H Q W I hh => ?_⟩
 refine wpAny_Call_Name_kw (zcj I hg h1 ?_ hdb)
 refine PySem.W.callWith_K (h₀ := X.base) I.ok.mod.kin h2 (wpAny_mono (ha.out pos pins s σ H (fun vs H1 => ∃ α1 m1 ds, Wd X.K cl α1 m1 H1 /\ RepL X.K α1 H1 ds vs /\ ds.length = n /\ PQ X.K cl W (g ds m1) α1 H1 fun d α' _ H' => ∀ v, Rep X.K α' H' d v -> Q v H') I ?_) (fun us s1 ⟨vs, H1, I1, r, α1, m1, ds, w1, rd, hl, q⟩ => ⟨I1.kIn, ?_⟩) fun _ _ z => by rw [hx] at z; exact z.elim) he hpl
 ·refine ex3 hh fun α ρ m W0 hr h => ?_
  cases hf : fr ρ m with
  | bad =>
   have h' : PQ X.K cl W ((aPu fr ρ m).bind g) α H _ := h
   unfold aPu at h'
   rw [hf] at h'
   exact h'.elim
  | exc c m1 =>
   have h' : PQ X.K cl W ((aPu fr ρ m).bind g) α H _ := h
   unfold aPu at h'
   rw [hf] at h'
   exact h'.elim
  | ok ds m1 =>
   have h' : PQ X.K cl W ((aPu fr ρ m).bind g) α H _ := h
   unfold aPu at h'
   rw [hf] at h'
   refine tDA.at W0 hr hf fun α1 H1 v E1 W1 hr1 rv => ⟨α1, m1, ds, W1, rv, by rw [hlen ρ m ds m1 hf, hn], PQ.mono E1 h' fun _ _ _ _ _ _ z => z⟩
 ·exact zmI h4 hr h3 I1 r (by rw [<- rd.length]; exact hl) w1 rd q
end
end MD
set_option autoImplicit false
namespace L2
open PySem PySem.Spec PyProof.Rows MD
theorem Looks.go {α : Type} {M : Model} {A : Around} {s : Shared} {t : Sem α} {r : α} {Q : α -> Shared -> Prop} {E : Value -> Shared -> Prop} (h : PySem.W.Looks M s.heap t r) (q : Q r s) : wpAny M A t Q E s := h A Q E s (fun _ _ z => z) q
theorem zkd : builtinKind "BaseException.__getattribute__" = some .slot := by kernel_rfl
theorem zht : splitId "BaseException.__getattribute__" = some ("BaseException", "__getattribute__") := by kernel_rfl
theorem zke (a b : Value) : argsOk "BaseException.__getattribute__" { pos := [a, b] } := by kernel_rfl
theorem zhu : entryFor table "BaseException.__getattribute__" = some Builtin.«object.__getattribute__» := by kernel_rfl
structure ExA (K : PySem.W.Frag) (C : Addr) : Prop where
 ga : PySem.W.findIn K (.ref C) "__getattribute__" = some (some (.builtin "BaseException.__getattribute__"))
 no : PySem.W.findIn K (.ref C) "__getattr__" = some none
 sub : PySem.W.subIn K (.ref C) (.type "BaseException") = some true
 obj : PySem.W.mroIn K C (.type "object") = some true
 cls : ∀ od, PySem.W.findObj K C od "__class__" = some (.bind (.builtin "getset_descriptor.__get__") (.builtin "object.__class__"))
theorem ga_run {prog : Program} {w : World} {A : Around} {E : Value -> Shared -> Prop} {s : Shared} {K : PySem.W.Frag} {e C : Addr} {oe : Obj} {od : Option Obj} {tk : Tok} {Q : PySem.Fin -> Shared -> Prop} (kin : K.In s.heap) (F : ExA K C) (hi : PySem.W.InstAt s.heap e oe C od) (q : Q (.done (.ret (.ref C))) s) : wpAny (model prog w) A (Builtin.«object.__getattribute__» { pos := [.ref e, .str "__class__" tk] }) Q E s := by
 unfold Builtin.«object.__getattribute__»
 refine wpAny_bind (wpAny_pure ?_)
 refine wpAny_bind (wpAny_pure ?_)
 refine wpAny_bind (wpAny_typeOf_ref hi.at_ ?_)
 rw [hi.cls]
 refine wpAny_bind (Looks.go (PySem.W.looks_find (h := s.heap) kin hi (F.cls od)) ?_)
 show wpAny (model prog w) A (holding [_] (call _ [_, _, _]) >>= _) _ _ _
 exact wpAny_bind (wpAny_holding (wpAny_call (PySem.W.class_get kin hi F.obj (wpAny_pure q))))
theorem znL {prog : Program} {w : World} {A : Around} {R : Result -> Shared -> Prop} {s : Shared} {K : PySem.W.Frag} {e C : Addr} {oe : Obj} {od : Option Obj} {tk : Tok} (kin : K.In s.heap) (F : ExA K C) (hi : PySem.W.InstAt s.heap e oe C od) (q : R (.ok (.ret (.ref C))) s) : codeAny (model prog w) A (Code.call (.builtin "BaseException.__getattribute__") { pos := [.ref e, .str "__class__" tk] }) R s := by
 have ha := zke (.ref e) (.str "__class__" tk)
 refine codeAny_call_builtin PySem.F.attrBase_ValueError.toExcAttrFacts.ga.plain zhu ?_
 refine PySem.W.check_slot (i := "BaseException.__getattribute__") (owner := "BaseException") (n := "__getattribute__") (self := .ref e) (rest := [.str "__class__" tk]) (kw := []) zkd zht ?_ ha ?_
 ·refine fun A Q E s1 hs q => ?_
  unfold isInstance
  refine wpAny_bind (wpAny_typeOf_ref (hs _ _ hi.at_) ?_)
  rw [hi.cls]
  exact PySem.W.looks_subIn kin F.sub A Q E s1 hs q
 ·exact ga_run kin F hi q
theorem zkm {prog : Program} {w : World} {A : Around} {E : Value -> Shared -> Prop} {s : Shared} {K : PySem.W.Frag} {e C : Addr} {oe : Obj} {od : Option Obj} {Q : Option Value -> Shared -> Prop} (kin : K.In s.heap) (F : ExA K C) (hi : PySem.W.InstAt s.heap e oe C od) (q : Q (some (.ref C)) { s with toks := s.toks + 1 }) : wpAny (model prog w) A (getAttr? (.ref e) "__class__") Q E s := by
 have he := hi.at_
 have hc := hi.cls
 unfold getAttr?
 refine wpAny_bind (wpAny_mkText ?_)
 unfold getAttrBy?
 refine wpAny_bind (wpAny_attempt ?_)
 unfold getAttrBy
 refine wpAny_holding ?_
 refine wpAny_bind (wpAny_typeOf_ref (s := { s with toks := s.toks + 1 }) he ?_)
 rw [hc]
 refine wpAny_bind (Looks.go (PySem.W.looks_findIn (h := s.heap) kin F.ga) ?_)
 show wpAny (model prog w) A (getAttrByItsOwn _ _ _ _ _ _) _ _ _
 unfold getAttrByItsOwn
 refine wpAny_bind (Looks.go (PySem.W.looks_hook (h := s.heap) kin (r := none) F.no) ?_)
 refine wpAny_bind (wpAny_attempt (wpAny_holding ?_))
 show wpAny (model prog w) A (boundAndCalled _ _ _) _ _ _
 unfold boundAndCalled
 rw [PySem.F.attrBase_ValueError.toExcAttrFacts.ga.bind]
 refine wpAny_bind (wpAny_pure ?_)
 refine wpAny_call (pos := [.ref e, .str "__class__" s.toks]) (znL (s := { s with toks := s.toks + 1 }) kin F hi ?_)
 show wpAny (model prog w) A (handedOut (.ref C)) _ _ _
 exact wpAny_pure (wpAny_pure q)
abbrev Cx.marked (X : Cx) (e : Addr) : Cx := { X with A := X.A.mark (some (.ref e)), calm := false }
section
variable {X : Cx} {pins : List (Addr × Obj)} {σ : St} {H : Hp} {s : Shared} {C : Value} {dd : Option Addr} {e : Addr}
theorem Inv.mark (I : Inv X pins σ H s) (e : Addr) : Inv (X.marked e) pins σ H s :=
 ⟨⟨I.ok.mod, I.ok.kind, I.ok.glob, I.ok.blt, I.ok.above, I.ok.inj, I.ok.has, I.ok.cab, (fun z => nomatch z), I.ok.frames, I.ok.stk, I.ok.exf, I.ok.bs, I.ok.bsz, I.ok.noex, I.ok.exfs, I.ok.funs, I.ok.frf⟩, I.os, I.bare, I.base, I.loc, I.cell, I.free, I.freeC, I.pin, I.hok, I.len⟩
theorem Inv.unmark (I : Inv (X.marked e) pins σ H s) (h : X.calm = true -> X.A.handled = none) : Inv X pins σ H s :=
 ⟨⟨I.ok.mod, I.ok.kind, I.ok.glob, I.ok.blt, I.ok.above, I.ok.inj, I.ok.has, I.ok.cab, h, I.ok.frames, I.ok.stk, I.ok.exf, I.ok.bs, I.ok.bsz, I.ok.noex, I.ok.exfs, I.ok.funs, I.ok.frf⟩, I.os, I.bare, I.base, I.loc, I.cell, I.free, I.freeC, I.pin, I.hok, I.len⟩
theorem zir {M : Model} {A : Around} {Q : Unit -> Shared -> Prop} {E : Value -> Shared -> Prop} (I : Inv X pins σ H s) (F : Fly C dd e H s.heap) (h : ∀ s', s'.os = s.os -> Inv X pins σ H s' -> Q () s') : wpAny M A (setFlight (.ref e) none) Q E s :=
 zfN I F fun s' a b _ => h s' a b
theorem ziJ {M : Model} {A : Around} {E : Value -> Shared -> Prop} {i : Nat} {x : Str} {v : V} {Q : Unit -> Shared -> Prop} (I : Inv X pins σ H s) (hN : X.N.Nodup) (hi : X.N[i]? = some x) (hk : X.env.scope.names.lookup x = some .local) (hv : σ[i]? = some (some v)) (h : ∀ s', Inv X pins (σ.set i none) H s' -> Q () s') : wpAny M A (unbindName X.env x) Q E s := by
 obtain ⟨m, hn, hl⟩ := id I.loc
 have hcls : (X.env.scope.kind == .class || (X.env.scope.kind == .module && X.env.locals != X.env.globals)) = false := by rw [I.ok.kind]; rfl
 have hiσ : i < σ.length := by rw [I.len]; exact (List.getElem?_eq_some_iff.mp hi).1
 have cne := I.cne
 obtain ⟨u0, _, lk⟩ := hl i x v hi hv (.inl hk)
 have hm : m x = some u0 := by
  rcases lk with ⟨_, z⟩ | ⟨z, _⟩
  ·exact z
  ·have z' : X.env.scope.names.lookup x = some .cell ∨ X.env.scope.names.lookup x = some .free := z
   rw [hk] at z'
   rcases z' with z | z <;> cases z
 refine wpAny_unbindName_local hk hn hm hcls fun h' u hn' hs => ?_
 obtain ⟨oL, _, _, hoL, _⟩ := id hn
 have tracked : HOk X.prog X.w H h' := fun b ob e => by
  refine (I.hok b ob e).stay (fun c w' hc q => (hs.2 c ?_).trans q) (fun _ q => q) fun _ _ q => q
  rintro rfl
  rcases hc with rfl | hc
  ·rw [I.free] at e; cases e
  ·rw [I.free] at hc; cases hc
 refine h _ ⟨I.ok, I.os, I.bare, ⟨fun b o e n hb hx => ?_, fun b o e n hb hx => ?_, I.base.free, fun b o e hx => ?_, I.base.tups, I.base.frzs, I.base.tbls⟩, ⟨_, hn', fun j y v' e1 e2 e3 => ?_⟩, fun y c e => ?_, I.free, I.freeC, fun p hp => ?_, tracked, by simpa using I.len⟩
 ·exact (hs.2 b (Nat.ne_of_lt (Nat.lt_of_lt_of_le (Heap.lt_size e) I.ok.above))).trans (I.base.keep b o e n hb hx)
 ·obtain ⟨sl, e1⟩ := I.base.slot b o e n hb hx
  exact ⟨sl, (hs.2 b (Nat.ne_of_lt (Nat.lt_of_lt_of_le (Heap.lt_size e) I.ok.above))).trans e1⟩
 ·obtain ⟨o', e1⟩ := I.base.there b o e hx
  exact ⟨o', (hs.2 b (Nat.ne_of_lt (Nat.lt_of_lt_of_le (Heap.lt_size e) I.ok.above))).trans e1⟩
 ·by_cases hj : j = i
  ·subst hj
   rw [List.getElem?_set_self hiσ] at e2
   cases e2
  ·rw [List.getElem?_set_ne (Ne.symm hj)] at e2
   obtain ⟨u', r', q⟩ := hl j y v' e1 e2 e3
   refine ⟨u', r', ?_⟩
   rcases q with ⟨k, e⟩ | ⟨k, c, e, z⟩
   ·refine .inl ⟨k, ?_⟩
    have : y ≠ x := fun e => hj (zeR hN e1 (e ▸ hi))
    simp [this, e]
   ·exact .inr ⟨k, c, e, z.sameBut hs (cne y c e)⟩
 ·obtain ⟨w', z⟩ := I.cell y c e
  exact ⟨w', z.sameBut hs (cne y c e)⟩
 ·obtain ⟨e, n, ne, nf, d⟩ := I.pin p hp
  exact ⟨(hs.2 p.1 ne).trans e, n, ne, nf, d⟩
end
theorem zgD {M : Model} {A : Around} {E : Value -> Shared -> Prop} {s : Shared} {K : PySem.W.Frag} {e C D : Addr} {oe : Obj} {b : Bool} {Q : Bool -> Shared -> Prop} (kin : K.In s.heap) (he : s.heap.get? e = some oe) (hc : oe.cls = .ref C) (h1 : PySem.W.subIn K (.ref D) (.type "BaseException") = some true) (h2 : PySem.W.typeIn K (.ref D) = some (.type "type")) (h3 : (PySem.W.clsIn K D).isSome = true) (h4 : PySem.W.subIn K (.ref C) (.ref D) = some b) (q : Q b s) : wpAny M A (excMatches (.ref e) (.ref D)) Q E s := by
 have hD : ∃ o cd, s.heap.get? D = some o /\ o.data = .cls cd := by
  unfold PySem.W.clsIn at h3
  split at h3
  ·rename_i c d cd sl hl
   exact ⟨_, cd, kin _ _ hl, rfl⟩
  ·cases h3
 obtain ⟨oD, cd, hD, hdD⟩ := hD
 unfold excMatches
 refine wpAny_bind ?_
 unfold isInstance
 refine wpAny_bind (Looks.go (PySem.W.looks_typeIn (h := s.heap) kin h2) ?_)
 rw [show isSubtype (.type "type") (.type "tuple") = pure false from rfl]
 refine wpAny_pure (wpAny_bind (wpAny_pure ?_))
 show wpAny M A (forIn [Value.ref D] PUnit.unit _ >>= _) Q E s
 rw [List.forIn_cons]
 refine wpAny_bind (wpAny_bind (wpAny_bind ?_))
 unfold isExcClass isType loadHead
 refine wpAny_bind (wpAny_bind (wpAny_loadPart hD ?_))
 rw [hdD]
 refine wpAny_pure ?_
 refine Looks.go (PySem.W.looks_subIn (h := s.heap) kin h1) ?_
 refine wpAny_pure ?_
 show wpAny M A (forIn ([] : List Value) PUnit.unit _) _ E s
 rw [List.forIn_nil]
 refine wpAny_pure (wpAny_bind (wpAny_typeOf_ref he ?_))
 rw [hc, List.forIn_cons]
 refine wpAny_bind (wpAny_bind (wpAny_bind (Looks.go (PySem.W.looks_subIn (h := s.heap) kin h4) ?_)))
 cases b with
 | true => exact wpAny_pure (wpAny_pure (wpAny_pure q))
 | false =>
  refine wpAny_pure ?_
  show wpAny M A (forIn ([] : List Value) (none, ()) _) _ E s
  rw [List.forIn_nil]
  exact wpAny_pure (wpAny_pure q)
end L2
set_option autoImplicit false
namespace MD
open PySem PySem.Spec PyProof.Rows L2
structure TxE (K : PySem.W.Frag) (cl : Str -> Addr) (es rs : List Str) : Prop where
 ns : ∀ c ∈ es, PySem.W.nsIn K mainGlobals c = some (some (.ref (cl c)))
 tab : zmg K es = true
 rai : zmh K rs = true
 sub : ∀ c ∈ rs, c ∈ es
section
variable {K : PySem.W.Frag} {cl : Str -> Addr} {es rs : List Str} {c d : Str}
theorem TxE.row (T : TxE K cl es rs) (hc : c ∈ es) : askB K (cl c) = true /\ PySem.W.kitOne K (.ref (cl c)) (.type "ValueError") = some true /\ PySem.W.kitOne K (.type "NoneType") (.ref (cl c)) = some false /\ ∀ d ∈ es, PySem.W.kitOne K (.ref (cl c)) (.ref (cl d)) = some (isX c d) /\ PySem.W.subIn K (.ref (cl c)) (.ref (cl d)) = some (isX c d) := by
 have h := List.all_eq_true.mp T.tab c hc
 rw [T.ns c hc] at h
 simp only [Bool.and_eq_true, beq_iff_eq] at h
 obtain ⟨⟨⟨h1, h2⟩, h3⟩, h4⟩ := h
 refine ⟨h1, h2, h3, fun d hd => ?_⟩
 have h := List.all_eq_true.mp h4 d hd
 rw [T.ns d hd] at h
 simpa only [Bool.and_eq_true, beq_iff_eq] using h
theorem zlO {C : Addr} (h : askB K C = true) : ExA K C := by
 unfold askB at h
 simp only [Bool.and_eq_true, beq_iff_eq] at h
 obtain ⟨⟨⟨⟨⟨⟨⟨⟨h1, h2⟩, h3⟩, h4⟩, h5⟩, h6⟩, h7⟩, h8⟩, h9⟩ := h
 refine ⟨h1, h2, h3, h4, fun od => ?_⟩
 obtain ⟨cd, hcd⟩ := Option.isSome_iff_exists.mp h5
 unfold PySem.W.findObj
 rw [hcd, Option.bind_some, h6, Option.bind_some]
 simp only [h7, Option.bind_some, h8]
theorem TxE.exa (T : TxE K cl es rs) (hc : c ∈ es) : ExA K (cl c) := zlO (T.row hc).1
end
def znM (i : Nat) (fl : Fl) : Fl := match fl with
 | .nx ρ => .nx (ρ.set i none)
 | .rt d => .rt d
 | .bk ρ => .bk (ρ.set i none)
 | .ct ρ => .ct (ρ.set i none)
def zlY (es : List Str) (h : Str) (fb : SV) (i : Nat) (fs : SV) : SV := fun ρ m => match fb ρ m with
 | .ok fl m1 => .ok fl m1
 | .bad => .bad
 | .exc c m1 => if (es.contains c.cls && isX c.cls h) = true then (fs (ρ.set i (some (.exn c.cls c.args))) m1).bind fun fl m2 => .ok (znM i fl) m2 else .bad
theorem RepE.drop {K : PySem.W.Frag} {α : List Addr} {H : Hp} {ρ : En} {σ : L2.St} {i : Nat} (h : RepE K α H ρ σ) : RepE K α H (ρ.set i none) (σ.set i none) := by
 refine ⟨by rw [List.length_set, List.length_set, h.len], fun j e hj => ?_⟩
 by_cases hij : i = j
 ·subst hij
  have hl : i < ρ.length := by
   have := (List.getElem?_eq_some_iff.mp hj).1
   rwa [List.length_set] at this
  rw [List.getElem?_set_self hl] at hj
  cases hj
 ·rw [List.getElem?_set_ne hij] at hj ⊢
  exact h.at' j e hj
section
variable {X : Cx} {cl : Str -> Addr} {es rs : List Str} {h n : Str} {i : Nat} {bst b0 : Stmt} {suite : List Stmt} {fb fs : SV} {np hp pos : Pos}
theorem qs_try (hx : X.xe = fun _ _ => False) (hk : X.stack = X.env :: X.outer) (T : TxE X.K cl es rs) (hh : h ∈ es) (hg : Gl X h) (hN : X.N.Nodup) (hi : X.N[i]? = some n) (hl : X.env.scope.names.lookup n = some .local) (hb : YB X cl bst fb) (hs : ∀ e, QSs (X.marked e) cl X0 (b0 :: suite) fs) (hdb : autoParam ((h == ("__debug__" : Str)) = false) AutoP.a1._auto_1) :
  QS X cl X0 (.Try [bst] [.ExceptHandler (some (.Name h np)) (some n) (b0 :: suite) hp] [] [] pos) (zlY es h fb i fs) := ⟨fun pins s σ H D I hh0 => by
 rw [hx]
 obtain ⟨α, ρ, m, W0, hr, hq⟩ := hh0
 refine wpAny_Try_except ?_
 unfold zlY at hq
 have fin : ∀ W : XD, tDS X.K cl W fb D σ H -> (∀ v s', XP X cl pins σ W v s' -> wpAny (model X.prog X.w) X.A (noteFrame v X.env) (fun _ s₂ => wpAny (model X.prog X.w) X.A (setFlight v none) (fun _ s₃ => wpAny (model X.prog X.w) X.A (handleBy v X.env [.ExceptHandler (some (.Name h np)) (some n) (b0 :: suite) hp]) (SP X pins D) (fun _ _ => False) s₃) (fun _ _ => False) s₂) (fun _ _ => False) s') →
   wpAny (model X.prog X.w) X.A (execs [bst] X.env) (fun f s₁ => match f with
    | .next => wpAny (model X.prog X.w) X.A (execs [] X.env) (SP X pins D) (fun _ _ => False) s₁
    | f => SP X pins D f s₁) (fun e s₁ => wpAny (model X.prog X.w) X.A (noteFrame e X.env) (fun _ s₂ => wpAny (model X.prog X.w) X.A (setFlight e none) (fun _ s₃ => wpAny (model X.prog X.w) X.A (handleBy e X.env [.ExceptHandler (some (.Name h np)) (some n) (b0 :: suite) hp]) (SP X pins D) (fun _ _ => False) s₃) (fun _ _ => False) s₂) (fun _ _ => False) s₁) s := fun W hW hxp => by
  refine wpAny_execs_cons (wpAny_mono (hb.out pins s σ H D W I hW) (fun f s1 q => ?_) hxp)
  cases f with
  | next => exact wpAny_execs_nil (wpAny_execs_nil q)
  | ret v => exact q
  | brk => exact q
  | cont => exact q
 cases hf : fb ρ m with
 | bad => rw [hf] at hq; exact hq.elim
 | ok fl m1 =>
  rw [hf] at hq
  refine fin (fun _ _ _ _ => False) ⟨α, ρ, m, W0, hr, by rw [hf]; exact hq⟩ fun v s' ⟨e, H', c, α', m', _, _, _, w, z⟩ => (z α' H' (Ext.refl w) w).elim
 | exc c m1 =>
  rw [hf] at hq
  have hq : PQ X.K cl X0 (if (es.contains c.cls && isX c.cls h) = true then (fs (ρ.set i (some (.exn c.cls c.args))) m1).bind fun fl m2 => .ok (znM i fl) m2 else .bad) α H fun fl α' _ H' => zbB X.K D fl α' H' := hq
  obtain ⟨hX0, hq⟩ := PQ.if hq
  rw [Bool.and_eq_true, List.contains_iff_mem] at hX0
  have hX := hX0.2
  refine fin (fun c' α2 m2 H2 => c' = c /\ m2 = m1 /\ Ext α H α2 H2) ⟨α, ρ, m, W0, hr, by rw [hf]; exact fun α2 H2 E2 _ => ⟨rfl, rfl, E2⟩⟩ fun v s' ⟨e, H', c', α', m', hv, I1, ⟨dd, xs, hns, F, hxd, hrl⟩, w, z⟩ => ?_
  obtain ⟨rfl, rfl, E1⟩ := z α' H' (Ext.refl w) w
  subst hv
  refine zfE I1 hk rfl F fun s2 H2 hos sm I2 F2 => ?_
  have Es := Ext.of_same w sm
  have w2 := w.same sm
  have hce : c'.cls ∈ es := hX0.1
  obtain ⟨oe, vs, ho, hoc, _⟩ := F2.lies
  have Tr := T.row hh
  have ask := Tr.1
  unfold askB at ask
  simp only [Bool.and_eq_true, beq_iff_eq] at ask
  refine wpAny_handleBy_cons ?_ (fun z => nomatch z)
  refine codeAny_handlers_test ?_
  have hm : X.mg h = some (.ref (cl h)) := PySem.W.mg_of I.mod.kin I.mod.glob (T.ns h hh)
  refine zcj (X := X.marked e) (I2.mark e) hg hm ?_ hdb
  refine zgD I2.kIn ho hoc ask.1.1.1.1.1.1.2 ask.2 ask.1.1.1.1.2 ((T.row hce).2.2.2 h hh).2 ?_
  rw [hX]
  refine codeAny_handlers_suite_as ?_
  refine zir (I2.mark e) F2 fun s3 _ I3 => ?_
  refine zbD (X := X.marked e) (v := .ref e) I3 hN hi (.inl hl) rfl (fun s4 I4 => ?_) (.inr hl)
  have E12 : Ext α H α' H2 := E1.trans Es
  have re : Rep X.K α' H2 (.exn c'.cls c'.args) (.ref e) := by
   rw [Rep]
   exact ⟨e, cl c'.cls, dd, xs, rfl, hns, F2.te, (Es.kp w).xdAt hxd, hrl.mono w Es⟩
  have hr2 := (hr.mono W0 E12).set (i := i) re
  have hout := (hs e).out pins s4 (σ.set i (some (.ref e))) H2 { nx := fun σ1 H1 => D.nx (σ1.set i none) H1, rt := D.rt, bk := fun σ1 H1 => D.bk (σ1.set i none) H1, ct := fun σ1 H1 => D.ct (σ1.set i none) H1 } I4 ⟨α', _, _, w2, hr2, PQ.mono E12 hq.bind fun fl α3 m3 H3 E3 W3 q => by
   have q' := PQ.ok W3 q
   cases fl with
   | nx ρ3 => exact fun σ3 r3 => q' _ r3.drop
   | rt d => exact q'
   | bk ρ3 => exact fun σ3 r3 => q' _ r3.drop
   | ct ρ3 => exact fun σ3 r3 => q' _ r3.drop⟩
  refine wpAny_mono hout (fun f s5 q => ?_) fun _ _ z => by rw [show (X.marked e).xe = X.xe from rfl, hx] at z; exact z.elim
  have free : ∀ {σ5 : L2.St} {H5 : Hp} {Q : Unit -> Shared -> Prop}, Inv (X.marked e) pins σ5 H5 s5 -> (∀ s6, Inv X pins (σ5.set i none) H5 s6 -> Q () s6) -> wpAny (model X.prog X.w) X.A (do
    bindName X.env n Value.none
    unbindBehindTheSuite X.env n hp) Q (fun _ _ => False) s5 := fun {σ5 H5 Q} I5 hQ => by
   have I5' : Inv X pins σ5 H5 s5 := I5.unmark I.ok.hd
   refine wpAny_bind (wpAny_bindName (zbD (v := .non) I5' hN hi (.inl hl) rfl (fun s6 I6 => ?_) (.inr hl)))
   unfold unbindBehindTheSuite
   refine wpAny_onRaise (ziJ I6 hN hi hl (v := .non) ?_ fun s7 I7 => hQ s7 (by rw [List.set_set] at I7; exact I7))
   rw [List.getElem?_set_self]
   rw [I5'.len]
   exact (List.getElem?_eq_some_iff.mp hi).1
  cases f with
  | next => obtain ⟨σ5, H5, I5, q5⟩ := q; exact free I5 fun s6 I6 => ⟨_, H5, I6, q5⟩
  | brk => obtain ⟨σ5, H5, I5, q5⟩ := q; exact free I5 fun s6 I6 => ⟨_, H5, I6, q5⟩
  | cont => obtain ⟨σ5, H5, I5, q5⟩ := q; exact free I5 fun s6 I6 => ⟨_, H5, I6, q5⟩
  | ret u => obtain ⟨v5, σ5, H5, I5, r5, q5⟩ := q; exact free I5 fun s6 I6 => ⟨v5, _, H5, I6, r5, q5⟩⟩
end
theorem zlu {K : PySem.W.Frag} {C e : Addr} (F : ExA K C) (hc : (PySem.W.clsIn K C).isSome = true) : PySem.W.KitX K (.ref e) (.ref C) fun h => ∃ oe od, PySem.W.InstAt h e oe C od := by
 have hD : ∀ h : Heap, K.In h -> ∃ o cd, h.get? C = some o /\ o.data = .cls cd := fun h kin => by
  unfold PySem.W.clsIn at hc
  split at hc
  ·rename_i c d cd sl hl
   exact ⟨_, cd, kin _ _ hl, rfl⟩
  ·cases hc
 refine ⟨fun M h kin ⟨oe, od, hi⟩ A Q E s hs q => wpAny_typeOf_ref (hs _ _ hi.at_) (by rw [hi.cls]; exact q), fun M h kin _ A Q E s hs q => ?_, fun h tp dd its n sl kin ht => ?_, fun {prog w A E Q s} kin ⟨oe, od, hi⟩ q => zkm kin F hi q⟩
 ·obtain ⟨o, cd, hC, hd⟩ := hD h kin
  unfold isType loadHead
  refine wpAny_bind (wpAny_loadPart (hs _ _ hC) (wpAny_pure ?_))
  rw [hd]
  exact q
 ·obtain ⟨o, cd, hC, hd⟩ := hD h kin
  rw [beq_eq_false_iff_ne]
  intro z
  cases z
  rw [ht] at hC
  cases hC
  cases hd
section
variable {X : Cx} {cl : Str -> Addr} {ex : XD} {es rs : List Str} {pins : List (Addr × Obj)} {σ : L2.St} {H : Hp} {s : Shared} {α : List Addr}
theorem exc_at (T : TxE X.K cl es rs) (I : Inv X pins σ H s) {c : Str} {ds : List D} {v : V} {u : Value} (hc : c ∈ es) (rv : Rep X.K α H (.exn c ds) v) (ru : RelV v u) : ∃ e, u = .ref e /\ ∃ oe od, PySem.W.InstAt s.heap e oe (cl c) od := by
 rw [Rep] at rv
 obtain ⟨a, C, dd, xs, rfl, hns, hH, hxd, _⟩ := rv
 rw [T.ns c hc] at hns
 cases hns
 cases ru
 obtain ⟨⟨o, vs, ho, h1, h2, h3⟩, _⟩ := I.hok a _ hH
 rcases hxd with ⟨rfl, _⟩ | ⟨dx, x, rfl, _, hx⟩
 ·exact ⟨a, rfl, o, none, ho, h1, by unfold PySem.W.notCls; rw [h3], by rw [h2]; trivial⟩
 ·obtain ⟨od, hod⟩ := (I.hok dx _ hx).has
  exact ⟨a, rfl, o, some od, ho, h1, by unfold PySem.W.notCls; rw [h3], by rw [h2]; exact hod⟩
theorem zj9 (T : TxE X.K cl es rs) (I : Inv X pins σ H s) {c : Str} {ds : List D} {v : V} {u c2 : Value} {b : Bool} {Q : VK} (hc : c ∈ es) (rv : Rep X.K α H (.exn c ds) v) (ru : RelV v u) (kt : PySem.W.kitOne X.K (.ref (cl c)) c2 = some b) (q : Q (.bl b) H) : wpAny (model X.prog X.w) X.A (call (.builtin "isinstance") [u, c2]) (EP X pins σ Q) X.xe s := by
 obtain ⟨e, rfl, oe, od, hi⟩ := exc_at T I hc rv ru
 have ask := (T.row hc).1
 unfold askB at ask
 simp only [Bool.and_eq_true, beq_iff_eq] at ask
 exact PySem.W.kia_one (zlu (T.exa hc) ask.1.1.1.1.2) I.kIn ⟨oe, od, hi⟩ kt (fun z => nomatch z) fun tk => ⟨.bl _, H, I.tok _, rfl, q⟩
def zf8 (es : List Str) (n : Str) (d : D) (m : Sto) : Res D := match d with
 | .exn c _ => if es.contains c = true then .ok (.bl (isX c n)) m else .bad
 | .non => .ok (.bl false) m
 | _ => .bad
def znC (es : List Str) (d : D) (m : Sto) : Res D := match d with
 | .exn c _ => if es.contains c = true then .ok (.bl true) m else .bad
 | .non => .ok (.bl false) m
 | _ => .bad
variable {e : Expr} {as : List Expr} {fa : EV} {p p2 pos tp : Pos} {x : Str} {kt : Nat} {vs : List V} {ns : List Str}
theorem zkz (T : TxE X.K cl es rs) (hn : x ∈ es) : CallR X (.builtin "isinstance") (fun xs H Q => ∃ α m d v, xs = [v, .ref (cl x)] /\ Wd X.K cl α m H /\ Rep X.K α H d v /\ ∃ b, zf8 es x d m = .ok (.bl b) m /\ Q (.bl b) H) := by
 intro pins s σ H xs us Q I r h
 obtain ⟨α, m, d, v, rfl, W, rv, b, hb, q⟩ := h
 obtain ⟨u, w, rfl, ru, rw'⟩ := zdR r
 cases rw'
 unfold zf8 at hb
 split at hb
 ·split at hb
  ·rename_i hc
   cases hb
   exact zj9 T I (List.contains_iff_mem.mp hc) rv ru ((T.row (List.contains_iff_mem.mp hc)).2.2.2 x hn).1 q
  ·cases hb
 ·cases hb
  rw [Rep] at rv
  subst rv
  exact zdC I ru .non (T.row hn).2.2.1 fun tk => ⟨.bl _, H, I.tok _, rfl, q⟩
 ·cases hb
theorem zkA (T : TxE X.K cl es rs) : CallR X (.builtin "isinstance") (fun xs H Q => ∃ α m d v, xs = [v, .ty "ValueError"] /\ Wd X.K cl α m H /\ Rep X.K α H d v /\ ∃ b, znC es d m = .ok (.bl b) m /\ Q (.bl b) H) := by
 intro pins s σ H xs us Q I r h
 obtain ⟨α, m, d, v, rfl, W, rv, b, hb, q⟩ := h
 obtain ⟨u, w, rfl, ru, rw'⟩ := zdR r
 cases rw'
 unfold znC at hb
 split at hb
 ·split at hb
  ·rename_i hc
   cases hb
   exact zj9 T I (List.contains_iff_mem.mp hc) rv ru (T.row (List.contains_iff_mem.mp hc)).2.1 q
  ·cases hb
 ·cases hb
  rw [Rep] at rv
  subst rv
  exact zdC I ru .non rfl fun tk => ⟨.bl _, H, I.tok _, rfl, q⟩
 ·cases hb
theorem pe_cls (T : TxE X.K cl es rs) (hn : x ∈ es) (hg : Gl X x) (hd : autoParam ((x == ("__debug__" : Str)) = false) AutoP.a1._auto_1) : PE X (.Name x p) (tC (.ref (cl x))) :=
 fun _ _ _ H _ I h => zcj I hg (PySem.W.mg_of I.mod.kin I.mod.glob (T.ns x hn)) ⟨.ref (cl x), H, I, rfl, h⟩ hd
theorem zbt (T : TxE X.K cl es rs) (hn : x ∈ es) (hg : Gl X "isinstance") (hm : X.mg "isinstance" = none) (hg2 : Gl X x) (ha : QE X cl ex e fa) (hdb : autoParam ((x == ("__debug__" : Str)) = false) AutoP.a1._auto_1)
  (he : autoParam (starEach [e, .Name x p2] X.env = (false, eval e X.env) :: starEach [.Name x p2] X.env) AutoP.a3._auto_1) (he2 : autoParam (starEach [.Name x p2] X.env = (false, eval (.Name x p2) X.env) :: starEach [] X.env) AutoP.a3._auto_1) (hpl : autoParam ((backTo pos (starEach [.Name x p2] X.env)).any (·.1) = false) AutoP.a3._auto_1) :
  QE X cl ex (.Call (.Name "isinstance" p) [e, .Name x p2] [] pos) (eUn (zf8 es x) fa) :=
 ⟨PE.weak (zcu (zkz T hn) hg hm boot_isinstance (zaH ha.out (zaH (pe_cls T hn hg2 hdb) zbU he2) he) (by decide) (by decide) he hpl) fun σ H Q hh => ex3 hh fun α ρ m W hr h => tD.use W hr h fun α1 m1 H1 d v E1 W1 hr1 rv q1 => by
  refine ⟨α1, m1, d, v, rfl, W1, rv, ?_⟩
  unfold zf8 at q1 ⊢
  split at q1
  ·obtain ⟨hc, q1⟩ := PQ.if q1
   exact ⟨_, by rw [if_pos hc], PQ.ok W1 q1 _ zd4⟩
  ·exact ⟨_, rfl, PQ.ok W1 q1 _ zd4⟩
  ·exact q1.elim⟩
theorem zmQ (T : TxE X.K cl es rs) (hg : Gl X "isinstance") (hm : X.mg "isinstance" = none) (hg2 : Gl X "ValueError") (hm2 : X.mg "ValueError" = none) (ha : QE X cl ex e fa)
  (he : autoParam (starEach [e, .Name "ValueError" p2] X.env = (false, eval e X.env) :: starEach [.Name "ValueError" p2] X.env) AutoP.a3._auto_1) (he2 : autoParam (starEach [.Name "ValueError" p2] X.env = (false, eval (.Name "ValueError" p2) X.env) :: starEach [] X.env) AutoP.a3._auto_1) (hpl : autoParam ((backTo pos (starEach [.Name "ValueError" p2] X.env)).any (·.1) = false) AutoP.a3._auto_1) :
  QE X cl ex (.Call (.Name "isinstance" p) [e, .Name "ValueError" p2] [] pos) (eUn (znC es) fa) :=
 ⟨PE.weak (zcu (zkA T) hg hm boot_isinstance (zaH ha.out (zaH (zeI (v := .ty "ValueError") hg2 hm2 (by rfl) rfl) zbU he2) he) (by decide) (by decide) he hpl) fun σ H Q hh => ex3 hh fun α ρ m W hr h => tD.use W hr h fun α1 m1 H1 d v E1 W1 hr1 rv q1 => by
  refine ⟨α1, m1, d, v, rfl, W1, rv, ?_⟩
  unfold znC at q1 ⊢
  split at q1
  ·obtain ⟨hc, q1⟩ := PQ.if q1
   exact ⟨_, by rw [if_pos hc], PQ.ok W1 q1 _ zd4⟩
  ·exact ⟨_, rfl, PQ.ok W1 q1 _ zd4⟩
  ·exact q1.elim⟩
end
theorem zhS {P : Str -> Prop} : ∀ c ∈ ([] : List Str), P c := fun _ h => nomatch h
theorem zaP {P : Str -> Prop} {x : Str} {xs : List Str} (h : P x) (r : ∀ c ∈ xs, P c) : ∀ c ∈ x :: xs, P c := fun c hc => by
 rcases List.mem_cons.mp hc with rfl | hc
 ·exact h
 ·exact r c hc
def puF (g : List D -> Sto -> Res D) : List D -> Sto -> Res D := fun ds m => (g ds m).pu
theorem FnE.pure {P : Program} {w : World} {K : PySem.W.Frag} {mg : Str -> Option Value} {base : Heap} {cl : Str -> Addr} {x : Str} {k n : Nat} {g : List D -> Sto -> Res D} (h : FnE P w K mg base cl x k n g) : FnX P w K mg base cl x k n (puF g) := by
 obtain ⟨f, fd, ps, h1, h2, h3, h4⟩ := h.ex
 refine ⟨f, fd, ps, h1, h2, h3, ?_⟩
 have imp : ∀ vs H Q E, spD K cl X0 n (puF g) vs H Q E -> spX K cl n g vs H Q E0 := fun vs H Q E ⟨hl, α, m, ds, W, r, q⟩ => ⟨hl, α, m, ds, W, r, by
  unfold puF at q
  cases hg : g ds m with
  | ok d m1 => rw [hg] at q; exact q
  | bad => rw [hg] at q; exact q
  | exc c m1 => rw [hg] at q; exact q.elim⟩
 refine ⟨fun vs H Q E q => h4.len vs H Q E0 (imp vs H Q E q), fun A outer s H args us vs Q E hr he hb hv hs => codeAny_mono (h4.run A outer s H args us vs Q E0 hr he hb hv (imp _ _ _ _ hs)) fun r s' hq => ?_⟩
 cases r with
 | error v =>
  obtain ⟨e, C, dd, H', _, _, _, _, _, _, z⟩ := hq
  exact z.elim
 | ok fl => cases fl <;> exact hq
section
variable {X : Cx} {K : PySem.W.Frag} {cl : Str -> Addr} {ex : XD}
def zl0 : V -> List V -> Hp -> VK -> Prop := fun x vs H Q => ∃ z y, x = .str z /\ vs = [.str y] /\ z.length <= sizeLine /\ Q (.str (Txt.stripChars z y)) H
theorem zlo : MtR X "str.strip" zl0 := by
 intro pins s σ H x vs v us Q I rx rv h
 obtain ⟨z, y, rfl, rfl, hz, q⟩ := h
 obtain ⟨t, rfl⟩ := rx
 obtain ⟨u, rfl, w, rfl⟩ := zbC rv
 refine call_gives F.slot_str_strip (typeIs_str _ _ _) F.entry_str_strip (F.args_str_strip_2 _ _) (gives_str_strip_chars z y t w) ?_
 have e : Txt.stripChars z y = if stripSame y.cps.contains true true z = true then z else stripped y.cps.contains true true z := rfl
 by_cases hs : stripSame y.cps.contains true true z = true
 ·rw [if_pos hs]
  rw [e, if_pos hs] at q
  exact ⟨.str _, H, I, ⟨_, rfl⟩, q⟩
 ·rw [if_neg hs]
  rw [e, if_neg hs] at q
  exact ⟨fits_stripped _ _ _ hz, ⟨.str _, H, I.tok _, ⟨_, rfl⟩, q⟩⟩
def zhb (o : D) (ds : List D) (m : Sto) : Res D := match o, ds with
 | .str z, [.str y] => if z.length <= sizeLine then .ok (.str (Txt.stripChars z y)) m else .bad
 | _, _ => .bad
theorem zlq : MtD K cl ex zl0 zhb := fun α m H x xs vx vs Q W rx rxs h => by
 unfold zhb at h
 split at h
 ·rw [Rep] at rx
  obtain ⟨v, rfl, rv⟩ := rxs.one_of
  rw [Rep] at rv
  subst rv
  obtain ⟨hz, h⟩ := PQ.if h
  exact ⟨_, _, rx, rfl, hz, PQ.ok W h _ zjd⟩
 ·exact h.elim
end
section
variable {X : Cx} {K : PySem.W.Frag} {cl : Str -> Addr} {ex : XD}
def zje (K : PySem.W.Frag) : V -> List V -> Hp -> VK -> Prop := fun x vs H Q => ∃ (a : Addr) (xs : List V) (y : V), x = .ref a /\ vs = [y] /\ SqL K H a xs /\ xs.all zcC = true /\ zcC y = true /\ Q (.int ((xs.countP fun z => eqV z y : Nat) : Int)) H
theorem zjM : MtR X "list.count" (zje X.K) := by
 intro pins s σ H x vs v us Q I rx rv h
 obtain ⟨a, xs, y, rfl, rfl, ha, hf, hy, q⟩ := h
 cases rx
 obtain ⟨u, rfl, ru⟩ := zbC rv
 obtain ⟨its, r, p, _⟩ := I.list ha
 obtain ⟨⟨cls, dd, data, sl⟩, n, ho, hc, hd1, hd⟩ := id p
 simp only at hc hd hd1
 subst hc hd hd1
 refine call_meets PySem.F.slot_list_count ⟨_, ho, rfl⟩ PySem.F.entry_list_count (PySem.F.args_list_count_2 _ _) (SeqAt.list_countAt a its.toArray n none sl u (eqU y)) ⟨ho, fun z hz => zeT ru hy r hf z (by simpa using hz), ?_⟩
 have e : its.toArray.toList.countP (eqU y) = xs.countP fun z => eqV z y := zeh r hf
 rw [e]
 exact ⟨.int _, H, I.tok _, ⟨_, rfl⟩, q⟩
def rLidx (K : PySem.W.Frag) : V -> List V -> Hp -> VK -> Prop := fun x vs H Q => ∃ (a : Addr) (xs : List V) (y : V) (j : Nat), x = .ref a /\ vs = [y] /\ SqL K H a xs /\ xs.all zcC = true /\ zcC y = true /\ xs.findIdx? (fun z => eqV z y) = some j /\ Q (.int (j : Int)) H
theorem zgK : ∀ {xs : List V} {us : List Value} {i : Nat} (h : i < us.length), Vals xs us -> ∃ z, xs[i]? = some z /\ RelV z us[i]
 | [], _, i, h, r => by cases r; cases h
 | z :: zs, _, i, h, r => by
  cases r with
  | cons r1 r2 =>
   cases i with
   | zero => exact ⟨z, rfl, r1⟩
   | succ i => exact zgK (xs := zs) (by simpa using h) r2
theorem znv : MtR X "list.index" (rLidx X.K) := by
 intro pins s σ H x vs v us Q I rx rv h
 obtain ⟨a, xs, y, j, rfl, rfl, ha, hf, hy, hj, q⟩ := h
 cases rx
 obtain ⟨u, rfl, ru⟩ := zbC rv
 obtain ⟨its, r, p, hl⟩ := I.list ha
 have hlen : xs.length = its.length := r.length
 obtain ⟨⟨cls, dd, data, sl⟩, n, ho, hc, hd1, hd⟩ := id p
 simp only at hc hd hd1
 subst hc hd hd1
 obtain ⟨hi, hh, hb⟩ := List.findIdx?_eq_some_iff_getElem.mp hj
 have fl : ∀ z ∈ xs, zcC z = true := fun z hz => List.all_eq_true.mp hf z hz
 refine call_meets PySem.F.slot_list_index ⟨_, ho, rfl⟩ PySem.F.entry_list_index (PySem.F.args_list_index_2 _ _) (SeqAt.list_indexAt a its.toArray n none sl u (eqU y) j (by simp; omega) ?_ ?_ ?_) ⟨ho, ?_, ?_⟩
 ·have : sizeLine < 2 ^ 62 := by decide
  omega
 ·obtain ⟨z, hz, rz⟩ := zgK (i := j) (by omega) r
  simp only [List.getElem_toArray]
  rw [List.getElem?_eq_getElem hi] at hz
  cases hz
  rw [zgM rz (fl _ (List.getElem_mem hi))]
  exact hh
 ·intro k hk hkj
  obtain ⟨z, hz, rz⟩ := zgK (i := k) (by simpa using hk) r
  simp only [List.getElem_toArray]
  have hk2 : k < xs.length := by omega
  rw [List.getElem?_eq_getElem hk2] at hz
  cases hz
  rw [zgM rz (fl _ (List.getElem_mem hk2))]
  simpa using hb k hkj
 ·exact fun z hz => zeT ru hy r hf z (by simpa using hz)
 ·exact ⟨.int _, H, I.tok _, ⟨_, rfl⟩, q⟩
def zdB (o : D) (ds : List D) (m : Sto) : Res D := match o, ds with
 | .lst xs, [y] => if (xs.all zdY && zdY y) = true then .ok (.int (((xs.map vOf).countP fun z => eqV z (vOf y) : Nat) : Int)) m else .bad
 | _, _ => .bad
def zjU (o : D) (ds : List D) (m : Sto) : Res D := match o, ds with
 | .lst xs, [y] => if (xs.all zdY && zdY y) = true then (match (xs.map vOf).findIdx? (fun z => eqV z (vOf y)) with
  | some j => .ok (.int (j : Nat)) m
  | none => .bad) else .bad
 | _, _ => .bad
theorem zhA {xs : List D} (h : xs.all zdY = true) : (xs.map vOf).all zcC = true := by
 rw [List.all_map, List.all_eq_true]
 exact fun d hd => zes (List.all_eq_true.mp h d hd)
theorem zjQ : MtD K cl ex (zje K) zdB := fun α m H x xs vx vs Q W rx rxs h => by
 unfold zdB at h
 split at h
 ·obtain ⟨hc, h⟩ := PQ.if h
  rw [Bool.and_eq_true] at hc
  rw [Rep] at rx
  obtain ⟨a, ys, rfl, _, h1, r1⟩ := rx
  obtain ⟨v, rfl, rv⟩ := rxs.one_of
  have e1 := zer hc.1 r1
  have e2 := zgc hc.2 rv
  subst e1 e2
  exact ⟨a, _, _, rfl, rfl, .inl h1, zhA hc.1, zes hc.2, PQ.ok W h _ zdP⟩
 ·exact h.elim
theorem znw : MtD K cl ex (rLidx K) zjU := fun α m H x xs vx vs Q W rx rxs h => by
 unfold zjU at h
 split at h
 ·obtain ⟨hc, h⟩ := PQ.if h
  rw [Bool.and_eq_true] at hc
  rw [Rep] at rx
  obtain ⟨a, ys, rfl, _, h1, r1⟩ := rx
  obtain ⟨v, rfl, rv⟩ := rxs.one_of
  have e1 := zer hc.1 r1
  have e2 := zgc hc.2 rv
  subst e1 e2
  split at h
  ·rename_i j hj
   exact ⟨a, _, _, j, rfl, rfl, .inl h1, zhA hc.1, zes hc.2, hj, PQ.ok W h _ zdP⟩
  ·exact h.elim
 ·exact h.elim
end
end MD
set_option autoImplicit false
namespace L2
open PySem PySem.Spec PyProof.Rows
end L2
set_option autoImplicit false
namespace MD
open PySem PySem.Spec PyProof.Rows L2
end MD
set_option autoImplicit false
namespace L2
open PySem PySem.Spec PyProof.Rows
end L2
namespace PySem
open Sem (wp)
end PySem
set_option autoImplicit false
namespace L2
open PySem PySem.Spec PyProof.Rows
end L2
namespace MD
open PySem PySem.Spec PyProof.Rows L2
section
variable {K : PySem.W.Frag} {cl : Str -> Addr} {ex : XD} {gt : GV} {ta : TV} {fk fv : EV} {fr : AV}
end
end MD
set_option autoImplicit false
namespace L2
open PySem PySem.Spec PyProof.Rows
end L2
namespace MD
open PySem PySem.Spec PyProof.Rows L2
end MD
set_option autoImplicit false
namespace MD
open PySem PySem.Spec PyProof.Rows L2
open PySem.SeqAt
section
variable {prog : Program} {w : World} {A : Around} {E : Value -> Shared -> Prop} {s : Shared} {Q : Value -> Shared -> Prop}
open AutoSeq1 (wpAny_loadPart')
end
end MD
namespace L2
open PySem PySem.Spec PyProof.Rows MD
end L2
set_option autoImplicit false
namespace MD
open PySem PySem.Spec PyProof.Rows L2
open PySem.Builtin PySem.Builtin.Str in
def zb5 (x y z : Str) : Str := if ((occurrences x y 0 x.length 1).isEmpty || (y.length == 0 && z.length == 0)) = true then x else glued z (partsBetween x (occurrences x y 0 x.length 1) y.length)
open PySem.Builtin PySem.Builtin.Str in
theorem zgJ (x y z : Str) (t u v c : Tok) (h0 : (u == 0 || v == 0) = false) (huv : (u == v) = false) (hyz : (y == z) = false) (hl : tooLong (x.length + (occurrences x y 0 x.length 1).length * z.length) = false) :
  Gives («str.replace» ⟨[.str x t, .str y u, .str z v, .int 1 c], []⟩) (if ((occurrences x y 0 x.length 1).isEmpty || (y.length == 0 && z.length == 0)) = true then .val (.str x t) else .str (glued z (partsBetween x (occurrences x y 0 x.length 1) y.length))) := by
 show Gives (do
  let i <- asSsize "str.replace" (.int 1 c)
  let limit <- (pure (if i < 0 then x.length + 1 else i.toNat) : Sem Nat)
  if ((occurrences x y 0 x.length limit).isEmpty || (y.length == 0 && z.length == 0)) = true then (do rule "str.replace.nothing"; ret (.str x t)) else
     (do let same <- isSame (.str y u) (.str z v); if same = true then (do rule "str.replace.old-is-new"; ret (.str x t)) else
       if tooLong (x.length + (occurrences x y 0 x.length limit).length * z.length) = true then unsupported "str.replace:memory" else
       retStr (glued z (partsBetween x (occurrences x y 0 x.length limit) y.length)))) _
 rw [asSsize_int _ _ _ (by decide)]
 show Gives (if ((occurrences x y 0 x.length 1).isEmpty || (y.length == 0 && z.length == 0)) = true then (do rule "str.replace.nothing"; ret (.str x t)) else
     (do let same <- isSame (.str y u) (.str z v); if same = true then (do rule "str.replace.old-is-new"; ret (.str x t)) else
       if tooLong (x.length + (occurrences x y 0 x.length 1).length * z.length) = true then unsupported "str.replace:memory" else
       retStr (glued z (partsBetween x (occurrences x y 0 x.length 1) y.length)))) _
 cases hc : ((occurrences x y 0 x.length 1).isEmpty || (y.length == 0 && z.length == 0))
 ·rw [isSame_str_other y z u v h0 huv hyz, hl]
  exact .of_eq rfl
 ·exact .rule (.of_eq rfl)
theorem ziy (a b c d : Value) : argsOk "str.replace" ⟨[a, b, c, d], []⟩ := by unfold argsOk; kernel_rfl
def zi9 (x y z : Str) (m : Sto) : Res D := if (y == z) = false /\ Builtin.Str.tooLong (x.length + (Builtin.Str.occurrences x y 0 x.length 1).length * z.length) = false /\ (zb5 x y z).length <= sizeLine then .ok (.str (zb5 x y z)) m else .bad
structure FnI (P : Program) (w : World) (K : PySem.W.Frag) (mg : Str -> Option Value) (base : Heap) (cl : Str -> Addr) (x : Str) (k : Nat) (g : List D -> Sto -> Res D) : Prop where
 ex : ∃ (f : Addr) (fd : FuncData) (ps : List Str), mg x = some (.ref f) /\ PySem.W.keepIn K (.ref f) = true /\ Binds K fd ps [] /\ ps.length = 2 ∧
  ∀ (A : Around) (outer : List PySem.Env) (s : Shared) (H : Hp) (args : Args) (dp : D) (ds : List D) (vp : V) (pv : Value) (a : Addr) (its : List Value) (xs : List V) (α : List Addr) (m : Sto) (Q : VK),
   Room k A -> Env0 P w K mg base A outer s H -> BindsTo s fd args (ps.zip [pv, .ref a]) -> RelV vp pv -> Wd K cl α m H -> Rep K α H dp vp -> a ∉ α -> H a = some (.frz { cls := .type "list", data := .seq its.toArray 0 } (.lst xs)) -> Vals xs its -> RepL K α H ds xs →
   PQ K cl X0 (g [dp, .lst ds] m) α H (fun d α' _ H' => ∀ v, Rep K α' H' d v -> Q v H') →
   codeAny (model P w) A (.call (.ref f) args) (fun r s' => ∃ u, r = .ok (.ret u) /\ u ∈ its /\ CE outer P w H s Q u s') s
theorem zly {X : Cx} {pins : List (Addr × Obj)} {σ : L2.St} {H : Hp} {s : Shared} {value slice : Expr} {a : Addr} {its : List Value} {xs : List V} {i : Int} {t : Tok} {z : V} {R : Value -> Shared -> Prop} (I : Inv X pins σ H s) (hq : H a = some (.frz { cls := .type "list", data := .seq its.toArray 0 } (.lst xs))) (r : Vals xs its) (he : atI xs i = some z) (hs : subscripted slice false (.ref a) (.int i t) = operate [.ref a, .int i t] (getItem (.ref a) (.int i t)))
  (fin : ∀ w, w ∈ its -> RelV z w -> R w s) : wpAny (model X.prog X.w) X.A (subscriptTail value slice (.ref a) (.int i t)) R X.xe s := by
 obtain ⟨ho, hz, _⟩ := I.hok a _ hq
 have pl : PlainL s.heap a its.toArray := ⟨_, 0, ho, rfl, rfl, rfl⟩
 obtain ⟨j, h1, h2, h3, h4, h5⟩ := ze1 he
 obtain ⟨w, ew, rw'⟩ := r.get h2
 have hl := r.length
 have hn := zdA
 have fin : R w s := fin w (List.mem_of_getElem? ew) rw'
 by_cases h0 : 0 <= i
 ·have hj : i.toNat = j := by
   rw [seqIndex_of h0 h5] at h1
   exact Option.some.inj h1
  exact item_listR pl.isList h0 (by omega) (by rw [hj]; simpa using ew) fin hs
 ·have hj : (i + (its.toArray.size : Int)).toNat = j := by
   rw [seqIndex_neg (by omega) h4] at h1
   rw [List.size_toArray, <- hl]
   exact Option.some.inj h1
  exact subscriptTail_builtinR (x := w) pl.isList.typeIs slot_list_getitem.lookup
   (wpAny_getItem_list_neg (Q := fun r s' => r = w /\ R r s') pl.isList (by omega) (by rw [List.size_toArray] <;> omega) (by omega) (by rw [hj]; simpa using ew) ⟨rfl, fin⟩) hs
theorem FnI.mk' {P : Program} {w : World} {K : PySem.W.Frag} {mg : Str -> Option Value} {base : Heap} {cl : Str -> Addr} {x qual nm : Str} {st : Stmt} {f : Addr} {fd : FuncData} {N ps : List Str} {k : Nat} {fi : EV} {p1 p2 p3 : Pos} {ei : Expr} (F : Fun K x qual st f fd) (b : Binds K fd ps []) (m : mg x = some (.ref f)) (S : FnScope N ps (zah st)) (h2 : ps.length = 2) (hN2 : N.length = 2)
  (hb : za0 st = [.Return (some (.Subscript (.Name nm p1) ei p2)) p3]) (hn : N[1]? = some nm) (hv : Vis (zah st) nm) (hs : ze2 ei) (hd : (nm == ("__debug__" : Str)) = false) (hcd' : (nm == ("__classdict__" : Str)) = false)
  (hi : ∀ (cdv : Value) (A : Around) (outer : List PySem.Env) (s : Shared) (H : Hp) (E : XK), Room k (A.deeper (envOfC qual (zah st) s.heap.objs.size f cdv)) -> QE (zfQ CX0 P w K mg base N qual (zah st) f cdv A outer s H E).nox cl X0 ei fi) :
  FnI P w K mg base cl x (k + 1) (zbR N.length (zaV (eOp ixD (zae 1) fi))) := by
 obtain ⟨oc, od, kV, doc, pm, an, cdv, ct, osl, rfl, lk, hcd⟩ := F.ex
 refine ⟨f, _, ps, m, F.kp, b, h2, fun A outer s H args dp ds vp pv a its xs α m0 Q hr e0 hbd rp W hdp na hfz rxs rl hq => ?_⟩
 have r : Vals [vp, V.ref a] [pv, .ref a] := .cons rp (.cons rfl .nil)
 have hl : [vp, V.ref a].length = ps.length := by rw [h2]; rfl
 have KX : K.In s.heap := e0.mod.kin.keeps fun b o e => (e0.bs b o e).1
 have lim : s.heap.NoLimit := e0.mod.nolimit.keeps fun b o e => (e0.bs b o e).1
 have hkind : ∀ y ∈ ps.zip [pv, Value.ref a], (zah st).names.lookup y.1 = some .local ∨ ((zah st).names.lookup y.1 = some .cell /\ ((cellsFrom (s.heap.objs.size + 1) (zah st).names []).lookup y.1).isSome = true) := fun ⟨n, v⟩ hy => by
  rcases S.par n (List.of_mem_zip hy).1 with q | q
  ·exact .inl q
  ·exact .inr ⟨q, PySem.W.cellsFrom_some _ _ _ (.inl q)⟩
 refine codeAny_call_function hr.depth (KX _ _ lk) rfl S.co S.gen rfl (PySem.W.codeRec_of KX hcd) (hbd _ _ _ _ ?_)
 refine wpAny_newFunctionEnv_cells S.kind hkind fun env he s1 x => ?_
 subst he
 refine ⟨lim.keeps x.toInCall.keep, codeAny_func ?_⟩
 rw [hb]
 have I : Inv (zfQ CX0 P w K mg base N qual (zah st) f cdv A outer s H fun _ _ _ => False).nox [] (start N [vp, V.ref a]) H s1 := (zfH S hr.hd e0 hl r x).wish _
 refine wpAny_execs_cons (wpAny_Return_some (Subscript_ ?_))
 have hrho : RepE K α H (([dp, .lst ds] : List D).map some ++ List.replicate (N.length - 2) none) (start N [vp, V.ref a]) := zcI (ds := [dp, .lst ds]) (by
  rw [RepL]; refine ⟨_, _, rfl, hdp, ?_⟩; rw [RepL]; refine ⟨_, _, rfl, ?_, by rw [RepL]⟩; rw [Rep]; exact ⟨a, xs, rfl, na, .inr ⟨_, hfz⟩, rl⟩)
 have hσ : (L2.start N [vp, V.ref a])[1]? = some (some (V.ref a)) := by unfold L2.start; rfl
 refine wpAny_mono (zfo (X := (zfQ CX0 P w K mg base N qual (zah st) f cdv A outer s H fun _ _ _ => False).nox) (pos := p1) hn hv hd hcd' [] s1 _ H (fun v H1 => v = .ref a /\ H1 = H) I ⟨_, hσ, rfl, rfl⟩) (fun u s2 hh => ?_) fun _ _ z => z.elim
 obtain ⟨_, H1, I1, ru, rfl, rfl⟩ := hh
 obtain rfl : u = Value.ref a := ru
 have hq2 : PQ K cl X0 ((eOp ixD (zae 1) fi (([dp, .lst ds] : List D).map some ++ List.replicate (N.length - 2) none) m0).bind fun d m1 => (zgL (.rt d) m1)) α H1 fun d α' _ H' => ∀ v, Rep K α' H' d v -> Q v H' := by
  have : zbR N.length (zaV (eOp ixD (zae 1) fi)) [dp, .lst ds] m0 = (eOp ixD (zae 1) fi (([dp, .lst ds] : List D).map some ++ List.replicate (N.length - 2) none) m0).bind fun d m1 => (zgL (.rt d) m1) := by
   show ((eOp ixD (zae 1) fi _ m0).bind fun d m1 => Res.ok (Fl.rt d) m1).bind zgL = _
   cases eOp ixD (zae 1) fi (([dp, .lst ds] : List D).map some ++ List.replicate (N.length - 2) none) m0 <;> rfl
  rw [<- this]; exact hq
 have hq3 : PQ K cl X0 ((fi (([dp, .lst ds] : List D).map some ++ List.replicate (N.length - 2) none) m0).bind fun y m2 => (ixD (.lst ds) y m2).bind fun d m1 => Res.ok d m1) α H1 fun d α' _ H' => ∀ v, Rep K α' H' d v -> Q v H' := by
  have : ((eOp ixD (zae 1) fi (([dp, .lst ds] : List D).map some ++ List.replicate (N.length - 2) none) m0).bind fun d m1 => (zgL (.rt d) m1)) = (fi (([dp, .lst ds] : List D).map some ++ List.replicate (N.length - 2) none) m0).bind fun y m2 => (ixD (.lst ds) y m2).bind fun d m1 => Res.ok d m1 := by
   show ((fi (([dp, .lst ds] : List D).map some ++ List.replicate (N.length - 2) none) m0).bind fun y m2 => ixD (.lst ds) y m2).bind (fun d m1 => Res.ok d m1) = _
   cases fi (([dp, .lst ds] : List D).map some ++ List.replicate (N.length - 2) none) m0 <;> rfl
  rw [<- this]; exact hq2
 refine wpAny_mono ((hi cdv A outer s H1 (fun _ _ _ => False) (hr.deeper _)).out [] s2 _ H1 (fun v H2 => ∃ i z, v = .int i /\ atI xs i = some z /\ H2 a = some (.frz { cls := .type "list", data := .seq its.toArray 0 } (.lst xs)) /\ Q z H2) I1 (tD.use W hrho hq3 fun α1 m1 H2 d v E1 W1 hr1 rv q => ?_)) (fun u s3 hh => ?_) fun _ _ z => z.elim
 ·cases d with
  | int i =>
   obtain ⟨dd, e, h⟩ := zch (show PQ K cl X0 ((opt (L2.atI ds i) m1).bind fun d m1 => Res.ok d m1) α1 H2 _ from q).bind
   obtain ⟨z, e2, rz⟩ := (rl.mono W E1).atI e
   rw [Rep] at rv
   exact ⟨i, z, rv, e2, E1.frzs a _ _ hfz, PQ.ok W1 (PQ.ok W1 h) z rz⟩
  | _ => exact q.elim
 ·obtain ⟨_, H2, I2, ru, i, z, rfl, e2, hf2, q⟩ := hh
  obtain ⟨t, rfl⟩ := ru
  refine wpAny_mono (zly (X := (zfQ CX0 P w K mg base N qual (zah st) f cdv A outer s H1 fun _ _ _ => False).nox) (R := fun w' s' => w' ∈ its /\ CE outer P w H1 s Q w' s') I2 hf2 rxs e2 (hs _ _) fun w hw rw' => ⟨hw, z, H2, I2.os, I2.bare, I2.base, I2.hok, rw', q⟩) (fun u s4 hh => ?_) fun _ _ z => z.elim
  exact ⟨u, rfl, hh⟩
inductive StrCs : List Expr -> List Str -> AV -> Prop where
 | nil : StrCs [] [] zak
 | cons {z : Str} {j : Nat} {p : Pos} {es : List Expr} {zs : List Str} {fr : AV} : StrCs es zs fr -> StrCs (.Constant (.str z) j p :: es) (z :: zs) (zac (eC (.str z)) fr)
theorem StrCs.ev {es : List Expr} {zs : List Str} {fr : AV} (h : StrCs es zs fr) (ρ : En) (m : Sto) : fr ρ m = .ok (zs.map D.str) m := by
 induction h with
 | nil => rfl
 | cons h ih => unfold zac eC; show ((_ : Res (List D)).bind _) = _; rw [ih]; rfl
theorem StrCs.run {M : Model} {A : Around} {E : Value -> Shared -> Prop} {env : PySem.Env} {es : List Expr} {zs : List Str} {fr : AV} (h : StrCs es zs fr) (pos : Pos) : ∀ {s : Shared} {n : Nat} {Q : List Value -> Shared -> Prop}, n <= s.toks →
  (∀ us tk, Vals (zs.map V.str) us -> (∀ u ∈ us, ∀ z t, u = Value.str z t -> n <= t) -> Q us { s with toks := tk }) -> wpAny M A (spliced (backTo pos (starEach es env))) Q E s := by
 induction h with
 | nil => exact fun {s} {n} {Q} _ h => Calls.spliced_nil (h [] s.toks .nil (fun _ z => nomatch z))
 | @cons z j p es zs fr h ih =>
  intro s n Q hn h
  rw [show starEach (.Constant (.str z) j p :: es) env = (false, eval (.Constant (.str z) j p) env) :: starEach es env from rfl]
  show wpAny _ _ (spliced ((false, eval (.Constant (.str z) j p) env) :: backTo pos (starEach es env))) _ _ s
  refine Calls.spliced_cons (Calls.Constant_str ?_)
  refine ih (n := n) (Nat.le_succ_of_le hn) fun us tk r hus => ?_
  refine h (_ :: us) tk (.cons ⟨_, rfl⟩ r) fun u hu z' t e => ?_
  rcases List.mem_cons.mp hu with rfl | hu
  ·cases e; exact hn
  ·exact hus u hu z' t e
structure QEt (X : Cx) (cl : Str -> Addr) (e : Expr) (f : EV) : Prop where
 out : ∀ (n : Nat) (pins : List (Addr × Obj)) (s : Shared) (σ : L2.St) (H : Hp) (Q : VK), n <= s.toks -> Inv X pins σ H s -> tD X.K cl X0 f σ H Q -> wpAny (model X.prog X.w) X.A (eval e X.env) (fun u s' => EP X pins σ Q u s' /\ ∀ z t, u = Value.str z t -> n <= t) X.xe s
theorem ev_of {zs : List Str} {fr : AV} {es : List Expr} {f0 : EV} {g : List D -> Sto -> Res D} (hc : StrCs es zs fr) (hz : zs.length <= sizeLine) (ρ : En) (m : Sto) : eFn g (zac f0 (zac (eFn zbu fr) zak)) ρ m = (f0 ρ m).bind fun x m1 => g [x, .lst (zs.map D.str)] m1 := by
 unfold eFn zac
 cases f0 ρ m with
 | ok x m1 =>
  show ((((fr ρ m1).bind zbu).bind fun x m1 => (zak ρ m1).bind fun xs m2 => Res.ok (x :: xs) m2).bind fun xs m2 => Res.ok (x :: xs) m2).bind g = _
  rw [hc.ev]
  show (((zbu (zs.map D.str) m1).bind fun x m1 => (zak ρ m1).bind fun xs m2 => Res.ok (x :: xs) m2).bind fun xs m2 => Res.ok (x :: xs) m2).bind g = _
  rw [show zbu (zs.map D.str) m1 = .ok (.lst (zs.map D.str)) m1 from by unfold zbu; rw [if_pos (by rw [List.length_map]; exact hz)]]
  rfl
 | exc c m1 => rfl
 | bad => rfl
theorem qet_of {X : Cx} {cl : Str -> Addr} {e0 : Expr} {es : List Expr} {f0 : EV} {fr : AV} {zs : List Str} {p p2 pos : Pos} {x : Str} {k : Nat} {g : List D -> Sto -> Res D} (h : FnI X.prog X.w X.K X.mg X.base cl x k g) (hr : Room k X.A) (hg : Gl X x) (h0 : QE X cl X0 e0 f0) (hc : StrCs es zs fr) (hz : zs.length <= sizeLine)
  (hdb : autoParam ((x == ("__debug__" : Str)) = false) AutoP.a1._auto_1) (he : autoParam (starEach [e0, .List es p2] X.env = (false, eval e0 X.env) :: starEach [.List es p2] X.env) AutoP.a3._auto_1) (hpl : autoParam ((backTo pos (starEach [.List es p2] X.env)).any (·.1) = false) AutoP.a3._auto_1) :
  QEt X cl (.Call (.Name x p) [e0, .List es p2] [] pos) (eFn g (zac f0 (zac (eFn zbu fr) zak))) := by
 obtain ⟨f, fd, ps, h1, h2, h3, h4, run⟩ := h.ex
 refine ⟨fun n pins s σ H Q hn I hh => ?_⟩
 obtain ⟨α, ρ, m, W, hrho, hq⟩ := hh
 rw [ev_of hc hz] at hq
 refine wpAny_Call_Name_kw (zcj I hg h1 ?_ hdb)
 refine PySem.W.callWith_K (h₀ := X.base) I.ok.mod.kin h2 ?_ he hpl
 rw [he]
 show wpAny _ _ (spliced ((false, eval e0 X.env) :: backTo pos (starEach [.List es p2] X.env))) _ _ s
 refine Calls.spliced_cons (wpAny_with_toks hn (wpAny_mono (h0.out pins s σ H (fun v H1 => ∃ α1 m1 d, Wd X.K cl α1 m1 H1 /\ Rep X.K α1 H1 d v /\ PQ X.K cl X0 (g [d, .lst (zs.map D.str)] m1) α1 H1 fun d α' _ H' => ∀ v, Rep X.K α' H' d v -> Q v H') I (tD.use W hrho hq fun α1 m1 H1 d v E1 W1 hr1 rv q => ⟨α1, m1, d, W1, rv, q⟩)) (fun u0 s1 hh hn1 => ?_) fun _ _ z _ => z))
 obtain ⟨v0, H1, I1, r0, α1, m1, d, W1, rv, q⟩ := hh
 show wpAny _ _ (spliced ((false, eval (.List es p2) X.env) :: backTo pos (starEach [] X.env))) _ _ s1
 refine Calls.spliced_cons (wpAny_List_spliced (hc.run p2 hn1 fun its tk r hus => ?_))
 have hl : its.length = zs.length := by rw [<- r.length, List.length_map]
 refine ⟨by rw [hl]; exact hz, Calls.spliced_nil ?_⟩
 let H2 := upd H1 s1.heap.objs.size (.frz { cls := .type "list", data := .seq its.toArray 0 } (.lst (zs.map V.str)))
 have hf : H1 s1.heap.objs.size = none := I1.hok.fresh (Nat.le_refl _)
 have hnil : Vals (zs.map V.str) its := r
 have I2 : Inv X pins σ H2 { s1 with heap := s1.heap.push { cls := .type "list", data := .seq its.toArray 0 }, toks := tk } := I1.laid (fun b u e => Heap.get?_push_of_some _ e) (Nat.le_refl _) ⟨Heap.get?_push_size _ rfl, by rw [List.length_map]; exact hz, its, 0, r, Heap.get?_push_size _ rfl⟩
 have W2 : Wd X.K cl α1 m1 H2 := W1.same (Same.new hf)
 have hna : s1.heap.objs.size ∉ α1 := W1.nin hf
 refine ⟨I2.kIn, ?_⟩
 have hb := h3 { s1 with heap := s1.heap.push { cls := .type "list", data := .seq its.toArray 0 }, toks := tk } [u0, .ref s1.heap.objs.size] I2.kIn (by rw [h4]; rfl)
 rw [List.append_nil] at hb
 refine wpAny_call (codeAny_mono (run X.A X.stack _ H2 ⟨[u0, .ref s1.heap.objs.size], []⟩ d (zs.map D.str) v0 u0 s1.heap.objs.size its (zs.map V.str) α1 m1 Q hr I2.env0 hb r0 W2 (rv.mono W1 (Ext.of_same W1 (Same.new hf))) hna zap r (zdn _) (PQ.mono (Ext.of_same W1 (Same.new hf)) q fun _ _ _ _ _ _ z => z)) fun r s' hq => ?_)
 obtain ⟨u, rfl, hu, hce⟩ := hq
 exact ⟨I2.after hce, hus u hu⟩
def zi7 (x y : Str) (d : D) (m : Sto) : Res D := match d with
 | .str z => zi9 x y z m
 | _ => .bad
def zmM (y : Str) (k : Sto -> Res D) (d : D) (m : Sto) : Res D := match d with
 | .str x => (k m).bind (zi7 x y)
 | _ => .bad
def zis (y : Str) (f1 f2 : EV) : EV := fun ρ m => (f1 ρ m).bind (zmM y (f2 ρ))
structure QSs0 (X : Cx) (cl : Str -> Addr) (sts : List Stmt) (f : SV) : Prop where
 out : ∀ (pins : List (Addr × Obj)) (s : Shared) (σ : L2.St) (H : Hp) (De : Ends), Inv X pins σ H s -> 0 < s.toks -> tDS X.K cl X0 f De σ H -> wpAny (model X.prog X.w) X.A (execs sts X.env) (SP X pins De) X.xe s
theorem zjh {X : Cx} {cl : Str -> Addr} {e1 e2 : Expr} {f1 f2 : EV} {y : Str} {j j2 : Nat} {p p2 apos cpos rpos : Pos} (h1 : QE X cl X0 e1 f1) (h2 : QEt X cl e2 f2)
  (hbase : autoParam (attributeBase e1 "replace" X.env (eval e1 X.env) = eval e1 X.env) AutoP.a3._auto_1)
  (hfew : autoParam (((backTo cpos (starEach [.Constant (.str y) j p, e2, .Constant (.int 1) j2 p2] X.env)).all (fun x => !x.1) && (backToKw cpos (keywordEach [] X.env)).all (fun x => x.1.isSome)
   && decide (([.Constant (.str y) j p, e2, .Constant (.int 1) j2 p2] : List Expr).length + ([] : List Keyword).length + (if ([] : List Keyword).isEmpty then 0 else 1) < 30)) = true) AutoP.a3._auto_1)
  (hline : autoParam ((apos.endLine == cpos.line) = true) AutoP.a3._auto_1) (hs2 : autoParam (starEach [e2, .Constant (.int 1) j2 p2] X.env = (false, eval e2 X.env) :: starEach [.Constant (.int 1) j2 p2] X.env) AutoP.a3._auto_1)
  (hplain : autoParam ((backTo cpos (starEach [e2, .Constant (.int 1) j2 p2] X.env)).any (·.1) = false) AutoP.a3._auto_1) :
  QSs0 X cl [.Return (some (.Call (.Attribute e1 "replace" apos) [.Constant (.str y) j p, e2, .Constant (.int 1) j2 p2] [] cpos)) rpos] (zaV (zis y f1 f2)) := by
 refine ⟨fun pins s σ H De I h0 hh => ?_⟩
 obtain ⟨α, ρ, m, W, hrho, hq⟩ := hh
 refine wpAny_execs_cons (wpAny_Return_some (wpAny_Call_method_late hbase hfew hline rfl ?_))
 have hq1 : PQ X.K cl X0 ((f1 ρ m).bind fun d1 m1 => (zmM y (f2 ρ) d1 m1).bind fun d m1 => Res.ok (Fl.rt d) m1) α H fun fl α' _ H' => zbB X.K De fl α' H' := by
  have : zaV (zis y f1 f2) ρ m = ((f1 ρ m).bind fun d1 m1 => (zmM y (f2 ρ) d1 m1).bind fun d m1 => Res.ok (Fl.rt d) m1) := by
   unfold zaV zis
   cases f1 ρ m <;> rfl
  rw [<- this]; exact hq
 refine wpAny_with_toks (n := 1) h0 (wpAny_mono (h1.out pins s σ H (fun v H1 => ∃ x, v = .str x /\ tD X.K cl X0 f2 σ H1 (fun v2 H2 => ∃ z, v2 = .str z /\ (y == z) = false /\ Builtin.Str.tooLong (x.length + (Builtin.Str.occurrences x y 0 x.length 1).length * z.length) = false /\ (zb5 x y z).length <= sizeLine /\ De.rt (.str (zb5 x y z)) H2)) I (tD.use W hrho hq1 fun α1 m1 H1 d v E1 W1 hr1 rv q => ?_)) (fun u s1 hh hn1 => ?_) fun _ _ z _ => z)
 ·cases d with
  | str x =>
   rw [Rep] at rv
   have q' : PQ X.K cl X0 ((f2 ρ m1).bind fun d2 m2 => (zi7 x y d2 m2).bind fun d m1 => Res.ok (Fl.rt d) m1) α1 H1 fun fl α' _ H' => zbB X.K De fl α' H' := by
    have := q; revert this; show PQ X.K cl X0 (((f2 ρ m1).bind (zi7 x y)).bind fun d m1 => Res.ok (Fl.rt d) m1) α1 H1 _ -> _; cases f2 ρ m1 <;> exact fun z => z
   refine ⟨x, rv, tD.use W1 hr1 q' fun α2 m2 H2 d2 v2 E2 W2 hr2 rv2 q2 => ?_⟩
   cases d2 with
   | str z =>
    rw [Rep] at rv2
    replace q2 : PQ X.K cl X0 ((zi9 x y z m2).bind fun d m1 => Res.ok (Fl.rt d) m1) α2 H2 _ := q2
    unfold zi9 at q2
    by_cases hc : (y == z) = false /\ Builtin.Str.tooLong (x.length + (Builtin.Str.occurrences x y 0 x.length 1).length * z.length) = false /\ (zb5 x y z).length <= sizeLine
    ·rw [if_pos hc] at q2
     exact ⟨z, rv2, hc.1, hc.2.1, hc.2.2, PQ.ok W2 q2 _ (by rw [Rep])⟩
    ·rw [if_neg hc] at q2
     exact q2.elim
   | _ => exact q2.elim
  | _ => exact q.elim
 ·obtain ⟨_, H1, I1, ru, x, rfl, q⟩ := hh
  obtain ⟨t, rfl⟩ := ru
  refine ⟨"str", "str.replace", PySem.F.plainAttrs_str, PySem.F.slot_str_replace, PySem.F.type_str_replace, typeIs_str _ _ _, (fun _ e => nomatch e), ?_⟩
  refine Calls.callWith_builtin (by show (false || (backTo cpos (starEach [e2, .Constant (.int 1) j2 p2] X.env)).any (·.1)) = false; rw [hplain] <;> rfl) (Calls.evalArgs_plain ?_)
  show wpAny _ _ (spliced ((false, eval (.Constant (.str y) j p) X.env) :: backTo cpos (starEach [e2, .Constant (.int 1) j2 p2] X.env))) _ _ s1
  refine Calls.spliced_cons (Calls.Constant_str ?_)
  rw [hs2]
  show wpAny _ _ (spliced ((false, eval e2 X.env) :: backTo cpos (starEach [.Constant (.int 1) j2 p2] X.env))) _ _ _
  refine Calls.spliced_cons (wpAny_mono (h2.out (s1.toks + 1) pins _ σ H1 _ (Nat.le_refl _) (I1.tok _) q) (fun u2 s2 hh => ?_) fun _ _ z => z)
  obtain ⟨⟨_, H2, I2, ru2, z, rfl, c1, c2, c3, q2⟩, htok⟩ := hh
  obtain ⟨t2, rfl⟩ := ru2
  have ht2 := htok z t2 rfl
  show wpAny _ _ (spliced ((false, eval (.Constant (.int 1) j2 p2) X.env) :: backTo cpos (starEach [] X.env))) _ _ _
  refine Calls.spliced_cons (wpAny_Constant_int (Calls.spliced_nil ?_))
  have n1 : 1 <= s1.toks := hn1
  refine call_gives F.slot_str_replace (typeIs_str _ _ _) F.entry_str_replace (ziy _ _ _ _) (zgJ x y z t s1.toks t2 s2.toks (by rw [Bool.or_eq_false_iff, beq_eq_false_iff_ne, beq_eq_false_iff_ne]; exact ⟨Nat.ne_of_gt n1, Nat.ne_of_gt (Nat.lt_of_lt_of_le (Nat.succ_pos _) ht2)⟩) (by rw [beq_eq_false_iff_ne]; exact Nat.ne_of_lt ht2) c1 c2) ?_
  have fin : ∀ (b : Bool) (tk : Tok) (tt : Tok), De.rt (.str (zb5 x y z)) H2 -> SP X pins De (.ret (.str (zb5 x y z) tt)) { s2 with toks := tk } := fun b tk tt q => ⟨.str (zb5 x y z), σ, H2, I2.tok _, ⟨_, rfl⟩, q⟩
  by_cases hc : ((Builtin.Str.occurrences x y 0 x.length 1).isEmpty || (y.length == 0 && z.length == 0)) = true
  ·rw [if_pos hc]
   have e : zb5 x y z = x := by unfold zb5; rw [if_pos hc]
   rw [e] at fin q2
   exact fin true _ t q2
  ·rw [if_neg hc]
   have e : zb5 x y z = Builtin.Str.glued z (Builtin.Str.partsBetween x (Builtin.Str.occurrences x y 0 x.length 1) y.length) := by unfold zb5; rw [if_neg hc]
   rw [e] at fin q2 c3
   exact ⟨c3, fin true _ _ q2⟩
theorem qs_if0 {X : Cx} {cl : Str -> Addr} {op : CmpOp} {r : R2} {g : D -> D -> Sto -> Res D} {a : Expr} {fa : EV} {i : Int} {j : Nat} {p cp pos : Pos} {sts sts' : List Stmt} {f f' : SV} (ho : OpR X (compareOp op) r) (hd : OpD X.K cl X0 r g) (ha : QE X cl X0 a fa) (h0 : QSs0 X cl sts f) (hb : QSs X cl X0 sts' f') (hm : autoParam (behindInMarks op (.Constant (.int i) j p) = false) AutoP.a3._auto_1) :
  QS X cl X0 (.If (.Compare a [op] [.Constant (.int i) j p] cp) sts sts' pos) (sIf (tV (eOp g fa (eC (.int i)))) f f') := by
 refine ⟨fun pins s σ H De I hh => ?_⟩
 obtain ⟨α, ρ, m, W, hrho, hq⟩ := hh
 have hq1 : PQ X.K cl X0 ((fa ρ m).bind fun x m1 => ((g x (.int i) m1).bind asB).bind fun b m2 => if b = true then f ρ m2 else f' ρ m2) α H fun fl α' _ H' => zbB X.K De fl α' H' := by
  have : sIf (tV (eOp g fa (eC (.int i)))) f f' ρ m = (fa ρ m).bind fun x m1 => ((g x (.int i) m1).bind asB).bind fun b m2 => if b = true then f ρ m2 else f' ρ m2 := by
   unfold sIf tV eOp
   cases fa ρ m <;> rfl
  rw [<- this]; exact hq
 refine wpAny_If (wpAny_mono (Q := fun d s' => 1 <= s'.toks /\ ∃ H', Inv X pins σ H' s' /\ (d = true -> tDS X.K cl X0 f De σ H') /\ (d = false -> tDS X.K cl X0 f' De σ H')) (wpAny_isTrue_Compare1 (thn (ha.out pins s σ H (fun v H1 => r v (.int i) H1 fun z H3 => ∃ k, z = .bl k /\ (k = true -> tDS X.K cl X0 f De σ H3) /\ (k = false -> tDS X.K cl X0 f' De σ H3)) I (tD.use W hrho hq1 fun α1 m1 H1 d v E1 W1 hr1 rv q => ?_)) fun v s1 hh => ?_) hm) (fun d s1 hh => ?_) fun _ _ z => z)
 ·have q' : PQ X.K cl X0 ((g d (.int i) m1).bind fun z m2 => (asB z m2).bind fun b m2 => if b = true then f ρ m2 else f' ρ m2) α1 H1 fun fl α' _ H' => zbB X.K De fl α' H' := by
   have := q; revert this; cases g d (.int i) m1 <;> exact fun z => z
  refine hd α1 m1 H1 d (.int i) v (.int i) _ W1 rv (by rw [Rep]) (PQ.mono (Ext.refl W1) q'.bind fun z α2 m2 H2 E2 W2 q2 vz rz => ?_)
  cases z with
  | bl k =>
   rw [Rep] at rz
   replace q2 : PQ X.K cl X0 (if k = true then f ρ m2 else f' ρ m2) α2 H2 _ := q2
   refine ⟨k, rz, fun e => ⟨α2, ρ, m2, W2, hr1.mono W1 E2, by rw [if_pos e] at q2; exact q2⟩, fun e => ⟨α2, ρ, m2, W2, hr1.mono W1 E2, by rw [if_neg (by rw [e]; exact Bool.false_ne_true)] at q2; exact q2⟩⟩
  | _ => exact q2.elim
 ·obtain ⟨x, H1, I1, r1, q1⟩ := hh
  refine wpAny_Constant_int (wpAny_with_toks (n := s1.toks + 1) (Nat.le_refl _) (wpAny_mono (ho pins _ σ H1 x (.int i) v _ _ (I1.tok _) r1 ⟨_, rfl⟩ q1) (fun c s3 hh hn => ?_) fun _ _ z _ => z))
  obtain ⟨z, H3, I3, r3, k, rfl, e1, e2⟩ := hh
  cases r3
  exact wpAny_truthy_bool ⟨Nat.le_trans (Nat.succ_le_succ (Nat.zero_le _)) hn, H3, I3, e1, e2⟩
 ·obtain ⟨hn, H', I', e1, e2⟩ := hh
  cases d with
  | true => exact h0.out pins s1 σ H' De I' hn (e1 rfl)
  | false => exact hb.out pins s1 σ H' De I' (e2 rfl)
end MD
namespace PySem
open Sem (wp)
open Builtin
theorem zfA (l1 l2 : Addr) (xs ys : Array Value) :
  Meets (Builtin.«zip.__new__» ⟨[.type "zip", .ref l1, .ref l2], []⟩) (fun _ R s => s.heap.IsList l1 xs /\ s.heap.IsTuple l2 ys ∧
   R (.ok (.ret (.ref ((((s.heap.push (lIt l1)).push (tIt l2)).push { cls := .type "tuple", data := .seq #[.ref s.heap.objs.size, .ref (s.heap.push (lIt l1)).objs.size] }).push { cls := .type "tuple", data := .seq #[.none, .none] }).objs.size)))
    { s with heap := zpH s.heap (lIt l1) (tIt l2) }) :=
 .of_wp fun prog w A R s h => by
  obtain ⟨hp, g, d, tk, os⟩ := s
  obtain ⟨hl1, hl2, h⟩ := h
  have hsub := sub_zip
  have hL1 := hl1
  have hL2 := Heap.IsTuple.push hl2 (lIt l1)
  wp_walk using wpAny_pyIter_list hL1, wpAny_pyIter_tuple hL2
  exact ⟨_, rfl, h⟩
theorem zgS {prog : Program} {w : World} {A : Around} {E : Value -> Shared -> Prop} {s : Shared} {l1 l2 : Addr} {xs ys : Array Value} {Q : Value -> Shared -> Prop} (h1 : s.heap.IsList l1 xs) (h2 : s.heap.IsTuple l2 ys)
  (h : ∀ h', IsZip h' (s.heap.objs.size + 4) (s.heap.objs.size + 2) (s.heap.objs.size + 3) .none -> IsPair h' (s.heap.objs.size + 2) (.ref s.heap.objs.size) (.ref (s.heap.objs.size + 1)) -> IsPair h' (s.heap.objs.size + 3) .none .none →
   h'.IsListIter s.heap.objs.size l1 0 -> h'.IsTupleIter (s.heap.objs.size + 1) l2 0 -> (∀ b o, s.heap.get? b = some o -> h'.get? b = some o) -> Q (.ref (s.heap.objs.size + 4)) { s with heap := h' }) :
  wpAny (model prog w) A (call (.type "zip") [.ref l1, .ref l2]) Q E s := by
 refine callType_new F.called_zip (by decide) (F.typeCall_zip_2 _ _) (F.newCall_zip_2 _ _) (fun obj => F.args_object_init_3 obj _ _) F.entry_zip_new (zfA l1 l2 xs ys) ⟨h1, h2, ?_⟩
 have z1 : (s.heap.push (lIt l1)).objs.size = s.heap.objs.size + 1 := Heap.size_push ..
 have z2 : ((s.heap.push (lIt l1)).push (tIt l2)).objs.size = s.heap.objs.size + 2 := by rw [Heap.size_push, z1]
 have z3 : (((s.heap.push (lIt l1)).push (tIt l2)).push { cls := .type "tuple", data := .seq #[.ref s.heap.objs.size, .ref (s.heap.push (lIt l1)).objs.size] }).objs.size = s.heap.objs.size + 3 := by rw [Heap.size_push, z2]
 have z4 : ((((s.heap.push (lIt l1)).push (tIt l2)).push { cls := .type "tuple", data := .seq #[.ref s.heap.objs.size, .ref (s.heap.push (lIt l1)).objs.size] }).push { cls := .type "tuple", data := .seq #[.none, .none] }).objs.size = s.heap.objs.size + 4 := by rw [Heap.size_push, z3]
 have g5 : IsZip (zpH s.heap (lIt l1) (tIt l2)) (s.heap.objs.size + 4) (s.heap.objs.size + 2) (s.heap.objs.size + 3) .none := by
  rw [<- z4, <- z3, <- z2]
  exact Heap.get?_push_size _ rfl
 have g4 : IsPair (zpH s.heap (lIt l1) (tIt l2)) (s.heap.objs.size + 3) .none .none := by
  rw [<- z3]
  exact Heap.get?_push_of_some _ (Heap.get?_push_size _ rfl)
 have g3 : IsPair (zpH s.heap (lIt l1) (tIt l2)) (s.heap.objs.size + 2) (.ref s.heap.objs.size) (.ref (s.heap.objs.size + 1)) := by
  rw [<- z2, <- z1]
  exact Heap.get?_push_of_some _ (Heap.get?_push_of_some _ (Heap.get?_push_size _ rfl))
 have g2 : (zpH s.heap (lIt l1) (tIt l2)).get? (s.heap.objs.size + 1) = some (tIt l2) := by
  rw [<- z1]
  exact Heap.get?_push_of_some _ (Heap.get?_push_of_some _ (Heap.get?_push_of_some _ (Heap.get?_push_size _ rfl)))
 have g1 : (zpH s.heap (lIt l1) (tIt l2)).get? s.heap.objs.size = some (lIt l1) := Heap.get?_push_of_some _ (Heap.get?_push_of_some _ (Heap.get?_push_of_some _ (Heap.get?_push_of_some _ (Heap.get?_push_size _ rfl))))
 show _ /\ _
 rw [z4]
 exact ⟨⟨_, g5, rfl⟩, h _ g5 g3 g4 ⟨_, g1, rfl, rfl⟩ ⟨_, g2, rfl, rfl⟩ fun b o e => Heap.get?_push_of_some _ (Heap.get?_push_of_some _ (Heap.get?_push_of_some _ (Heap.get?_push_of_some _ (Heap.get?_push_of_some _ e))))⟩
end PySem
set_option autoImplicit false
namespace L2
open PySem PySem.Spec PyProof.Rows
section
variable {X : Cx} {elts : List Expr} {kt : Nat} {pt : Pos} {e1 e2 : Expr} {te1 te2 : TE} {p pos : Pos}
theorem zjr (hg : Gl X "zip") (hm : X.mg "zip" = none) (he1 : PE X e1 te1) (he2 : PE X e2 te2) (hs : autoParam (starEach [e1, e2] X.env = (false, eval e1 X.env) :: starEach [e2] X.env) AutoP.a3._auto_1) (hs2 : autoParam (starEach [e2] X.env = [(false, eval e2 X.env)]) AutoP.a3._auto_1) : PI X (.Tuple elts kt pt) (.Call (.Name "zip" p) [e1, e2] [] pos) (zlB SqL SqT X.K te1 te2) := by
 intro pins s σ H R I h
 refine Call_ (zcV I hg hm boot_zip (PyProof.Rows.callWith_type1 (thn (zaH he1 (zaH he2 zbU hs2) hs pos pins s σ H (fun zs H1 => ∃ l1 l2 xs ys, zs = [V.ref l1, V.ref l2] /\ SqL X.K H1 l1 xs /\ SqT X.K H1 l2 ys /\ R (zf7 SqL SqT X.K l1 l2) H1) I h) fun us s1 ⟨vs, H1, I1, r1, q1⟩ => ?_) hs (by rw [hs2]; rfl)))
 obtain ⟨l1, l2, xs, ys, rfl, hl1, hl2, q⟩ := q1
 obtain ⟨u, v, rfl, ru, rv⟩ := zdR r1
 cases ru
 cases rv
 obtain ⟨its1, rv1, p1⟩ := sq_lst.seq X pins σ H1 s1 l1 xs I1 hl1
 obtain ⟨its2, rv2, p2⟩ := sq_tup.seq X pins σ H1 s1 l2 ys I1 hl2
 exact zgS p1 p2 fun h' a1 a2 a3 a4 a5 k => wpAny_pyIter_zip a1 (zc5 sq_lst sq_tup I1 a1 a2 a3 a4 a5 k q)
end
end L2
namespace MD
open PySem PySem.Spec PyProof.Rows L2
def zmo (x y : D) (m : Sto) : Res (List D) := match x, y with
 | .tup xs, .tup ys => if xs.length <= ys.length then .ok (zbM xs ys) m else .bad
 | .tup xs, .lst ys => if xs.length <= ys.length then .ok (zbM xs ys) m else .bad
 | .lst xs, .tup ys => if xs.length <= ys.length then .ok (zbM xs ys) m else .bad
 | .lst xs, .lst ys => if xs.length <= ys.length then .ok (zbM xs ys) m else .bad
 | _, _ => .bad
def zgY (fa fb : EV) : AV := fun ρ m => (fa ρ m).bind fun x m1 => (fb ρ m1).bind fun y m2 => zmo x y m2
section
variable {X : Cx} {cl : Str -> Addr} {ex : XD} {a b : Expr} {fa fb : EV} {elts : List Expr} {kt : Nat} {pt p pos : Pos}
theorem zjj (hg : Gl X "zip") (hm : X.mg "zip" = none) (h1 : QE X cl ex a fa) (h2 : QE X cl ex b fb) (hs : autoParam (starEach [a, b] X.env = (false, eval a X.env) :: starEach [b] X.env) AutoP.a3._auto_1) (hs2 : autoParam (starEach [b] X.env = [(false, eval b X.env)]) AutoP.a3._auto_1) : QI X cl ex (.Tuple elts kt pt) (.Call (.Name "zip" p) [a, b] [] pos) (zgY fa fb) :=
 ⟨PI.weak (PI.or (PI.or (zfn hg hm h1.out h2.out hs hs2) (zfm hg hm h1.out h2.out hs hs2)) (PI.or (zjr hg hm h1.out h2.out hs hs2) (zjs hg hm h1.out h2.out hs hs2))) fun σ H R hh => ex3 hh fun α ρ m W hr q => by
  unfold zgY at q
  cases hf : fa ρ m with
  | bad => rw [hf] at q; exact q.elim
  | exc c m1 => exact .inl (.inl (tD.exc W hr hf q))
  | ok d m1 =>
   cases hf2 : fb ρ m1 with
   | bad => rw [hf] at q; exact absurd q (by show ¬ PQ X.K cl ex ((fb ρ m1).bind _) _ _ _; rw [hf2]; exact fun z => z)
   | exc c m2 =>
    refine .inl (.inl (tD.at W hr hf fun α1 H1 v E1 W1 hr1 rv => ?_))
    rw [hf] at q
    exact tD.exc (k := fun y m2 => zmo d y m2) W1 hr1 hf2 (PQ.mono E1 q fun _ _ _ _ _ _ z => z)
   | ok d2 m2 =>
    rw [hf] at q
    have q' : PQ X.K cl ex ((fb ρ m1).bind fun y m2 => zmo d y m2) α H fun ds α' _ H' => ∀ J, ItD X.K cl α' H' J ds -> R J H' := q
    rw [hf2] at q'
    have q2 : PQ X.K cl ex (zmo d d2 m2) α H fun ds α' _ H' => ∀ J, ItD X.K cl α' H' J ds -> R J H' := q'
    unfold zmo at q2
    split at q2
    ·obtain ⟨hl, q3⟩ := PQ.if q2
     refine .inl (.inr (tD.at W hr hf fun α1 H1 v E1 W1 hr1 rv => tD.at W1 hr1 hf2 fun α2 H2 v2 E2 W2 hr2 rv2 => ?_))
     have rv := rv.mono W1 E2
     rw [Rep] at rv rv2
     obtain ⟨l1, vs, rfl, h1, r1⟩ := rv
     obtain ⟨l2, us, rfl, h2, r2⟩ := rv2
     exact ⟨l1, l2, vs, us, rfl, h1.sq, h2.sq, q3 α2 H2 (E1.trans E2) W2 _ (zio W2 (zcb W2 h1.sq) (zcb W2 h2.sq) r1 r2 hl)⟩
    ·obtain ⟨hl, q3⟩ := PQ.if q2
     refine .inl (.inl (tD.at W hr hf fun α1 H1 v E1 W1 hr1 rv => tD.at W1 hr1 hf2 fun α2 H2 v2 E2 W2 hr2 rv2 => ?_))
     have rv := rv.mono W1 E2
     rw [Rep] at rv; rw [Rep] at rv2
     obtain ⟨l1, vs, rfl, h1, r1⟩ := rv
     obtain ⟨l2, us, rfl, n, h2, r2⟩ := rv2
     exact ⟨l1, l2, vs, us, rfl, h1.sq, .inl h2, q3 α2 H2 (E1.trans E2) W2 _ (zio W2 (zcb W2 h1.sq) (zdb n h2) r1 r2 hl)⟩
    ·obtain ⟨hl, q3⟩ := PQ.if q2
     refine .inr (.inl (tD.at W hr hf fun α1 H1 v E1 W1 hr1 rv => tD.at W1 hr1 hf2 fun α2 H2 v2 E2 W2 hr2 rv2 => ?_))
     have rv := rv.mono W1 E2
     rw [Rep] at rv; rw [Rep] at rv2
     obtain ⟨l1, vs, rfl, n, h1, r1⟩ := rv
     obtain ⟨l2, us, rfl, h2, r2⟩ := rv2
     exact ⟨l1, l2, vs, us, rfl, .inl h1, h2.sq, q3 α2 H2 (E1.trans E2) W2 _ (zio W2 (zdb n h1) (zcb W2 h2.sq) r1 r2 hl)⟩
    ·obtain ⟨hl, q3⟩ := PQ.if q2
     refine .inr (.inr (tD.at W hr hf fun α1 H1 v E1 W1 hr1 rv => tD.at W1 hr1 hf2 fun α2 H2 v2 E2 W2 hr2 rv2 => ?_))
     have rv := rv.mono W1 E2
     rw [Rep] at rv; rw [Rep] at rv2
     obtain ⟨l1, vs, rfl, n, h1, r1⟩ := rv
     obtain ⟨l2, us, rfl, n2, h2, r2⟩ := rv2
     exact ⟨l1, l2, vs, us, rfl, .inl h1, .inl h2, q3 α2 H2 (E1.trans E2) W2 _ (zio W2 (zdb n h1) (zdb n2 h2) r1 r2 hl)⟩
    ·exact q2.elim⟩
end
end MD
set_option autoImplicit false
namespace L2
open PySem PySem.Spec PyProof.Rows MD
theorem zhX {prog : Program} {w : World} {A : Around} {E : Value -> Shared -> Prop} {s : Shared} {nm q : Str} {C N : Addr} {bs bm bmB : List Value} {hdct : Bool} {sn : List Str} {sub : List Value} {ab : Bool} {col : Option Bool} {dd : Option Addr} {k0 k1 k2 k3 k5 : Option Value} {B newId initId : String} (F : ExcBaseFacts B newId initId bmB) (T : OwnTail s.heap bmB bm) {K : PySem.W.Frag} {fI : Addr} {rest : List Value} {Q : PySem.Fin -> Shared -> Prop} (hC : s.heap.get? C = some (excClassObj nm q C N bs bm hdct sn sub ab col dd k0 k1 k2 k3 k5 newId)) (kin : K.In s.heap)
  (hfi : PySem.W.findIn K (.ref C) "__init__" = some (some (.ref fI))) (hft : PySem.W.typeIn K (.ref fI) = some (.type "function")) (hl : rest.length <= sizeLine)
  (k : ∀ h' e, s.heap.MadeExcOf h' e (.ref C) rest -> wpAny (model prog w) A (call (.ref fI) (.ref e :: rest)) (fun r s' => r = .none /\ Q (.done (.ret (.ref e))) s') E { s with heap := h' }) : wpAny (model prog w) A (Builtin.«type.__call__» { pos := .ref C :: rest }) Q E s := by
 obtain ⟨h, g, d, t, os⟩ := s
 simp only at T hC kin k
 unfold Builtin.«type.__call__»
 refine wpAny_ite_false rfl ?_
 refine wpAny_bind (wpAny_mroOf_exc hC ?_)
 refine wpAny_ite_false rfl ?_
 refine wpAny_bind (wpAny_madeBy_exc hC ?_)
 refine wpAny_bind (wpAny_pure ?_)
 refine wpAny_bind (wpAny_holding (wpAny_call (codeAny_call_builtin_code (Code.quiet_builtin _ F.quiet) (wpAny_check_new_subT F T hC (codeAny_exc_new_subT F T hC ?_ hl)))))
 have hs1 : (h.push { cls := .type "tuple", data := .seq rest.toArray }).objs.size = h.objs.size + 1 := Heap.size_push ..
 have keep : ∀ b o, h.get? b = some o -> ((h.push { cls := .type "tuple", data := .seq rest.toArray }).push { cls := .ref C, data := .fields #[.ref h.objs.size, .none, .none, .none, .bool false, .none] }).get? b = some o := fun b o q => Heap.get?_push_of_some _ (Heap.get?_push_of_some _ q)
 have he : ((h.push { cls := .type "tuple", data := .seq rest.toArray }).push { cls := .ref C, data := .fields #[.ref h.objs.size, .none, .none, .none, .bool false, .none] }).get? (h.objs.size + 1) = some { cls := .ref C, data := .fields #[.ref h.objs.size, .none, .none, .none, .bool false, .none] } := by rw [<- hs1]; exact Heap.get?_push_size _ rfl
 have made : h.MadeExcOf ((h.push { cls := .type "tuple", data := .seq rest.toArray }).push { cls := .ref C, data := .fields #[.ref h.objs.size, .none, .none, .none, .bool false, .none] }) (h.objs.size + 1) (.ref C) rest :=
  ⟨keep, Heap.get?_none_of_le (Nat.le_succ _), h.objs.size, he, Heap.get?_none_of_le (Nat.le_refl _), Heap.get?_push_of_some _ (Heap.get?_push_size _ rfl)⟩
 have q1 := k _ _ made
 generalize (h.push { cls := .type "tuple", data := .seq rest.toArray }).push { cls := .ref C, data := .fields #[.ref h.objs.size, .none, .none, .none, .bool false, .none] } = h1 at *
 show wpAny _ _ (isInstance _ _ >>= _) _ _ _
 unfold isInstance
 refine wpAny_bind (wpAny_bind (wpAny_typeOf_ref he (wpAny_isSubtype_exc (keep _ _ hC) ?_)))
 rw [show (Value.ref C :: bm).contains (.ref C) = true by simp]
 refine wpAny_ite_false rfl ?_
 have kin1 : K.In h1 := fun b o q => keep b o (kin b o q)
 refine wpAny_bind (wpAny_holding (PySem.W.special_fn (s := ⟨h1, g, d, t, os⟩) kin1 (C := C) (od := none) ⟨he, rfl, rfl, trivial⟩ hfi hft (wpAny_mono q1 (fun r s' ⟨hr, q⟩ => ?_) fun _ _ z => z)))
 subst hr
 exact wpAny_ite_false rfl (wpAny_pure q)
theorem ziw {prog : Program} {w : World} {A : Around} {E : Value -> Shared -> Prop} {s : Shared} {nm q : Str} {C N : Addr} {bs bm bmB : List Value} {hdct : Bool} {sn : List Str} {sub : List Value} {ab : Bool} {col : Option Bool} {dd : Option Addr} {k0 k1 k2 k3 k5 : Option Value} {B newId initId : String} (F : ExcBaseFacts B newId initId bmB) (T : OwnTail s.heap bmB bm) {e : Addr} {oe : Obj} {vs : Array Value} {x0 : Value} {rest : List Value} {Q : Value -> Shared -> Prop} (hC : s.heap.get? C = some (excClassObj nm q C N bs bm hdct sn sub ab col dd k0 k1 k2 k3 k5 newId))
  (he : s.heap.get? e = some oe) (hc : oe.cls = .ref C) (hd : oe.data = .fields vs) (hv : vs[0]? = some x0) (hl : rest.length <= sizeLine)
  (k : ∀ h', h'.get? e = some { oe with data := .fields (vs.setIfInBounds 0 (.ref s.heap.objs.size)) } -> (∀ b o, b ≠ e -> s.heap.get? b = some o -> h'.get? b = some o) -> Q .none { s with heap := h' }) : wpAny (model prog w) A (call (.builtin initId) (.ref e :: rest)) Q E s := by
 obtain ⟨h, g, d, t, os⟩ := s
 simp only at T hC he k
 refine wpAny_call (codeAny_call_builtin F.init.plain F.initEntry (wpAny_check_init_subT F T hC he hc ?_))
 unfold Builtin.«BaseException.__init__»
 refine wpAny_ite_false rfl ?_
 refine wpAny_bind (wpAny_newTuple ?_ hl)
 unfold Builtin.BaseException.bexcPut
 have he1 : (h.push { cls := .type "tuple", data := .seq rest.toArray }).get? e = some oe := Heap.get?_push_of_some _ he
 have h0 : 0 < vs.size := (Array.getElem?_eq_some_iff.mp hv).1
 refine wpAny_bind (wpAny_bind (wpAny_field he1 hd hv ?_))
 refine wpAny_bind (wpAny_setField he1 hd h0 ?_)
 have q := k _ (zbA (i := 0) (x := .ref h.objs.size) he1 hd) (fun b o hb q => by rw [Heap.get?_update_ne _ _ _ _ hb]; exact Heap.get?_push_of_some _ q)
 split
 ·exact wpAny_letGo (wpAny_pure q)
 ·exact wpAny_pure (wpAny_pure q)
theorem zkl {prog : Program} {w : World} {A : Around} {E : Value -> Shared -> Prop} {s : Shared} {K : PySem.W.Frag} {nm q : Str} {C N HE : Addr} {bs bmB : List Value} {sn : List Str} {sub : List Value} {ab : Bool} {col : Option Bool} {dd : Option Addr} {k0 k1 k2 k3 k5 : Option Value} {newId B : String} (SF : StoreFacts B bmB "object.__setattr__" "object") {e : Addr} {oe : Obj} {vs : Array Value} {name : Str} {v : Value} {Q : Unit -> Shared -> Prop} (hC : s.heap.get? C = some (excClassObj nm q C N bs (.ref HE :: bmB) true sn sub ab col dd k0 k1 k2 k3 k5 newId)) (kin : K.In s.heap)
  (he : s.heap.get? e = some oe) (hc : oe.cls = .ref C) (hd : oe.data = .fields vs) (hdd : oe.dict = none)
  (hs : PySem.W.findIn K (.ref C) "__setattr__" = some (some (.builtin "object.__setattr__"))) (hob : PySem.W.mroIn K C (.type "object") = some true) (hn : PySem.W.findIn K (.ref C) name = some none)
  (k : ∀ h' dx t', h'.get? e = some { oe with dict := some dx } -> s.heap.get? dx = none -> (h'.Ns1 dx fun y => if y = name then some v else none) -> (∀ b o, b ≠ e -> s.heap.get? b = some o -> h'.get? b = some o) -> Q () { s with heap := h', toks := t' }) : wpAny (model prog w) A (setAttr (.ref e) name v) Q E s := by
 obtain ⟨h, g, d, t, os⟩ := s
 simp only at hC he k kin
 have inst : PySem.W.InstAt h e oe C none := ⟨he, hc, by unfold PySem.W.notCls; rw [hd], by rw [hdd]; trivial⟩
 have ha := SF.args (.ref e) (.str name t) v
 refine PySem.W.set_plain (s := ⟨h, g, d, t, os⟩) kin inst hs (codeAny_call_builtin SF.slot.plain SF.entry (PySem.W.check_slot (i := "object.__setattr__") (owner := "object") (n := "__setattr__") (self := .ref e) (rest := [.str name t, v]) (kw := []) SF.kind SF.split ?_ ha ?_))
 ·refine fun A Q E s1 hs q => ?_
  unfold isInstance
  refine wpAny_bind (wpAny_typeOf_ref (hs _ _ he) ?_)
  rw [hc]
  exact PySem.W.looks_mroIn kin hob A Q E s1 hs q
 ·show wpAny _ _ (Builtin.«object.__setattr__» { pos := [.ref e, .str name t, v] }) _ _ _
  rw [PySem.W.osa_eq, refuse_eq]
  refine wpAny_bind (wpAny_bind (wpAny_typeOf_ref (s := ⟨h, g, d, t + 1, os⟩) he ?_))
  rw [hc]
  refine wpAny_bind (wpAny_mroOf_exc hC ?_)
  rw [refuseLoop_ref, refuseLoop_ref, SF.passes]
  refine wpAny_pure ?_
  refine wpAny_bind (wpAny_typeOf_ref (s := ⟨h, g, d, t + 1, os⟩) he ?_)
  rw [hc]
  refine wpAny_bind (Looks.go (s := ⟨h, g, d, t + 1, os⟩) (PySem.W.looks_findIn (h := h) kin hn) ?_)
  refine wpAny_bind (wpAny_pure ?_)
  show wpAny _ _ (Builtin.ObjectAttr.storeInOwnDict _ _ _ _ _ _) _ _ _
  unfold Builtin.ObjectAttr.storeInOwnDict
  refine wpAny_bind (wpAny_pure ?_)
  refine wpAny_ite_false rfl ?_
  unfold Builtin.ObjectAttr.ownDictForStores instanceDict
  refine wpAny_bind (wpAny_bind (wpAny_loadPart_at he ?_))
  simp only [hc]
  unfold classData
  refine wpAny_bind (wpAny_bind (wpAny_load' hC (wpAny_pure ?_)))
  refine wpAny_ite_false rfl ?_
  simp only [hdd]
  refine wpAny_ite_false rfl ?_
  simp only [hd]
  refine wpAny_bind (wpAny_alloc' ?_)
  refine wpAny_bind (wpAny_update' (o := oe) (Heap.get?_push_of_some _ he) ?_)
  unfold dictMade
  refine wpAny_pure ?_
  unfold Builtin.ObjectAttr.storeInDict
  refine wpAny_bind (wpAny_pure ?_)
  have ne : h.objs.size ≠ e := Nat.ne_of_gt (Heap.lt_size he)
  have hD : ((h.push { cls := .type "dict", data := .dict #[] }).update e fun o => { cls := o.cls, dict := some h.objs.size, data := o.data, slots := o.slots }).get? h.objs.size = some { cls := .type "dict", data := .dict #[] } := by
   rw [Heap.get?_update_ne _ _ _ _ ne]; exact Heap.get?_push_size _ rfl
  have hN : ((h.push { cls := .type "dict", data := .dict #[] }).update e fun o => { cls := o.cls, dict := some h.objs.size, data := o.data, slots := o.slots }).Ns h.objs.size fun _ => none := ⟨_, #[], 0, hD, rfl, by simp [StrKeys], fun _ => rfl⟩
  have hE : ((h.push { cls := .type "dict", data := .dict #[] }).update e fun o => { cls := o.cls, dict := some h.objs.size, data := o.data, slots := o.slots }).get? e = some { oe with dict := some h.objs.size } := Heap.get?_update_self _ (Heap.get?_push_of_some _ he) (by obtain ⟨c, dd, dt, sl⟩ := oe; simp only at hd; subst hd; rfl)
  have hK : ∀ b o, b ≠ e -> h.get? b = some o -> ((h.push { cls := .type "dict", data := .dict #[] }).update e fun o => { cls := o.cls, dict := some h.objs.size, data := o.data, slots := o.slots }).get? b = some o := fun b o hb q => by rw [Heap.get?_update_ne _ _ _ _ hb]; exact Heap.get?_push_of_some _ q
  generalize ((h.push { cls := .type "dict", data := .dict #[] }).update e fun o => { cls := o.cls, dict := some h.objs.size, data := o.data, slots := o.slots }) = h1 at hD hN hE hK ⊢
  refine wpAny_bind (wpAny_nsSet1 (s := ⟨h1, g, d, t + 1, os⟩) (Heap.Ns1.of_empty hN) fun h' n1 sb => ?_)
  obtain ⟨o', es, ep, ho', hd', cnt⟩ := Heap.Ns1.count n1 (Within.cons name v Within.nil)
  refine wpAny_bind (wpAny_lookBehind ho' (by rw [hd']; exact pastItsLine_dict (Nat.le_trans cnt (show 1 <= sizeLine + 1 from Nat.succ_le_succ (Nat.zero_le _)))) (wpAny_pure ?_))
  exact k h' h.objs.size _ (by rw [sb.2 e (Ne.symm ne)]; exact hE) (Heap.get?_none_of_le (Nat.le_refl _)) n1 fun b o hb q => by rw [sb.2 b (Nat.ne_of_lt (Heap.lt_size q))]; exact hK b o hb q
def zeo (C : Value) (dd : Option Addr) (e : Addr) : Heap -> Prop := fun h => ∃ o vs x0, h.get? e = some o /\ o.cls = C /\ o.dict = dd /\ o.data = .fields vs /\ vs[0]? = some x0 /\ vs[1]? = some .none
theorem zgp {P : Program} {w : World} {H : Hp} {h : Heap} {C : Value} {dd : Option Addr} {e : Addr} (x : zeo C dd e h) : ObjOk P w H h e (.ext (zeo C dd e)) := by
 refine ⟨x, ?_, fun h1 h2 a k => ?_⟩
 ·obtain ⟨o, _, _, q, _⟩ := x
  exact ⟨o, q⟩
 ·obtain ⟨o, vs, x0, q, r⟩ := a
  exact ⟨o, vs, x0, k o q, r⟩
structure ExN (K : PySem.W.Frag) (C HE fI : Addr) : Prop where
 cls : ∃ nm q N bs sn sub ab col dd k0 k1 k2 k3 k5, K.lookup C = some (excClassObj nm q C N bs (.ref HE :: bmV) true sn sub ab col dd k0 k1 k2 k3 k5 "ValueError.__new__")
 tail : PySem.W.tailIn K bmV (.ref HE :: bmV) = true
 ini : PySem.W.findIn K (.ref C) "__init__" = some (some (.ref fI))
 fn : PySem.W.typeIn K (.ref fI) = some (.type "function")
 kp : PySem.W.keepIn K (.ref fI) = true
 sa : PySem.W.findIn K (.ref C) "__setattr__" = some (some (.builtin "object.__setattr__"))
 ob : PySem.W.mroIn K C (.type "object") = some true
 row : PySem.W.findIn K (.ref C) "row" = some none
 ga : PySem.W.specialIn K (.ref HE) "__getattribute__" = some (some (.builtin "type.__getattribute__"))
 rd : PySem.W.readsIn K HE (.type "type") = true
 hi : PySem.W.findCls K (.ref HE) (.type "type") "__init__" = some (.val (.builtin "ValueError.__init__"))
section
variable {X : Cx} {cl : Str -> Addr} {C HE fI : Addr} {e2 : Expr} {f2 : EV} {np apos cpos pos sp p1 p2 p3 : Pos} {x1 x2 : Str}
def sBi (C : Addr) (K : PySem.W.Frag) (f2 : EV) : TS := fun D σ H => ∃ e x d z, σ = [some (.ref e), some x] /\ H e = some (.ext (zeo (.ref C) none e)) /\ Rep K [] H d x /\ f2 [none, some d] [] = .ok (.str z) [] /\ ∀ H1, Same H H1 -> D.nx σ H1
theorem zk9 {pl : Sem Bool} (hxe : X.xe = fun _ _ => False) (F : ExN X.K C HE fI) (hg : Gl X "HeadError") (hm : X.mg "HeadError" = some (.ref HE)) (h0 : X.N[0]? = some x1) (hv : Vis X.env.scope x1) (he2 : QE X cl X0 e2 f2) (hd : autoParam ((x1 == ("__debug__" : Str)) = false) AutoP.a1._auto_1) (hcd : autoParam ((x1 == ("__classdict__" : Str)) = false) AutoP.a1._auto_1)
  (hst : autoParam (starEach [.Name x1 sp, e2] X.env = (false, eval (.Name x1 sp) X.env) :: starEach [e2] X.env) AutoP.a3._auto_1) (hst2 : autoParam (starEach [e2] X.env = (false, eval e2 X.env) :: starEach [] X.env) AutoP.a3._auto_1) (hpl : autoParam ((backTo cpos (starEach [e2] X.env)).any (·.1) = false) AutoP.a3._auto_1)
  (hs : autoParam (swapsWith (.Call (.Attribute (.Name "HeadError" np) "__init__" apos) [.Name x1 sp, e2] [] cpos) none pos.line X.env = pure false) AutoP.a3._auto_1)
  (ht : autoParam (eval (.Call (.Attribute (.Name "HeadError" np) "__init__" apos) [.Name x1 sp, e2] [] cpos) X.env = (do
   let ov <- eval (.Name "HeadError" np) X.env
   standAt apos.atName
   let (f, first) <- holding [ov] (getMethod ov "__init__" pl)
   callWith cpos f first (backTo cpos (starEach [.Name x1 sp, e2] X.env)) (backToKw cpos (keywordEach [] X.env)))) AutoP.a3._auto_1) :
  PS X (.Expr (.Call (.Attribute (.Name "HeadError" np) "__init__" apos) [.Name x1 sp, e2] [] cpos) pos) (sBi C X.K f2) := by
 intro pins s σ H D I hh
 obtain ⟨e, x, d, z, hσ, hE, rx, hf, q⟩ := hh
 have ha : PA X [.Name x1 sp, e2] (zmy (tVar 0) (zmy (tD X.K cl X0 f2) tNil)) := zaH (zfo h0 hv hd hcd) (zaH he2.out zbU hst2) hst
 refine wpAny_Expr_any (Q := SP X pins D) (PySem.W.methodCall_KW (pl := pl) (zcj I hg hm ?_) ht) I.quiet hs
 refine PySem.W.method_cls I.kIn F.ga (PySem.W.cls_value I.kIn F.rd F.hi rfl ?_)
 have I0 := I.tok (s.toks + 1)
 have hA := ha cpos pins _ σ H (fun vs H1 => vs = [V.ref e, V.str z] /\ Same H H1) I0 ⟨V.ref e, by rw [hσ]; rfl, [], [none, some d], [], ⟨rfl, List.nodup_nil, fun k a o h => (nomatch h)⟩, ⟨by rw [hσ]; rfl, fun i d' hi => by
   match i, hi with
   | 1, hi => cases hi; exact ⟨x, by rw [hσ]; rfl, rx⟩⟩, by
  rw [hf]
  intro α2 H2 E2 W2 v rv
  rw [Rep] at rv
  subst rv
  exact ⟨rfl, fun a o h => E2.keep a o h (by simp)⟩⟩
 rw [hst] at hA ⊢
 refine Calls.callWith_builtin (by show (false || (backTo cpos (starEach [e2] X.env)).any (·.1)) = false; rw [hpl]; rfl) (Calls.evalArgs_plain (thn hA fun us s1 ⟨vs, H1, I1, r, hvs, sm⟩ => ?_))
 subst hvs
 cases r with
 | cons r1 r => cases r with
  | cons r2 r => cases r with
   | nil =>
    cases (show _ = Value.ref e from r1)
    have hE1 := sm _ _ hE
    obtain ⟨o, vs, x0, ho, hc, hdd, hdt, hv0, hv1⟩ := (I1.hok _ _ hE1).1
    obtain ⟨nm, qn, N, bs, sn, sub, ab, col, dd, k0, k1, k2, k3, k5, hC⟩ := F.cls
    refine ziw PySem.F.excBase_ValueError (PySem.W.tail_of_in I1.kIn F.tail) (I1.kIn _ _ hC) ho hc hdt hv0 (by show 1 <= sizeLine; decide) fun h' he' hk => ?_
    have e1 : upd H1 e (.ext (zeo (.ref C) none e)) = H1 := by
     funext b
     by_cases hb : b = e
     ·rw [hb, zap, hE1]
     ·rw [zal hb]
    have I2 := I1.write (x := e) (e := e) (o := .ext (zeo (.ref C) none e)) (t' := s1.toks) (h' := h') (by rw [hE1]; trivial) (.inl rfl) hk ⟨_, he'⟩ (zgp ⟨_, _, .ref s1.heap.objs.size, he', hc, hdd, rfl, by
     have := (Array.getElem?_eq_some_iff.mp hv0).1
     rw [Array.getElem?_setIfInBounds]; simp [this], by
     rw [Array.getElem?_setIfInBounds]; simpa using hv1⟩)
    rw [e1] at I2
    exact ⟨σ, H1, I2, q H1 sm⟩
def sRow (C : Addr) : TS := fun D σ H => ∃ e x, σ = [some (.ref e), some x] /\ H e = some (.ext (zeo (.ref C) none e)) /\ ∀ dx, H dx = none -> dx ≠ e -> D.nx σ (upd (upd H e (.ext (zeo (.ref C) (some dx) e))) dx (.xd [("row", x)]))
theorem ps_row (F : ExN X.K C HE fI) (h0 : X.N[0]? = some x1) (hv : Vis X.env.scope x1) (h1 : X.N[1]? = some x2) (hv2 : Vis X.env.scope x2) (hd : autoParam ((x1 == ("__debug__" : Str)) = false) AutoP.a1._auto_1) (hcd : autoParam ((x1 == ("__classdict__" : Str)) = false) AutoP.a1._auto_1) (hd2 : autoParam ((x2 == ("__debug__" : Str)) = false) AutoP.a1._auto_1) (hcd2 : autoParam ((x2 == ("__classdict__" : Str)) = false) AutoP.a1._auto_1)
  (hs : autoParam (swapsWith (.Name x2 p3) (some (.Attribute (.Name x1 p1) "row" p2)) pos.line X.env = pure false) AutoP.a3._auto_1) :
  PS X (.Assign [.Attribute (.Name x1 p1) "row" p2] (.Name x2 p3) pos) (sRow C) := by
 intro pins s σ H D I hh
 obtain ⟨e, x, hσ, hE, q⟩ := hh
 have pv : PE X (.Name x2 p3) (tVar 1) := zfo h1 hv2 hd2 hcd2
 have po : PE X (.Name x1 p1) (tVar 0) := zfo h0 hv hd hcd
 refine plainObj_wpAny_Assign_Attribute (thn (pv pins s σ H (fun y H1 => y = x /\ H1 = H) I ⟨x, by rw [hσ]; rfl, rfl, rfl⟩) fun u s1 ⟨y, H1, I1, ry, hy, hH⟩ => thn (po pins s1 σ H1 (fun y H2 => y = V.ref e /\ H2 = H) I1 ⟨V.ref e, by rw [hσ]; rfl, rfl, hH⟩) fun ov s2 ⟨y2, H2, I2, ry2, hy2, hH2⟩ => ?_) hs
 subst hy hy2 hH2
 cases (show ov = Value.ref e from ry2)
 obtain ⟨o, vs, x0, ho, hc, hdd, hdt, hv0, hv1⟩ := (I2.hok _ _ hE).1
 obtain ⟨nm, qn, N, bs, sn, sub, ab, col, dd, k0, k1, k2, k3, k5, hC⟩ := F.cls
 refine zkl PySem.F.store_ValueError (I2.kIn _ _ hC) I2.kIn ho hc hdt hdd F.sa F.ob F.row fun h' dx t' he' hnew ns hk => ?_
 have hn : H2 dx = none := I2.hok.none hnew
 have ne : dx ≠ e := fun z => by rw [z, ho] at hnew; cases hnew
 have nb : ∀ b o, s2.heap.get? b = some o -> b ≠ dx := fun b o q z => by rw [z, hnew] at q; cases q
 have oth : ∀ {b : Addr} {u : HO}, H2 b = some u -> b ≠ e -> upd (upd H2 e (.ext (zeo (.ref C) (some dx) e))) dx (.xd [("row", y)]) b = some u := fun {b u} z hb => by
  rw [zal (zan z hn), zal hb]; exact z
 have nee : ∀ {b : Addr}, H2 b = none -> b ≠ e := fun {b} z hb => by rw [hb, hE] at z; cases z
 refine ⟨σ, _, I2.un (t' := t') (h' := h') ⟨fun b o q n _ _ => hk b o (nee n) q, fun b o q n _ _ => ⟨_, hk b o (nee n) q⟩, fun b o q n _ => by rw [zal (nb b o q), zal (nee n)]; exact n, fun b o q _ => ?_, fun b xs q => oth q (fun z => by rw [z, hE] at q; cases q), fun b o u q => oth q (fun z => by rw [z, hE] at q; cases q), fun b ps q => ⟨#[], by rw [oth q (fun z => by rw [z, hE] at q; cases q)]; simp⟩⟩ (fun b u q => ?_), q dx hn ne⟩
 ·by_cases hb : b = e
  ·rw [hb]; exact ⟨_, he'⟩
  ·exact ⟨_, hk b o hb q⟩
 ·by_cases hb : b = dx
  ·subst hb
   rw [zap] at q
   cases q
   refine ⟨_, ns, fun f => ?_⟩
   rw [List.lookup_cons]
   by_cases hf : f = "row"
   ·subst hf
    simp
    exact ry
   ·rw [show (f == ("row" : Str)) = false by simpa using hf]
    simp [hf]
    trivial
  ·rw [zal hb] at q
   by_cases he : b = e
   ·subst he
    rw [zap] at q
    cases q
    exact zgp ⟨_, vs, x0, he', hc, rfl, hdt, hv0, hv1⟩
   ·rw [zal he] at q
    refine (I2.hok b u q).stay (fun c v hc z => ?_) (fun c z => oth z (fun z' => by rw [z', hE] at z; cases z)) fun c xs z => oth z (fun z' => by rw [z', hE] at z; cases z)
    refine hk c v (fun z' => ?_) z
    rcases hc with rfl | hc
    ·exact he z'
    ·rw [z', hE] at hc; cases hc
end
theorem ncall {prog : Program} {w : World} {A : Around} {E : Value -> Shared -> Prop} {s : Shared} {nm q : Str} {C N : Addr} {bs bm bmB : List Value} {hdct : Bool} {sn : List Str} {sub : List Value} {ab : Bool} {col : Option Bool} {dd : Option Addr} {k0 k1 k2 k3 k5 : Option Value} {B newId initId : String} (F : ExcBaseFacts B newId initId bmB) (T : OwnTail s.heap bmB bm) {K : PySem.W.Frag} {fI : Addr} {rest : List Value} {Q : Value -> Shared -> Prop} (hC : s.heap.get? C = some (excClassObj nm q C N bs bm hdct sn sub ab col dd k0 k1 k2 k3 k5 newId)) (kin : K.In s.heap)
  (hfi : PySem.W.findIn K (.ref C) "__init__" = some (some (.ref fI))) (hft : PySem.W.typeIn K (.ref fI) = some (.type "function")) (hl : rest.length <= sizeLine)
  (k : ∀ h' e, s.heap.MadeExcOf h' e (.ref C) rest -> wpAny (model prog w) (A.under (.builtin "type.__call__" ⟨.ref C :: rest, []⟩)) (call (.ref fI) (.ref e :: rest)) (fun r s' => r = .none /\ Q (.ref e) s') E { s with heap := h' }) : wpAny (model prog w) A (call (.ref C) rest) Q E s := by
 refine wpAny_call (codeAny_of_tree ?_)
 obtain ⟨h, g, d, t, os⟩ := s
 refine wpAny_bind (wpAny_load' hC ?_)
 show wpAny _ _ (callAny.viaDunder (.ref C) { pos := rest }) _ _ _
 unfold callAny.viaDunder
 refine wpAny_bind (wpAny_specialOf (s := ⟨h, g, d, t, os⟩) (v := .ref C) (T := "type") ⟨_, hC, rfl⟩ tc_lookup ?_)
 refine wpAny_bind (wpAny_of_eq (tc_bind _) (wpAny_pure ?_))
 exact ⟨rfl, codeAny_call_builtin_at (Code.quiet_builtin _ (by decide +kernel)) entry_typeCall (wpAny_check_type_call_sub hC (zhX (s := ⟨h, g, d, t, os⟩) F T hC kin hfi hft hl k))⟩
theorem zh4 {M : Model} {A : Around} {E : Value -> Shared -> Prop} {s : Shared} {env : Env} {x : Sem Value} {nm q : Str} {C N : Addr} {bs bm : List Value} {hdct : Bool} {sn : List Str} {sub : List Value} {ab : Bool} {col : Option Bool} {dd : Option Addr} {k0 k1 k2 k3 k5 : Option Value} {newId : String} {Q : Flow -> Shared -> Prop} (hb : bm.contains (.type "BaseException") = true) (hh : A.handled = none)
  (h : wpAny M A x (fun v s1 => ∃ e o vs, v = .ref e /\ s1.heap.get? C = some (excClassObj nm q C N bs bm hdct sn sub ab col dd k0 k1 k2 k3 k5 newId) /\ s1.heap.get? e = some o /\ o.cls = .ref C /\ o.data = .fields vs /\ vs[1]? = some .none /\ E (.ref e) s1) E s) : wpAny M A (raiseStmt env (some x) none) Q E s := by
 unfold raiseStmt
 refine wpAny_bind (wpAny_mono h (fun v s1 ⟨e, o, vs, hv, hC, ho, hc, hd, h1, hE⟩ => ?_) fun _ _ z => z)
 subst hv
 obtain ⟨h, g, d, t, os⟩ := s1
 refine wpAny_bind (wpAny_pure ?_)
 refine wpAny_bind (wpAny_holding ?_)
 unfold excFromValue isExcClass isType
 refine wpAny_bind (wpAny_bind (wpAny_bind (wpAny_loadPart_at ho ?_)))
 simp only [hd]
 refine wpAny_pure ?_
 refine wpAny_ite_false rfl (wpAny_pure ?_)
 refine wpAny_ite_false rfl ?_
 unfold isInstance
 refine wpAny_bind (wpAny_bind (wpAny_typeOf_ref ho ?_))
 rw [hc]
 refine wpAny_isSubtype_exc hC ?_
 rw [show (Value.ref C :: bm).contains (.type "BaseException") = true by rw [List.contains_cons, hb, Bool.or_true]]
 refine wpAny_ite_true rfl (wpAny_pure ?_)
 refine wpAny_bind (wpAny_bind (wpAny_loadPart_at ho ?_))
 simp only [hd]
 refine wpAny_pure ?_
 refine wpAny_ite_false rfl ?_
 unfold raisedInstance
 refine wpAny_bind (wpAny_bind (wpAny_typeOf_ref ho ?_))
 rw [hc]
 refine wpAny_bind (wpAny_typeOf_ref hC ?_)
 refine wpAny_ite_true rfl (wpAny_pure ?_)
 unfold setFlight
 refine wpAny_bind (wpAny_bind (wpAny_field ho hd h1 ?_))
 refine wpAny_ite_false rfl (wpAny_pure ?_)
 exact wpAny_raiseNew_none hh hE
end L2
set_option autoImplicit false
namespace MD
open PySem PySem.Spec PyProof.Rows L2
def zcr (d : D) : Bool := match d with
 | .non => true
 | .int i => decide (i.natAbs.log2 < 1920 /\ (Str.empty ++ ("not so written at row " : Str) ++ (toString i : Str)).length <= sizeLine)
 | _ => false
def spN (K : PySem.W.Frag) (C : Addr) : Sp := fun vs H Q _ => ∃ e x d, vs = [.ref e, x] /\ H e = some (.ext (zeo (.ref C) none e)) /\ Rep K [] H d x /\ zcr d = true /\ ∀ H1 dx, Same H H1 -> H1 dx = none -> dx ≠ e -> Q .non (upd (upd H1 e (.ext (zeo (.ref C) (some dx) e))) dx (.xd [("row", x)]))
structure FnN (P : Program) (w : World) (K : PySem.W.Frag) (mg : Str -> Option Value) (base : Heap) (cl : Str -> Addr) (k : Nat) : Prop where
 ex : ∃ (HE fI : Addr) (fd : FuncData) (ps : List Str), ExN K (cl "NoText") HE fI /\ Binds K fd ps [] /\ FnOk P w K mg base CX0 k fI fd ps (spN K (cl "NoText"))
theorem FnN.mk' {P : Program} {w : World} {K : PySem.W.Frag} {mg : Str -> Option Value} {base : Heap} {cl : Str -> Addr} {x qual : Str} {st s1 s2 : Stmt} {f HE : Addr} {fd : FuncData} {k : Nat} {N : List Str} {f2 : EV} (F : Fun K x qual st f fd) (b : Binds K fd ["self", "row"] []) (E : ExN K (cl "NoText") HE f) (S : FnScope N ["self", "row"] (zah st)) (hN : N.length = 2) (hb : za0 st = [s1, s2])
  (h : ∀ (cdv : Value) (A : Around) (outer : List PySem.Env) (s : Shared) (H : Hp) (E : XK), Room k (A.deeper (envOfC qual (zah st) s.heap.objs.size f cdv)) -> PS (zfQ CX0 P w K mg base N qual (zah st) f cdv A outer s H E).nox s1 (sBi (cl "NoText") K f2) /\ PS (zfQ CX0 P w K mg base N qual (zah st) f cdv A outer s H E).nox s2 (sRow (cl "NoText")))
  (ok : ∀ d, zcr d = true -> ∃ z, f2 [none, some d] [] = .ok (.str z) []) : FnN P w K mg base cl (k + 1) :=
 ⟨HE, f, fd, _, E, b, F.ok S (fun vs H Q E h => by obtain ⟨_, _, _, rfl, _⟩ := h; rfl) fun cdv A outer s H vs Q E hr q => by
  obtain ⟨h1, h2⟩ := h cdv A outer s H E hr
  rw [hb]
  refine ⟨_, zhi h1 (zjm h2), ?_⟩
  obtain ⟨e, x, d, rfl, hE, rx, hd, q⟩ := q
  obtain ⟨z, hz⟩ := ok d hd
  have hs : L2.start N [V.ref e, x] = [some (.ref e), some x] := by unfold L2.start; rw [hN]; rfl
  exact ⟨e, x, d, z, hs, hE, rx, hz, fun H1 sm => ⟨e, x, hs, sm _ _ hE, fun dx hn ne => q H1 dx sm hn ne⟩⟩⟩
def zk0 (fr : AV) : SV := fun ρ m => (fr ρ m).bind fun ds m1 => match ds with
 | [d] => if zcr d = true then .exc ⟨"NoText", [d]⟩ m1 else .bad
 | _ => .bad
theorem zjb {K : PySem.W.Frag} {α β : List Addr} {H H' : Hp} {d : D} {x : V} (h : zcr d = true) (r : Rep K α H d x) : Rep K β H' d x := by
 cases d with
 | non => rw [Rep] at r ⊢; exact r
 | int i => rw [Rep] at r ⊢; exact r
 | _ => cases h
section
variable {X : Cx} {cl : Str -> Addr} {e : Expr} {fr : AV} {np cpos pos : Pos} {k : Nat}
theorem zjR {pins : List (Addr × Obj)} {σ : L2.St} {H : Hp} {s : Shared} {C : Value} {a : Addr} {h' : Heap} {args : List Value} (I : Inv X pins σ H s) (hm : s.heap.MadeExcOf h' a C args) : H a = none /\ Inv X pins σ (upd H a (.ext (zeo C none a))) { s with heap := h' } := by
 obtain ⟨hn, I1, _⟩ := zlr I hm
 refine ⟨hn, ?_⟩
 obtain ⟨t, he, _⟩ := hm.there
 have := I1.write (x := a) (e := a) (o := .ext (zeo C none a)) (t' := s.toks) (h' := h') (by rw [zap]; trivial) (.inl rfl) (fun b u _ q => q) ⟨_, he⟩ (zgp ⟨_, _, .ref t, he, rfl, rfl, rfl, rfl, rfl⟩)
 rw [show upd (upd H a (.ext (zkM C none a))) a (.ext (zeo C none a)) = upd H a (.ext (zeo C none a)) by
  funext b
  by_cases hb : b = a
  ·rw [hb, zap, zap]
  ·rw [zal hb, zal hb, zal hb]] at this
 exact this
theorem ze3 (hx : X.xe = fun _ _ => False) (hc : X.calm = true) (h : FnN X.prog X.w X.K X.mg X.base cl k) (hns : PySem.W.nsIn X.K mainGlobals "NoText" = some (some (.ref (cl "NoText")))) (hkp : PySem.W.keepIn X.K (.ref (cl "NoText")) = true) (hr : Room (k + 1) X.A) (hg : Gl X "NoText") (ha : QA X cl X0 [e] fr)
  (he : autoParam (starEach [e] X.env = (false, eval e X.env) :: starEach [] X.env) AutoP.a3._auto_1) (hpl : autoParam ((backTo cpos (starEach [] X.env)).any (·.1) = false) AutoP.a3._auto_1) : YB X cl (.Raise (some (.Call (.Name "NoText" np) [e] [] cpos)) none pos) (zk0 (aPu fr)) := ⟨fun pins s σ H D W I hh => by
 obtain ⟨HE, fI, fd, ps, EN, hb, hF⟩ := h.ex
 have hm : X.mg "NoText" = some (.ref (cl "NoText")) := PySem.W.mg_of I.mod.kin I.mod.glob hns
 obtain ⟨nm, qn, N, bs, sn, sub, ab, col, dd, k0, k1, k2, k3, k5, hC⟩ := EN.cls
 rw [arm_exec_Raise]
 refine wpAny_bind (wpAny_standAt ?_)
 refine zh4 (C := cl "NoText") (bm := .ref HE :: bmV) (nm := nm) (q := qn) (N := N) (bs := bs) (hdct := true) (sn := sn) (sub := sub) (ab := ab) (col := col) (dd := dd) (k0 := k0) (k1 := k1) (k2 := k2) (k3 := k3) (k5 := k5) (newId := "ValueError.__new__") (by rw [List.contains_cons, show bmV.contains (.type "BaseException") = true by decide +kernel, Bool.or_true]) (I.ok.hd hc) ?_
 refine wpAny_bind ?_
 refine wpAny_Call_Name_kw (zcj I hg hm ?_ (by decide))
 refine PySem.W.callWith_K (h₀ := X.base) I.ok.mod.kin hkp (wpAny_mono (ha.out cpos pins s σ H (fun vs H1 => ∃ α1 m1 d x, Wd X.K cl α1 m1 H1 /\ vs = [x] /\ Rep X.K α1 H1 d x /\ zcr d = true /\ ∀ α2 H2, Ext α1 H1 α2 H2 -> Wd X.K cl α2 m1 H2 -> W ⟨"NoText", [d]⟩ α2 m1 H2) I ?_) (fun us s1 ⟨vs, H1, I1, r, α1, m1, d, x, w1, hvs, rx, hrow, q⟩ => ⟨I1.kIn, ?_⟩) fun _ _ z => by rw [hx] at z; exact z.elim) he hpl
 ·refine ex3 hh fun α ρ m W0 hr h => ?_
  have h' : PQ X.K cl W ((aPu fr ρ m).bind fun ds m1 => (match ds with
   | [d] => if zcr d = true then (.exc ⟨"NoText", [d]⟩ m1 : Res Fl) else .bad
   | _ => .bad)) α H _ := h
  unfold aPu at h'
  cases hf : fr ρ m with
  | bad => rw [hf] at h'; exact h'.elim
  | exc c m1 => rw [hf] at h'; exact h'.elim
  | ok ds m1 =>
   rw [hf] at h'
   match ds, hf, h' with
   | [], _, h' => exact h'.elim
   | _ :: _ :: _, _, h' => exact h'.elim
   | [d], hf, h' =>
    by_cases hro : zcr d = true
    ·have h2 : PQ X.K cl W (if zcr d = true then (.exc ⟨"NoText", [d]⟩ m1 : Res Fl) else .bad) α H _ := h'
     rw [if_pos hro] at h2
     refine tDA.at W0 hr hf fun α1 H1 v E1 W1 hr1 rv => ?_
     rw [RepL] at rv
     obtain ⟨x, xs, rfl, rx, rr⟩ := rv
     rw [RepL] at rr
     subst rr
     exact ⟨α1, m1, d, x, W1, rfl, rx, hro, fun α2 H2 E2 W2 => h2 α2 H2 (E1.trans E2) W2⟩
    ·have h2 : PQ X.K cl W (if zcr d = true then (.exc ⟨"NoText", [d]⟩ m1 : Res Fl) else .bad) α H _ := h'
     rw [if_neg hro] at h2
     exact h2.elim
 ·subst hvs
  refine ncall PySem.F.excBase_ValueError (PySem.W.tail_of_in I1.kIn EN.tail) (I1.kIn _ _ hC) I1.kIn EN.ini EN.fn (by rw [List.nil_append, <- r.length]; show 1 <= sizeLine; decide) fun h' a hmade => ?_
  obtain ⟨hn, I2⟩ := zjR I1 hmade
  have r2 : Vals [V.ref a, x] (.ref a :: us) := .cons rfl r
  have hsp : spN X.K (cl "NoText") [.ref a, x] (upd H1 a (.ext (zeo (.ref (cl "NoText")) none a))) (fun v H3 => v = .non /\ ∃ H2 dx, Same (upd H1 a (.ext (zeo (.ref (cl "NoText")) none a))) H2 /\ H2 dx = none /\ dx ≠ a /\ H3 = upd (upd H2 a (.ext (zeo (.ref (cl "NoText")) (some dx) a))) dx (.xd [("row", x)])) E0 :=
   ⟨a, x, d, rfl, zap, zjb hrow rx, hrow, fun H2 dx sm hd ne => ⟨rfl, H2, dx, sm, hd, ne, rfl⟩⟩
  have hl : (Value.ref a :: us).length = ps.length := by rw [<- r2.length]; exact hF.len _ _ _ _ hsp
  refine wpAny_call (codeAny_mono (hF.run _ X.stack _ _ ⟨.ref a :: us, []⟩ (.ref a :: us) _ _ E0 (hr.make (cl "NoText") us []) (I2.env0.make (cl "NoText") us []) (by have := hb { s1 with heap := h' } (.ref a :: us) I2.kIn (by simpa using hl); simpa using this) r2 hsp) fun rr s' hq => ?_)
  cases rr with
  | error v => exact hq.elim
  | ok fl =>
   cases fl with
   | next => exact False.elim hq
   | brk => exact False.elim hq
   | cont => exact False.elim hq
   | ret u =>
    obtain ⟨v, H3, I3, rv, hv, H2, dx, sm, hdx, nd, hH⟩ := I2.after hq
    subst hv hH
    refine ⟨rv, ?_⟩
    refine wpAny_bind (wpAny_standAt (wpAny_pure ?_))
    have hat : upd (upd H2 a (.ext (zeo (.ref (cl "NoText")) (some dx) a))) dx (.xd [("row", x)]) a = some (.ext (zeo (.ref (cl "NoText")) (some dx) a)) := by rw [zal (Ne.symm nd), zap]
    obtain ⟨o, vs, x0, ho, hoc, hod, hdt, hv0, hv1⟩ := (I3.hok _ _ hat).1
    refine ⟨a, o, vs, rfl, I3.kIn _ _ hC, ho, hoc, hdt, hv1, ?_⟩
    have I4 := I3.write (x := a) (e := a) (o := .ext (zkM (.ref (cl "NoText")) (some dx) a)) (t' := s'.toks) (h' := s'.heap) (by rw [hat]; trivial) (.inl rfl) (fun b u _ q => q) ⟨_, ho⟩ (zjB ⟨o, vs, ho, hoc, hod, hdt⟩)
    have sm2 : Same H1 (upd (upd (upd H2 a (.ext (zeo (.ref (cl "NoText")) (some dx) a))) dx (.xd [("row", x)])) a (.ext (zkM (.ref (cl "NoText")) (some dx) a))) := fun b u hbu => by
     have nba : b ≠ a := fun z => by rw [z, hn] at hbu; cases hbu
     have h2 : H2 b = some u := sm b u (by rw [zal nba]; exact hbu)
     rw [zal nba, zal (zan h2 hdx), zal nba]
     exact h2
    have Es := Ext.of_same w1 sm2
    refine ⟨a, _, ⟨"NoText", [d]⟩, α1, m1, rfl, I4, ⟨some dx, [x], hns, ⟨zap, o, vs, ho, hoc, hod, hdt, .inl hv1⟩, .inr ⟨dx, x, rfl, rfl, ?_⟩, ?_⟩, w1.same sm2, fun α2 H4 E2 W2 => q α2 H4 (Es.trans E2) W2⟩
    ·rw [zal nd, zap]
    ·rw [RepL]
     exact ⟨x, [], rfl, zjb hrow rx, by rw [RepL]⟩⟩
end
end MD
set_option autoImplicit false
namespace L2
open PySem PySem.Spec PyProof.Rows MD
theorem znx {es : Array DictEntry} {ep : Nat} {v : Value} {name : Str} {o : Obj} (hd : o.data = .dict es ep) (h : nsFind es name = some v) : PySem.W.lookIn name o = some (some v) := by
 unfold nsFind findBy at h
 unfold PySem.W.lookIn
 rw [hd]
 obtain ⟨a, ha, rfl⟩ := Option.map_eq_some_iff.mp h
 simp only [← Array.find?_toList] at ha
 simp only [ha]
theorem znR {prog : Program} {w : World} {A : Around} {E : Value -> Shared -> Prop} {s : Shared} {K : PySem.W.Frag} {e C : Addr} {oe od : Obj} {name : Str} {v : Value} {ex : Bool} {Q : Value -> Shared -> Prop} (kin : K.In s.heap) (F : ExA K C) (hdc : PySem.W.hasDictIn K C = true) (hrow : PySem.W.findIn K (.ref C) name = some none) (hi : PySem.W.InstAt s.heap e oe C (some od)) (hl : PySem.W.lookIn name od = some (some v)) (hv : handedOut v = pure v) (q : Q v { s with toks := s.toks + 1 }) : wpAny (model prog w) A (getAttr (.ref e) name ex) Q E s := by
 have he := hi.at_
 have hc := hi.cls
 have hf : PySem.W.findObj K C (some od) name = some (.value v) := by
  unfold PySem.W.hasDictIn at hdc
  cases hcd : PySem.W.clsIn K C with
  | none => rw [hcd] at hdc; cases hdc
  | some cd =>
  rw [hcd] at hdc
  have hd : cd.hasDict = true := hdc
  unfold PySem.W.findObj PySem.W.ownOf
  rw [hcd, Option.bind_some, hrow]
  simp [hd, hl]
 unfold getAttr
 refine wpAny_bind (wpAny_mkText ?_)
 unfold getAttrBy
 refine wpAny_holding ?_
 refine wpAny_bind (wpAny_typeOf_ref (s := { s with toks := s.toks + 1 }) he ?_)
 rw [hc]
 refine wpAny_bind (Looks.go (PySem.W.looks_findIn (h := s.heap) kin F.ga) ?_)
 show wpAny (model prog w) A (getAttrByItsOwn _ _ _ _ _ _) _ _ _
 unfold getAttrByItsOwn
 refine wpAny_bind (Looks.go (PySem.W.looks_hook (h := s.heap) kin (r := none) F.no) ?_)
 refine wpAny_bind (wpAny_attempt (wpAny_holding ?_))
 unfold callGetattribute
 refine wpAny_ite_false (by simp [onTheHeap]) ?_
 unfold boundAndCalled
 rw [PySem.F.attrBase_ValueError.toExcAttrFacts.ga.bind]
 refine wpAny_bind (wpAny_pure ?_)
 have ha := zke (.ref e) (.str name s.toks)
 refine wpAny_call (pos := [.ref e, .str name s.toks]) (codeAny_call_builtin PySem.F.attrBase_ValueError.toExcAttrFacts.ga.plain zhu ?_)
 refine PySem.W.check_slot (s := { s with toks := s.toks + 1 }) (i := "BaseException.__getattribute__") (owner := "BaseException") (n := "__getattribute__") (self := .ref e) (rest := [.str name s.toks]) (kw := []) zkd zht ?_ ha ?_
 ·refine fun A Q E s1 hs q => ?_
  unfold isInstance
  refine wpAny_bind (wpAny_typeOf_ref (hs _ _ hi.at_) ?_)
  rw [hi.cls]
  exact PySem.W.looks_subIn kin F.sub A Q E s1 hs q
 ·unfold Builtin.«object.__getattribute__»
  refine wpAny_bind (wpAny_pure ?_)
  refine wpAny_bind (wpAny_pure ?_)
  refine wpAny_bind (wpAny_typeOf_ref (s := { s with toks := s.toks + 1 }) hi.at_ ?_)
  rw [hi.cls]
  refine wpAny_bind (Looks.go (s := { s with toks := s.toks + 1 }) (PySem.W.looks_find (h := s.heap) kin hi hf) ?_)
  refine wpAny_pure ?_
  show wpAny (model prog w) A (handedOut v) _ _ _
  exact wpAny_of_eq hv q
end L2
namespace MD
open PySem PySem.Spec PyProof.Rows L2
def rowD (d : D) (m : Sto) : Res D := match d with
 | .exn c [x] => if c = "NoText" /\ zcr x = true then .ok x m else .bad
 | _ => .bad
section
variable {X : Cx} {cl : Str -> Addr} {ex : XD} {es rs : List Str} {e : Expr} {fa : EV} {pos : Pos}
theorem ziq {d : D} {x : V} {u : Value} {K : PySem.W.Frag} {α : List Addr} {H : Hp} (h : zcr d = true) (r : Rep K α H d x) (ru : RelV x u) : handedOut u = pure u := by
 cases d with
 | non => rw [Rep] at r; subst r; cases ru; rfl
 | int i => rw [Rep] at r; subst r; obtain ⟨t, rfl⟩ := ru; rfl
 | _ => cases h
theorem qe_row (T : TxE X.K cl es rs) (hc : ("NoText" : Str) ∈ es) (hdc : PySem.W.hasDictIn X.K (cl "NoText") = true) (hrow : PySem.W.findIn X.K (.ref (cl "NoText")) "row" = some none) (he : QE X cl ex e fa) (hb : autoParam (attributeBase e "row" X.env (eval e X.env) = eval e X.env) AutoP.a3._auto_1) : QE X cl ex (.Attribute e "row" pos) (eUn rowD fa) :=
 ⟨fun pins s σ H Q I hh => znX hb (thn (he.out pins s σ H (fun v H1 => ∃ (α1 : List Addr) (d : D), Rep X.K α1 H1 (.exn "NoText" [d]) v /\ zcr d = true /\ ∀ y, Rep X.K α1 H1 d y -> Q y H1) I (ex3 hh fun α ρ m W hr h => tD.use W hr h fun α1 m1 H1 d v E1 W1 hr1 rv h1 => by
  unfold rowD at h1
  split at h1
  ·rename_i c x
   by_cases hcx : c = "NoText" /\ zcr x = true
   ·rw [if_pos hcx] at h1
    obtain ⟨rfl, hx⟩ := hcx
    exact ⟨α1, x, rv, hx, fun y ry => PQ.ok W1 h1 y ry⟩
   ·rw [if_neg hcx] at h1
    exact h1.elim
  ·exact h1.elim)) fun u s1 ⟨v, H1, I1, ru, α1, d, rv, hro, q⟩ => by
  rw [Rep] at rv
  obtain ⟨a, C, dd, xs, rfl, hns, hH, hxd, hrl⟩ := rv
  rw [T.ns _ hc] at hns
  cases hns
  cases (show u = Value.ref a from ru)
  obtain ⟨⟨o, vs, ho, h1, h2, h3⟩, _⟩ := I1.hok a _ hH
  rw [RepL] at hrl
  obtain ⟨y, ys, rfl, ry, hr2⟩ := hrl
  rcases hxd with ⟨rfl, z⟩ | ⟨dx, x, rfl, hxs, hx⟩
  ·cases z
  ·cases hxs
   obtain ⟨mA, ⟨od, es, ep, ho2, hd2, sk, uk, nf⟩, hrel⟩ := I1.hok dx _ hx
   have hrr := hrel "row"
   rw [List.lookup_cons_self] at hrr
   cases hm : mA "row" with
   | none => rw [hm] at hrr; exact hrr.elim
   | some uv =>
    rw [hm] at hrr
    exact znR I1.kIn (T.exa hc) hdc hrow ⟨ho, h1, by unfold PySem.W.notCls; rw [h3], by rw [h2]; exact ho2⟩ (znx hd2 ((nf "row").trans hm)) (ziq hro ry hrr) ⟨y, H1, I1.tok _, hrr, q y ry⟩)⟩
end
structure TxN (K : PySem.W.Frag) (cl : Str -> Addr) : Prop where
 ns : PySem.W.nsIn K mainGlobals "NoText" = some (some (.ref (cl "NoText")))
 kp : PySem.W.keepIn K (.ref (cl "NoText")) = true
 hd : PySem.W.hasDictIn K (cl "NoText") = true
 row : PySem.W.findIn K (.ref (cl "NoText")) "row" = some none
theorem znQ {K : PySem.W.Frag} {C HE : Addr} (h : exnA K C HE = true) : ∃ nm q N bs sn sub ab col dd k0 k1 k2 k3 k5, K.lookup C = some (excClassObj nm q C N bs (.ref HE :: bmV) true sn sub ab col dd k0 k1 k2 k3 k5 "ValueError.__new__") := by
 unfold exnA at h
 split at h
 ·rename_i dd cd k0 k1 k2 k3 n k5 hl
  split at h
  ·rename_i C' E' bm hm
   simp only [Bool.and_eq_true, beq_iff_eq, Bool.not_eq_true'] at h
   obtain ⟨⟨⟨⟨⟨h1, h2⟩, h3⟩, h4⟩, h5⟩, h6⟩ := h
   have e1 := Nat.eq_of_beq_eq_true h1
   have e2 := Nat.eq_of_beq_eq_true h2
   subst e1 e2 h3 h4
   obtain ⟨nm, bs, mro, N, q, hd, sn, sub, ab, col, del⟩ := cd
   simp only at hm h5 h6
   subst hm h5 h6
   exact ⟨nm, q, N, bs, sn, sub, ab, col, dd, k0, k1, k2, k3, k5, hl⟩
  ·cases h
 ·cases h
theorem exn_of {K : PySem.W.Frag} {C HE f : Addr} (h : exnB K C HE f = true) : ExN K C HE f /\ PySem.W.keepIn K (.ref C) = true /\ PySem.W.hasDictIn K C = true /\ PySem.W.findIn K (.ref C) "row" = some none := by
 unfold exnB at h
 simp only [Bool.and_eq_true, beq_iff_eq] at h
 obtain ⟨⟨⟨⟨⟨⟨⟨⟨⟨⟨⟨⟨h1, h2⟩, h3⟩, h4⟩, h5⟩, h6⟩, h7⟩, h8⟩, h9⟩, h10⟩, h11⟩, h12⟩, h13⟩ := h
 refine ⟨⟨znQ h1, h2, h3, h4, h5, h6, h7, h8, h9, h10, ?_⟩, h12, h13, h8⟩
 split at h11
 ·rename_i v hv
  rw [hv, eq_of_beq h11]
 ·cases h11
def f2N : EV := (eIf (tV (eOp isD (zae 1) (eC .non))) (eC (.str "not so written")) (eCat Str.empty [(eC (.str "not so written at row ")), (eUn fmtD (zae 1))]))
theorem f2N_ok (d : D) (h : zcr d = true) : ∃ z, f2N [none, some d] [] = .ok (.str z) [] := by
 cases d with
 | non => exact ⟨_, rfl⟩
 | int i =>
  have h' := of_decide_eq_true h
  refine ⟨Str.empty ++ ("not so written at row " : Str) ++ (toString i : Str), ?_⟩
  show (if (Str.empty ++ ("not so written at row " : Str)).length <= sizeLine then Res.bind (if i.natAbs.log2 < 1920 then (.ok (.str (toString i)) [] : Res D) else .bad) _ else .bad) = _
  rw [if_pos (by decide), if_pos h'.1]
  show (if (Str.empty ++ ("not so written at row " : Str) ++ (toString i : Str)).length <= sizeLine then (if (Str.empty ++ ("not so written at row " : Str) ++ (toString i : Str)).length <= sizeLine then (.ok (.str (Str.empty ++ ("not so written at row " : Str) ++ (toString i : Str))) [] : Res D) else .bad) else .bad) = _
  rw [if_pos h'.2, if_pos h'.2]
 | _ => cases h
theorem sco {N P : List Str} {sc : Scope} (a : autoParam (sc.kind = .function) AutoP.a3._auto_1) (b : autoParam (sc.isCoroutine = false) AutoP.a3._auto_1) (c : autoParam (sc.isGenerator = false) AutoP.a3._auto_1) (d : autoParam (N.Nodup) AutoP.a6._auto_1) (e : autoParam (N.take P.length = P) AutoP.a3._auto_1)
  (f : autoParam (∀ x ∈ P, sc.names.lookup x = some .local ∨ sc.names.lookup x = some .cell) AutoP.a6._auto_1) (g : autoParam (∀ y ∈ sc.names, y.2 ≠ .free) AutoP.a6._auto_1) : FnScope N P sc := ⟨a, b, c, d, e, f, g⟩
theorem qxi {X : Cx} {cl : Str -> Addr} {ex : XD} {a b : Expr} {fa fb : EV} {pos : Pos} {k : Nat} (hr : Room k X.A) (ha : QE X cl ex a fa) (hb : QE X cl ex b fb) (hs : autoParam (ze2 b) AutoP.a7._auto_1) : QE X cl ex (.Subscript a b pos) (eOp ixD fa fb) :=
 qe_ix (ix_A (znJ hr)) od_ix ha hb hs
theorem qfn {X : Cx} {cl : Str -> Addr} {e : Expr} {es : List Expr} {fr : AV} {p pos : Pos} {x : Str} {k n j : Nat} {g : List D -> Sto -> Res D} (h : FnX X.prog X.w X.K X.mg X.base cl x k n g) (hr : Room j X.A)
  (ha : QA X cl X0 (e :: es) fr) (hn : autoParam (n = (e :: es).length) AutoP.a3._auto_1) (hk : autoParam (k <= j) AutoP.a1._auto_1) (hg : autoParam (Gl X x) AutoP.a3._auto_1) (hlen : autoParam (∀ ρ m ds m1, fr ρ m = .ok ds m1 -> ds.length = (e :: es).length) AutoP.a8._auto_1) (hdb : autoParam ((x == ("__debug__" : Str)) = false) AutoP.a1._auto_1) (he : autoParam (starEach (e :: es) X.env = (false, eval e X.env) :: starEach es X.env) AutoP.a3._auto_1) (hpl : autoParam ((backTo pos (starEach es X.env)).any (·.1) = false) AutoP.a3._auto_1) :
  QE X cl X0 (.Call (.Name x p) (e :: es) [] pos) (eFn g fr) := qe_fn h hn (hr.mono hk) hg ha hlen hdb he hpl
theorem mkx (P : Program) (w : World) (base : Heap) (cl : Str -> Addr) (k : Nat) {K : PySem.W.Frag} {mg : Str -> Option Value} {x qual : Str} {st : Stmt} {f : Addr} {fd : FuncData} {N ps : List Str} {body : SV} (F : Fun K x qual st f fd) (b : Binds K fd ps []) (m : mg x = some (.ref f)) (S : FnScope N ps (zah st))
  (h : ∀ (cdv : Value) (A : Around) (outer : List PySem.Env) (s : Shared) (H : Hp) (E : XK), Room k (A.deeper (envOfC qual (zah st) s.heap.objs.size f cdv)) -> QSs (zfQ CX0 P w K mg base N qual (zah st) f cdv A outer s H E).nox cl X0 (za0 st) body) : FnX P w K mg base cl x (k + 1) ps.length (zbR N.length body) := FnX.mk' F b m S rfl h
theorem _root_.L2.Fun.bindA {K : PySem.W.Frag} {x qual : Str} {st : Stmt} {f : Addr} {fd : FuncData} {ps : List Str} (F : Fun K x qual st f fd)
  (h : ∀ (kV doc pm : Value) (an : Option Addr) (cdv ct : Value) (us : List Value), us.length = ps.length -> bindArgs (PySem.W.fnOf x qual (zcQ st) (za0 st) (zah st) .none kV doc pm an cdv ct) ⟨us, []⟩ = pure (ps.zip us) := by intro _ _ _ _ _ _ us hl; first | (obtain rfl := us0 hl; rfl) | (obtain ⟨_, rfl⟩ := us1 hl; rfl) | (obtain ⟨_, _, rfl⟩ := us2 hl; rfl) | (obtain ⟨_, _, _, rfl⟩ := us3 hl; rfl) | (obtain ⟨_, _, _, _, rfl⟩ := us4 hl; rfl) | (obtain ⟨_, _, _, _, _, rfl⟩ := us5 hl; rfl) | (obtain ⟨_, _, _, _, _, _, rfl⟩ := us6 hl; rfl)) : Binds K fd ps [] := F.binds h
end MD
namespace Mth
end Mth
set_option autoImplicit false
namespace MD
open PySem L2
end MD
set_option autoImplicit false
namespace MD
open PySem PySem.Spec PyProof.Rows L2
theorem zhp {a : Addr} {o : Obj} : ∀ {K : PySem.W.Frag}, K.lookup a = some o -> (a, o) ∈ K
 | [], h => nomatch h
 | (b, u) :: K, h => by
  rw [List.lookup_cons] at h
  cases hb : a == b with
  | true =>
   rw [hb] at h
   cases h
   rw [eq_of_beq hb]
   exact List.mem_cons_self
  | false =>
   rw [hb] at h
   exact List.mem_cons_of_mem _ (zhp h)
theorem Kof_in (n : Nat) (h : Heap) : (Kof n h).In h := fun a o e => by
 obtain ⟨b, _, hb⟩ := List.mem_filterMap.mp (zhp e)
 obtain ⟨u, hu, e2⟩ := Option.map_eq_some_iff.mp hb
 cases e2
 exact hu
theorem fun_of {K : PySem.W.Frag} {f : Addr} {x q : Str} {st : Stmt} (h : fnV K f = (some (x, q, zcQ st, za0 st, zah st), true)) : ∃ fd, Fun K x q st f fd := by
 unfold fnV at h
 split at h
 ·rename_i oc od x' q' ps b sc gl dv kV doc pm an cd ct bl sl hl
  simp only [Prod.mk.injEq, Option.some.injEq, Bool.and_eq_true] at h
  obtain ⟨⟨rfl, rfl, rfl, rfl, rfl⟩, ⟨⟨h1, h2⟩, h3⟩, h4⟩ := h
  have e1 := Nat.eq_of_beq_eq_true h1
  have e2 := Nat.eq_of_beq_eq_true h2
  subst e1 e2
  have e3 : dv = .none := by
   unfold ziI at h3
   split at h3
   ·rfl
   ·cases h3
  subst e3
  refine ⟨_, ⟨⟨oc, od, kV, doc, pm, an, cd, ct, sl, rfl, hl, h4⟩, ?_⟩⟩
  unfold PySem.W.keepIn
  dsimp only
  rw [hl]
 ·cases h
theorem zgo {τ υ : Type} {f : τ -> υ} {l : List τ} {e : List υ} (h : l.map f = e) (i : Nat) {x : τ} {v : υ} (hx : l[i]? = some x) (hv : e[i]? = some v) : f x = v := by
 rw [<- h, List.getElem?_map, hx] at hv
 exact Option.some.inj hv
theorem both {α β γ : Type} {r : Option α} {f : α -> β} {g : α -> γ} {a : β} {b : γ} (h1 : r.map f = some a) (h2 : r.map g = some b) : r.map (fun s => (f s, g s)) = some (a, b) := by
 cases r with
 | none => cases h1
 | some s =>
  simp only [Option.map_some, Option.some.injEq] at h1 h2 ⊢
  rw [h1, h2]
theorem zj6 {α τ υ : Type} {r : Option α} {g : α -> τ -> υ} {l1 l2 : List τ} {e1 e2 : List υ} (h1 : r.map (fun s => l1.map (g s)) = some e1) (h2 : r.map (fun s => l2.map (g s)) = some e2) : r.map (fun s => (l1 ++ l2).map (g s)) = some (e1 ++ e2) := by
 cases r with
 | none => cases h1
 | some s =>
  simp only [Option.map_some, Option.some.injEq] at h1 h2 ⊢
  rw [List.map_append, h1, h2]
theorem both4 {α A B C D : Type} {r : Option α} {f1 : α -> A} {f2 : α -> B} {f3 : α -> C} {f4 : α -> D} {a : A} {b : B} {c : C} {d : D} (h1 : r.map f1 = some a) (h2 : r.map (fun s => (f2 s, f4 s)) = some (b, d)) (h3 : r.map f3 = some c) : r.map (fun s => (f1 s, f2 s, f3 s, f4 s)) = some (a, b, c, d) := by
 cases r with
 | none => cases h1
 | some s =>
  simp only [Option.map_some, Option.some.injEq, Prod.mk.injEq] at h1 h2 h3 ⊢
  exact ⟨h1, h2.1, h3, h2.2⟩
theorem parts4 {α B C D : Type} {r : Option α} {f : α -> Seen × B × C × D} {g : Seen × B × C × D} (k : Nat) (ha : r.map (fun s => (f s).1.defs.take k) = some (g.1.defs.take k)) (hb : r.map (fun s => (f s).1.defs.drop k) = some (g.1.defs.drop k)) (ho : r.map (fun s => (f s).1.ownsOk) = some g.1.ownsOk) (hn : r.map (fun s => (f s).1.names) = some g.1.names) (h1 : r.map (fun s => ((f s).1.globalsOk, (f s).1.builtinsOk, (f s).1.noLimit, (f s).1.gens)) = some (g.1.globalsOk, g.1.builtinsOk, g.1.noLimit, g.1.gens)) (hv : r.map (fun s => (f s).2.1) = some g.2.1) (h2 : r.map (fun s => (f s).2.2.1) = some g.2.2.1) (h3 : r.map (fun s => (f s).2.2.2) = some g.2.2.2) : r.map f = some g := by
 cases r with
 | none => cases h1
 | some s =>
  simp only [Option.map_some, Option.some.injEq, Prod.mk.injEq] at ha hb ho hn h1 hv h2 h3 ⊢
  have e0 : (f s).1.defs = g.1.defs := by rw [<- List.take_append_drop k (f s).1.defs, ha, hb, List.take_append_drop]
  generalize f s = x at *
  obtain ⟨⟨a1, a2, a3, a4, a5, a6, a7⟩, b, c, d⟩ := x
  obtain ⟨⟨b1, b2, b3, b4, b5, b6, b7⟩, b', c', d'⟩ := g
  simp only at e0 ho hn h1 hv h2 h3
  obtain ⟨rfl, rfl, rfl, rfl⟩ := h1
  subst e0 ho hn hv h2 h3
  rfl
theorem walk_ofY {l : PySem.W.OpenLaw} {n k nK : Nat} {q : Program} {loose : List Str} {XP : (Str -> Option Value) -> Heap -> Prop} {d : DefRec} {CX : CXT} {sp : PySem.W.Frag -> Sp} {x : Str} {α : Type} {Yf : PySem.W.Frag -> α} {E : α}
  (hn : l.most = some n) (hn2 : n <= sizeLine) (hdf : d.params.defaults = []) (hr : Room k callerA)
  (F : ∀ (K : PySem.W.Frag), Yf K = E -> ∀ (w : World) (mg : Str -> Option Value) (fa : Addr) (h : Heap), K.In h -> h.Ns mainGlobals mg -> mg d.name = some (.ref fa) →
   ∃ fd : FuncData, (∀ (s : Shared) (u : Value), BindsTo s fd ⟨[u], []⟩ [(x, u)]) /\ ∀ base : Heap, K.In base -> base.Ns mainGlobals mg -> FnOk l.prog w K mg base CX k fa fd [x] (sp K))
  (hsp : ∀ (K : PySem.W.Frag) (H : Hp) (a : Addr) (ns : List Int), ns.length <= n -> Only H -> SqL K H a (ns.map V.int) -> sp K [.ref a] H (fun v _ => v = .bl true) fun _ _ _ => False)
  (hCX : ∀ (H : Hp) (s : Shared) (e : Value) (s' : Shared), CX [] H s (fun _ _ _ => False) e s' -> False) :
  PySem.W.WalkX q loose XP (fun s => Yf (Kof nK s.heap)) (fun _ => E) l.row.toRowW d [] (fun f vs => PySem.call f vs) := by
 intro w s₀ s₁ mg mb G y a o pm cd doc dV kV ho hd hcd hD hmg hg args vals as' L hpre hlay hrd hwl hlo
 have KX : (Kof nK s₀.heap).In s₁.heap := (Kof_in nK s₀.heap).keeps L.keeps
 exact L2.walk_ofK (YP := fun w h => (Kof nK s₀.heap).In h) (K := fun _ => Kof nK s₀.heap) hn hn2 hdf hr (fun w h Y => Y) (F (Kof nK s₀.heap) y) hsp hCX w s₀ s₁ mg mb G KX a o pm cd doc dV kV ho hd hcd hD hmg hg args vals as' hpre hlay hrd hwl hlo
def zec : SV :=
 (zaV (zbm zcz zdX (eC (.str ".")) (zac (eFn gL1 (zaQ 1 (aIt (zae 0)) (gN 1) za2 (eFn zlX (zac (zae 1) zak)))) zak)))
def zax : List D -> Sto -> Res D := zbR 1 zec
def zbx : SV :=
 (zaG (sIf (tPu (zca (tV (eUn (zbb "str") (zae 1)))))
 (zk0 (aPu (zac (eC .non) zak)))
 zb4)
 (zaG (sPu (za1 (eFn ziA (zac (eFn gL1 (zaQ 1 (aIt (zbm zcz zcq (zae 1) (zac (eC (.str ".")) zak))) (gN 3) za2 (eFn zaO (zac (zae 3) zak)))) zak)) (gN 2)))
 (zaG (sIf (tPu (zca (tV (eFn zcP (zac (zae 0) (zac (zae 2) zak))))))
 (zk0 (aPu (zac (eC .non) zak)))
 zb4)
 (sPu (zaV (zae 2))))))
def zav : List D -> Sto -> Res D := zbR 3 zbx
def zbd (self : List D -> Sto -> Res D) : SV :=
 (zaG (sIf (tV (eUn (zeU "tuple" "list") (zae 1)))
 (zaG (sIf (zkL (tV (eOp neD (eUn (zbb "tuple") (zae 0)) (eUn (zbb "tuple") (zae 1)))) (tV (eOp neD (eUn (zbb "list") (zae 0)) (eUn (zbb "list") (zae 1)))))
 (zaV (eC (.bl false)))
 zb4)
 (zaV (zlI (eOp eqD (eFn zdW (zac (zae 0) zak)) (eFn zdW (zac (zae 1) zak))) (eFn zlP (zac (eFn gL1 (zaQ 2 (zgY (zae 0) (zae 1)) (gT 2 (za9 (gN 2) (za9 (gN 3) zeV))) za2 (eFn self (zac (zae 2) (zac (zae 3) zak))))) zak)))))
 zb4)
 (zaG (sIf (tV (eOp isD (zae 1) (eC .non)))
 (zaV (eOp isD (zae 0) (eC .non)))
 zb4)
 (zaG (sIf (tV (eUn (zbb "bool") (zae 1)))
 (zaV (zlI (eUn (zbb "bool") (zae 0)) (eOp eqD (zae 0) (zae 1))))
 zb4)
 (zaV (zlI (eOp eqD (eUn (zbb "str") (zae 0)) (eUn (zbb "str") (zae 1))) (zlI (eNot (eUn (zbb "bool") (zae 0))) (eOp eqD (zae 0) (zae 1))))))))
def zaB : Nat -> List D -> Sto -> Res D
 | 0 => fun _ _ => .bad
 | n + 1 => zbR 2 (zbd (zaB n))
def zaR : List D -> Sto -> Res D := zaB 12
def zcY : SV :=
 (zaG (za1 (eFn zbu (zac (eC (.str "NoHead")) (zac (eC (.str "NoLetter")) (zac (eC (.str "NoWord")) (zac (eC (.str "NoMore")) (zac (eC (.str "NoDeed")) (zac (eC (.str "NoPlace")) (zac (eC (.str "Beyond")) (zac (eC (.str "NoStream")) (zac (eC (.str "NoLine")) (zac (eC (.str "NoText")) zak))))))))))) (gN 1))
 (zaG (za1 (eFn zbu (zac (eUn (zf8 ["HeadError", "NoHead", "NoLetter", "NoWord", "NoMore", "NoDeed", "NoPlace", "Beyond", "NoStream", "NoLine", "NoText"] "NoHead") (zae 0)) (zac (eUn (zf8 ["HeadError", "NoHead", "NoLetter", "NoWord", "NoMore", "NoDeed", "NoPlace", "Beyond", "NoStream", "NoLine", "NoText"] "NoLetter") (zae 0)) (zac (eUn (zf8 ["HeadError", "NoHead", "NoLetter", "NoWord", "NoMore", "NoDeed", "NoPlace", "Beyond", "NoStream", "NoLine", "NoText"] "NoWord") (zae 0)) zak)))) (gN 2))
 (zaG (za1 (eOp zaW (zae 2) (eFn zbu (zac (eUn (zf8 ["HeadError", "NoHead", "NoLetter", "NoWord", "NoMore", "NoDeed", "NoPlace", "Beyond", "NoStream", "NoLine", "NoText"] "NoMore") (zae 0)) (zac (eUn (zf8 ["HeadError", "NoHead", "NoLetter", "NoWord", "NoMore", "NoDeed", "NoPlace", "Beyond", "NoStream", "NoLine", "NoText"] "NoDeed") (zae 0)) (zac (eUn (zf8 ["HeadError", "NoHead", "NoLetter", "NoWord", "NoMore", "NoDeed", "NoPlace", "Beyond", "NoStream", "NoLine", "NoText"] "NoPlace") (zae 0)) zak))))) (gN 2))
 (zaG (za1 (eOp zaW (zae 2) (eFn zbu (zac (eUn (zf8 ["HeadError", "NoHead", "NoLetter", "NoWord", "NoMore", "NoDeed", "NoPlace", "Beyond", "NoStream", "NoLine", "NoText"] "Beyond") (zae 0)) (zac (eUn (zf8 ["HeadError", "NoHead", "NoLetter", "NoWord", "NoMore", "NoDeed", "NoPlace", "Beyond", "NoStream", "NoLine", "NoText"] "NoStream") (zae 0)) (zac (eUn (zf8 ["HeadError", "NoHead", "NoLetter", "NoWord", "NoMore", "NoDeed", "NoPlace", "Beyond", "NoStream", "NoLine", "NoText"] "NoLine") (zae 0)) zak))))) (gN 2))
 (zaG (za1 (eOp zaW (zae 2) (eFn zbu (zac (eUn (zf8 ["HeadError", "NoHead", "NoLetter", "NoWord", "NoMore", "NoDeed", "NoPlace", "Beyond", "NoStream", "NoLine", "NoText"] "NoText") (zae 0)) zak))) (gN 2))
 (zaG (sIf (zkL (tV (eOp neD (zbm zck zdB (zae 2) (zac (eC (.bl true)) zak)) (eC (.int 1)))) (zca (tV (eUn (znC ["HeadError", "NoHead", "NoLetter", "NoWord", "NoMore", "NoDeed", "NoPlace", "Beyond", "NoStream", "NoLine", "NoText"]) (zae 0)))))
 (zaV (eFn zc4 (zac (eC (.str "refused")) (zac (eC (.str "other")) zak))))
 zb4)
 (zaV (eFn zc4 (zac (eC (.str "refused")) (zac (eOp ixD (zae 1) (zbm zck zjU (zae 2) (zac (eC (.bl true)) zak))) zak))))))))))
def zbl : List D -> Sto -> Res D := zbR 3 zcY
def zcX : SV :=
 (zaG (sIf (zkL (tV (eOp eqD (zae 0) (eC (.str "")))) (zkL (tV (eOp gtD (eFn zdW (zac (zae 0) zak)) (eC (.int 15)))) (tV (eOp neD (zbm zcz zhb (zae 0) (zac (eC (.str "0123456789")) zak)) (eC (.str ""))))))
 (zaV (eC .non))
 zb4)
 (zaV (eIf (zkL (tV (eOp eqD (zae 0) (eC (.str "0")))) (tV (eOp neD (eOp ixD (zae 0) (eC (.int 0))) (eC (.str "0"))))) (eFn ziC (zac (zae 0) zak)) (eC .non))))
def zbj : List D -> Sto -> Res D := zbR 1 zcX
def zcN : SV :=
 (zaG (sIf (zca (tV (eUn (zbb "str") (zae 1))))
 (zaV (eC .non))
 zb4)
 (zaG (za1 (eFn gL1 (zaQ 1 (aIt (zbm zcz zcq (zae 1) (zac (eC (.str ".")) zak))) (gN 3) za2 (eFn zbj (zac (zae 3) zak)))) (gN 2))
 (zaG (sIf (zkL (tV (eOp inD (eC .non) (zae 2))) (tV (eOp neD (eFn zdW (zac (zae 2) zak)) (eFn zdW (zac (eOp ixD (zae 0) (eC (.int 0))) zak)))))
 (zaV (eC .non))
 zb4)
 (zaG (sIf (tV (eFn anyF (zac (eFn gL1 (zaQ 2 (zgY (zae 2) (eOp ixD (zae 0) (eC (.int 0)))) (gT 2 (za9 (gN 3) (za9 (gN 4) zeV))) za2 (eOp geD (zae 3) (eOp zkV (eC (.int 1)) (eOp ixD (zae 4) (eC (.int 1))))))) zak)))
 (zaV (eC .non))
 zb4)
 (zaV (eFn ziA (zac (zae 2) zak)))))))
def zbh : List D -> Sto -> Res D := zbR 3 zcN
def zef : SV :=
 (zaG (za1 (eFn gL1 (zaQ 1 (aIt (zae 2)) (gN 8) za2 (eFn zlX (zac (zae 8) zak)))) (gN 3))
 (zaG (sPar 4 5 (zac (eFn zai (zac (zae 0) (zac (eFn zdW (zac (zae 3) zak)) zak))) (zac (eFn zai (zac (zae 0) (zac (eC (.int 8)) zak))) zak)))
 (zaG (za1 (eOp zkV (eC (.int 1)) (eOp ixD (eOp ixD (eOp ixD (zae 1) (eC (.int 0))) (zae 4)) (eC (.int 1)))) (gN 6))
 (zaG (sIf (tV (eOp eqD (zae 5) (eC (.int 0))))
 (zaV (zbm zcz zdX (eC (.str ".")) (zac (eOp zaW (eSl (zae 3) zcJ (zdx (zae 4))) (eSl (zae 3) (zdx (eOp zaW (zae 4) (eC (.int 1)))) zcJ)) zak)))
 zb4)
 (zaG (sIf (tV (eOp eqD (zae 5) (eC (.int 1))))
 (zaV (zbm zcz zdX (eC (.str ".")) (zac (eOp zaW (eOp zaW (eSl (zae 3) zcJ (zdx (zae 4))) (eFn zbu (zac (eOp ixD (zae 3) (zae 4)) zak))) (eSl (zae 3) (zdx (zae 4)) zcJ)) zak)))
 zb4)
 (zaG (sIf (tV (eOp eqD (zae 5) (eC (.int 2))))
 (zaV (zbm zcz zdX (eC (.str ".")) (zac (zlH (zae 3) zcJ zcJ (zdx (eUn zma (eC (.int 1))))) zak)))
 zb4)
 (zaG (sIf (tV (eOp eqD (zae 5) (eC (.int 3))))
 (zaV (eFn zbi (zac (zae 0) (zac (eFn zbu (zac (eOp zaW (eC (.str ".")) (eFn zax (zac (zae 2) zak))) (zac (eOp zaW (eFn zax (zac (zae 2) zak)) (eC (.str "."))) (zac (eOp zaW (eFn zax (zac (zae 2) zak)) (eC (.str "\n"))) zak)))) zak))))
 zb4)
 (zaG (sIf (tV (eOp eqD (zae 5) (eC (.int 4))))
 (zaV (zis "." (eFn zax (zac (zae 2) zak)) (eFn zbi (zac (zae 0) (zac (eFn zbu (zac (eC (.str "..")) (zac (eC (.str " ")) (zac (eC (.str ",")) (zac (eC (.str ". ")) (zac (eC (.str "")) zak)))))) zak)))))
 zb4)
 (zaG (za1 (eFn zbu (zac (eFn zlX (zac (zae 6) zak)) (zac (eFn zlX (zac (eOp zkS (zae 6) (eC (.int 1))) zak)) (zac (eOp zaW (eC (.str "0")) (eOp ixD (zae 3) (zae 4))) (zac (eOp zaW (eC (.str "-")) (eOp ixD (zae 3) (zae 4))) (zac (eOp zaW (eOp ixD (zae 3) (zae 4)) (eC (.str " "))) (zac (eOp zaW (eC (.str "+")) (eOp ixD (zae 3) (zae 4))) (zac (eC (.str "")) (zac (eC (.str "x")) zak))))))))) (gN 7))
 (zaG (za1 (eOp zaW (zae 7) (eFn zbu (zac (eOp zaW (eOp zc2 (eC (.str "0")) (eOp zkS (eC (.int 16)) (eFn zdW (zac (eOp ixD (zae 3) (zae 4)) zak)))) (eOp ixD (zae 3) (zae 4))) (zac (eOp zc2 (eC (.str "9")) (eC (.int 16))) (zac (eOp zc2 (eC (.str "9")) (eC (.int 15))) (zac (eOp zaW (eOp ixD (zae 3) (zae 4)) (eC (.str "0"))) (zac (eC (.str "1_0")) (zac (eC (.str "-0")) zak)))))))) (gN 7))
 (zaV (zbm zcz zdX (eC (.str ".")) (zac (eOp zaW (eOp zaW (eSl (zae 3) zcJ (zdx (zae 4))) (eFn zbu (zac (eFn zbi (zac (zae 0) (zac (zae 7) zak))) zak))) (eSl (zae 3) (zdx (eOp zaW (zae 4) (eC (.int 1)))) zcJ)) zak)))))))))))))
def zbY : List D -> Sto -> Res D := zbR 8 zef
def zcO : SV :=
 (zaG (za1 (eFn zc4 (zac (eC .non) (zac (eC .non) zak))) (gT 2 (za9 (gN 2) (za9 (gN 3) zeV))))
 (zaG (zlY ["HeadError", "NoHead", "NoLetter", "NoWord", "NoMore", "NoDeed", "NoPlace", "Beyond", "NoStream", "NoLine", "NoText"] "HeadError" (za1 (eFn zav (aPu (zac (zae 0) (zac (zae 1) zak)))) (gN 2)) 4 (za1 (zae 4) (gN 3)))
 (zaG (sIf (tV (eOp isD (zae 3) (eC .non)))
 (zaV (zae 2))
 zb4)
 (zaV (eIf (tV (eOp eqD (eFn zbl (zac (zae 3) zak)) (eFn zc4 (zac (eC (.str "refused")) (zac (eC (.str "NoText")) zak))))) (eFn zbu (zac (eUn rowD (zae 3)) zak)) (eC (.str "other")))))))
def zbk : List D -> Sto -> Res D := zbR 5 zcO
def zcl : SV :=
 (zaG (za1 (eFn zbh (zac (zae 0) (zac (zae 1) zak))) (gN 2))
 (zaV (eFn zaR (zac (eFn zbk (zac (zae 0) (zac (zae 1) zak))) (zac (eIf (tV (eOp isD (zae 2) (eC .non))) (eFn zbu (zac (eC .non) zak)) (zae 2)) zak)))))
def zaU : List D -> Sto -> Res D := zbR 3 zcl
def zkf : SV :=
 (zaG (za1 (eFn zcB (zac (zae 0) zak)) (gN 1))
 (zaG (sFor (znZ zlZ (zac (eC (.int 8)) zak)) (gN 2)
 (zaG (za1 (eFn zby (zac (zae 1) zak)) (gN 3))
 (zaG (za1 (eFn ziA (zac (eFn gL1 (zaQ 1 (aIt (eOp ixD (zae 3) (eC (.int 0)))) (gN 7) za2 (eFn zaC (zac (zae 1) (zac (eOp ixD (zae 7) (eC (.int 1))) zak))))) zak)) (gN 4))
 (zaG (za1 (eFn zax (zac (zae 4) zak)) (gN 5))
 (zaG (sIf (zkL (zca (tV (eFn zaR (zac (eFn zax (zac (zae 4) zak)) (zac (zae 5) zak))))) (zca (tV (eFn zaR (zac (eFn (puF zav) (zac (zae 3) (zac (zae 5) zak))) (zac (zae 4) zak))))))
 (zaV (eC (.bl false)))
 zb4)
 (zaG (za1 (eFn gL1 (zaQ 1 (znZ zlZ (zac (eC (.int 6)) zak)) (gN 7) za2 (eFn zbY (zac (zae 1) (zac (zae 3) (zac (zae 4) zak)))))) (gN 6))
 (sIf (zca (tV (eFn zlP (zac (eFn gL1 (zaQ 1 (aIt (eOp zaW (zae 6) (eFn zbu (zac (eC .non) (zac (eC (.int 7)) (zac (eC (.bl true)) (zac (zae 4) (zac (eFn lstF (zac (zae 4) zak)) (zac (eFn zbu (zac (eC (.str "0")) zak)) (zac (zeY []) (zac (eC (.str "")) zak))))))))))) (gN 7) za2 (eFn zaU (zac (zae 3) (zac (zae 7) zak))))) zak))))
 (zaV (eC (.bl false)))
 zb4)))))))
 (zaV (eC (.bl true)))))
def zhw : List D -> Sto -> Res D := zbR 7 zkf
section
variable {α β γ : Type}
def kThen (f : α -> Sto -> Res β) (g : β -> Sto -> Res γ) : α -> Sto -> Res γ := fun a m => (f a m).bind g
theorem then_at (f : α -> Sto -> Res β) (g : β -> Sto -> Res γ) (a : α) (m : Sto) : kThen f g a m = (f a m).bind g := rfl
theorem bind_then (r : Res α) (f : α -> Sto -> Res β) (g : β -> Sto -> Res γ) : (r.bind f).bind g = r.bind (kThen f g) := Res.bind_assoc r f g
end
section
variable (m : Sto) (ρ : En) (d : D) (f g : SV) (fa fb fc : EV) (fr : AV) (c t : TV) (h : GV)
def kSeq (g : SV) : Fl -> Sto -> Res Fl := fun fl m1 => match fl with
 | .nx ρ1 => g ρ1 m1
 | fl => .ok fl m1
theorem seq_at : zaG f g ρ m = (f ρ m).bind (kSeq g) := rfl
theorem seq_nx : kSeq g (.nx ρ) m = g ρ m := rfl
theorem seq_rt : kSeq g (.rt d) m = .ok (.rt d) m := rfl
theorem nil_at : zb4 ρ m = .ok (.nx ρ) m := rfl
def kRt : D -> Sto -> Res Fl := fun d m => .ok (.rt d) m
theorem ret_at : zaV fa ρ m = (fa ρ m).bind kRt := rfl
theorem rt_at : kRt d m = .ok (.rt d) m := rfl
theorem retN_at : sRetN ρ m = .ok (.rt .non) m := rfl
def kDrop (ρ : En) : D -> Sto -> Res Fl := fun _ m => .ok (.nx ρ) m
theorem drop_at : zgi fa ρ m = (fa ρ m).bind (kDrop ρ) := rfl
theorem kdrop_at : kDrop ρ d m = .ok (.nx ρ) m := rfl
def kIf (f g : SV) (ρ : En) : Bool -> Sto -> Res Fl := fun b m => if b = true then f ρ m else g ρ m
theorem if_at : sIf c f g ρ m = (c ρ m).bind (kIf f g ρ) := rfl
theorem kif_at (b : Bool) : kIf f g ρ b m = if b = true then f ρ m else g ρ m := rfl
def kAsg (h : GV) (ρ : En) : D -> Sto -> Res Fl := fun d m1 => (h d ρ m1).bind fun ρ1 m2 => .ok (.nx ρ1) m2
def kNx : En -> Sto -> Res Fl := fun ρ m => .ok (.nx ρ) m
theorem asg_at : za1 fa h ρ m = (fa ρ m).bind (kAsg h ρ) := rfl
theorem kasg_at : kAsg h ρ d m = (h d ρ m).bind kNx := rfl
theorem nx_at : kNx ρ m = .ok (.nx ρ) m := rfl
theorem gN_at (i : Nat) : gN i d ρ m = .ok (ρ.set i (some d)) m := rfl
theorem gs_nil : zeV [] ρ m = .ok ρ m := rfl
theorem gs_cons (gs : List D -> En -> Sto -> Res En) (r : List D) : za9 h gs (d :: r) ρ m = (h d ρ m).bind (gs r) := rfl
theorem gT_at (n : Nat) (gs : List D -> En -> Sto -> Res En) (ds : List D) : gT n gs (.tup ds) ρ m = if ds.length = n then gs ds ρ m else .bad := rfl
def kPar (i j : Nat) (ρ : En) : List D -> Sto -> Res Fl := fun ds m1 => match ds with
 | [x, y] => .ok (.nx ((ρ.set i (some x)).set j (some y))) m1
 | _ => .bad
theorem par_at (i j : Nat) : sPar i j fr ρ m = (fr ρ m).bind (kPar i j ρ) := rfl
theorem kpar_at (i j : Nat) (x y : D) : kPar i j ρ [x, y] m = .ok (.nx ((ρ.set i (some x)).set j (some y))) m := rfl
def kFor (h : GV) (f : SV) (ρ : En) : List D -> Sto -> Res Fl := fun ds m1 => zdz h f ds ρ m1
theorem for_at : sFor fr h f ρ m = (fr ρ m).bind (kFor h f ρ) := rfl
theorem kfor_at (ds : List D) : kFor h f ρ ds m = zdz h f ds ρ m := rfl
theorem eC_at : eC d ρ m = .ok d m := rfl
def kOp (g : D -> D -> Sto -> Res D) (fb : EV) (ρ : En) : D -> Sto -> Res D := fun x m1 => (fb ρ m1).bind (g x)
theorem op_at (g : D -> D -> Sto -> Res D) : eOp g fa fb ρ m = (fa ρ m).bind (kOp g fb ρ) := rfl
theorem kop_at (g : D -> D -> Sto -> Res D) : kOp g fb ρ d m = (fb ρ m).bind (g d) := rfl
theorem un_at (g : D -> Sto -> Res D) : eUn g fa ρ m = (fa ρ m).bind g := rfl
theorem fn_at (g : List D -> Sto -> Res D) : eFn g fr ρ m = (fr ρ m).bind g := rfl
def kIfE (f g : EV) (ρ : En) : Bool -> Sto -> Res D := fun b m => if b = true then f ρ m else g ρ m
theorem ife_at : eIf c fa fb ρ m = (c ρ m).bind (kIfE fa fb ρ) := rfl
theorem kife_at (b : Bool) : kIfE fa fb ρ b m = if b = true then fa ρ m else fb ρ m := rfl
theorem aNil_at : zak ρ m = .ok [] m := rfl
def kCons (fr : AV) (ρ : En) : D -> Sto -> Res (List D) := fun x m1 => (fr ρ m1).bind fun xs m2 => .ok (x :: xs) m2
def zmb (x : D) : List D -> Sto -> Res (List D) := fun xs m2 => .ok (x :: xs) m2
theorem aCons_at : zac fa fr ρ m = (fa ρ m).bind (kCons fr ρ) := rfl
theorem kcons_at : kCons fr ρ d m = (fr ρ m).bind (zmb d) := rfl
theorem kcons2_at (xs : List D) : zmb d xs m = .ok (d :: xs) m := rfl
theorem asB_at (b : Bool) : asB (.bl b) m = .ok b m := rfl
theorem tV_at : tV fa ρ m = (fa ρ m).bind asB := rfl
def kAndT (t : TV) (ρ : En) : Bool -> Sto -> Res Bool := fun b m => if b = true then t ρ m else .ok false m
theorem andT_at : zhY c t ρ m = (c ρ m).bind (kAndT t ρ) := rfl
theorem kandT_at (b : Bool) : kAndT t ρ b m = if b = true then t ρ m else .ok false m := rfl
def kOrT (t : TV) (ρ : En) : Bool -> Sto -> Res Bool := fun b m => if b = true then .ok true m else t ρ m
theorem orT_at : zkL c t ρ m = (c ρ m).bind (kOrT t ρ) := rfl
theorem korT_at (b : Bool) : kOrT t ρ b m = if b = true then .ok true m else t ρ m := rfl
def kNotT : Bool -> Sto -> Res Bool := fun c m1 => .ok (!c) m1
theorem notT_at : zca c ρ m = (c ρ m).bind kNotT := rfl
theorem knotT_at (b : Bool) : kNotT b m = .ok (!b) m := rfl
def kAnd (fb : EV) (ρ : En) : D -> Sto -> Res D := fun c m1 => (asB c m1).bind fun c m1 => if c = true then fb ρ m1 else .ok (.bl false) m1
theorem and_at : zlI fa fb ρ m = (fa ρ m).bind (kAnd fb ρ) := rfl
theorem kand_at (b : Bool) : kAnd fb ρ (.bl b) m = if b = true then fb ρ m else .ok (.bl false) m := rfl
def kOr (fb : EV) (ρ : En) : D -> Sto -> Res D := fun c m1 => (asB c m1).bind fun c m1 => if c = true then .ok (.bl true) m1 else fb ρ m1
theorem or_at : eOr fa fb ρ m = (fa ρ m).bind (kOr fb ρ) := rfl
theorem kor_at (b : Bool) : kOr fb ρ (.bl b) m = if b = true then .ok (.bl true) m else fb ρ m := rfl
def kNot : D -> Sto -> Res D := fun c m1 => (asB c m1).bind fun c m1 => .ok (.bl (!c)) m1
theorem not_at : eNot fa ρ m = (fa ρ m).bind kNot := rfl
theorem knot_at (b : Bool) : kNot (.bl b) m = .ok (.bl (!b)) m := rfl
theorem aIt_at : aIt fa ρ m = (fa ρ m).bind zix := rfl
theorem sq_t (ds : List D) : zix (.tup ds) m = .ok ds m := rfl
theorem sq_l (ds : List D) : zix (.lst ds) m = .ok ds m := rfl
theorem sq_s (z : Str) : zix (.str z) m = .ok (zcc z) m := rfl
theorem sq_c (ds : List D) : zix (.scr ds) m = .ok ds m := rfl
theorem rngA_at (g : List D -> Sto -> Res (List D)) : znZ g fr ρ m = (fr ρ m).bind g := rfl
def znA : D -> Sto -> Res (List D) := fun d m1 => (asSq2 d m1).bind fun ds m2 => .ok (zko 0 ds) m2
theorem enumA_at : aEnum fa ρ m = (fa ρ m).bind znA := rfl
theorem kenum_t (ds : List D) : znA (.tup ds) m = .ok (zko 0 ds) m := rfl
theorem kenum_l (ds : List D) : znA (.lst ds) m = .ok (zko 0 ds) m := rfl
def kZip (fb : EV) (ρ : En) : D -> Sto -> Res (List D) := fun x m1 => (fb ρ m1).bind (zlR x)
theorem zipA_at : aZip fa fb ρ m = (fa ρ m).bind (kZip fb ρ) := rfl
theorem kzip_at : kZip fb ρ d m = (fb ρ m).bind (zlR d) := rfl
def kZip3 (fb fc : EV) (ρ : En) : D -> Sto -> Res (List D) := fun x m1 => (fb ρ m1).bind fun y m2 => (fc ρ m2).bind (zip3 x y)
def kZip4 (x : D) (fc : EV) (ρ : En) : D -> Sto -> Res (List D) := fun y m1 => (fc ρ m1).bind (zip3 x y)
theorem zip3A_at : aZip3 fa fb fc ρ m = (fa ρ m).bind (kZip3 fb fc ρ) := rfl
theorem kzip3_at : kZip3 fb fc ρ d m = (fb ρ m).bind (kZip4 d fc ρ) := rfl
theorem kzip4_at (x : D) : kZip4 x fc ρ d m = (fc ρ m).bind (zip3 x d) := rfl
theorem oNone_at : zcJ ρ m = .ok none m := rfl
def kSome : D -> Sto -> Res (Option Int) := fun d m1 => match d with
 | .int i => .ok (some i) m1
 | _ => .bad
theorem oSome_at : zdx fa ρ m = (fa ρ m).bind kSome := rfl
theorem ksome_at (i : Int) : kSome (.int i) m = .ok (some i) m := rfl
def kSl1 (lo hi : OV) (ρ : En) : D -> Sto -> Res D := fun x m1 => (lo ρ m1).bind fun l m2 => (hi ρ m2).bind (slD x l)
def kSl2 (hi : OV) (ρ : En) (x : D) : Option Int -> Sto -> Res D := fun l m2 => (hi ρ m2).bind (slD x l)
theorem slD_at (lo hi : OV) : eSl fa lo hi ρ m = (fa ρ m).bind (kSl1 lo hi ρ) := rfl
theorem ksl1_at (lo hi : OV) : kSl1 lo hi ρ d m = (lo ρ m).bind (kSl2 hi ρ d) := rfl
theorem ksl2_at (hi : OV) (l : Option Int) : kSl2 hi ρ d l m = (hi ρ m).bind (slD d l) := rfl
def kSlA1 (lo hi : OV) (ρ : En) : D -> Sto -> Res D := fun x m1 => (lo ρ m1).bind fun l m2 => (hi ρ m2).bind (slA x l)
def kSlA2 (hi : OV) (ρ : En) (x : D) : Option Int -> Sto -> Res D := fun l m2 => (hi ρ m2).bind (slA x l)
theorem slA_at (lo hi : OV) : eSlA fa lo hi ρ m = (fa ρ m).bind (kSlA1 lo hi ρ) := rfl
theorem kslA1_at (lo hi : OV) : kSlA1 lo hi ρ d m = (lo ρ m).bind (kSlA2 hi ρ d) := rfl
theorem kslA2_at (hi : OV) (l : Option Int) : kSlA2 hi ρ d l m = (hi ρ m).bind (slA d l) := rfl
def kMeth (ty : D -> Sto -> Bool) (g : D -> List D -> Sto -> Res D) (fr : AV) (ρ : En) : D -> Sto -> Res D := fun o m1 => if ty o m1 = true then (fr ρ m1).bind (g o) else .bad
theorem meth_at (ty : D -> Sto -> Bool) (g : D -> List D -> Sto -> Res D) : zbm ty g fa fr ρ m = (fa ρ m).bind (kMeth ty g fr ρ) := rfl
theorem kmeth_at (ty : D -> Sto -> Bool) (g : D -> List D -> Sto -> Res D) : kMeth ty g fr ρ d m = if ty d m = true then (fr ρ m).bind (g d) else .bad := rfl
theorem isStr_at (z : Str) : zcz (.str z) m = true := rfl
theorem isTup_at (ds : List D) : isTup (.tup ds) m = true := rfl
theorem fin_nx : zgL (.nx ρ) m = .ok .non m := rfl
theorem fin_rt : zgL (.rt d) m = .ok d m := rfl
theorem run_at (n : Nat) (ds : List D) : zbR n f ds m = (f (ds.map some ++ List.replicate (n - ds.length) none) m).bind zgL := rfl
def kCh3 (g' : D -> D -> Sto -> Res D) (fc : EV) (ρ : En) (y : D) : D -> Sto -> Res D := fun z m3 => (asB z m3).bind fun k m3 => if k = true then (fc ρ m3).bind (g' y) else .ok (.bl false) m3
def kCh2 (g g' : D -> D -> Sto -> Res D) (fc : EV) (ρ : En) (x : D) : D -> Sto -> Res D := fun y m2 => (g x y m2).bind (kCh3 g' fc ρ y)
def kCh1 (g g' : D -> D -> Sto -> Res D) (fb fc : EV) (ρ : En) : D -> Sto -> Res D := fun x m1 => (fb ρ m1).bind (kCh2 g g' fc ρ x)
theorem chain_at (g g' : D -> D -> Sto -> Res D) : zb9 g g' fa fb fc ρ m = (fa ρ m).bind (kCh1 g g' fb fc ρ) := rfl
theorem kch1_at (g g' : D -> D -> Sto -> Res D) : kCh1 g g' fb fc ρ d m = (fb ρ m).bind (kCh2 g g' fc ρ d) := rfl
theorem kch2_at (g g' : D -> D -> Sto -> Res D) (x : D) : kCh2 g g' fc ρ x d m = (g x d m).bind (kCh3 g' fc ρ d) := rfl
theorem kch3_at (g' : D -> D -> Sto -> Res D) (y : D) (b : Bool) : kCh3 g' fc ρ y (.bl b) m = if b = true then (fc ρ m).bind (g' y) else .ok (.bl false) m := rfl
def kPutA (fo fi : EV) (ρ : En) : D -> Sto -> Res Fl := fun v m1 => (fo ρ m1).bind fun x m2 => (fi ρ m2).bind fun y m3 => (zfk x y v m3).bind fun _ m4 => .ok (.nx ρ) m4
def kPutB (fi : EV) (ρ : En) (v : D) : D -> Sto -> Res Fl := fun x m2 => (fi ρ m2).bind fun y m3 => (zfk x y v m3).bind fun _ m4 => .ok (.nx ρ) m4
def kPutC (ρ : En) (v x : D) : D -> Sto -> Res Fl := fun y m3 => (zfk x y v m3).bind fun _ m4 => .ok (.nx ρ) m4
def kPutE (ρ : En) : Unit -> Sto -> Res Fl := fun _ m4 => .ok (.nx ρ) m4
theorem put_at : zkZ fa fb fc ρ m = (fc ρ m).bind (kPutA fa fb ρ) := rfl
theorem kputA_at : kPutA fa fb ρ d m = (fa ρ m).bind (kPutB fb ρ d) := rfl
theorem kputB_at (x : D) : kPutB fb ρ d x m = (fb ρ m).bind (kPutC ρ d x) := rfl
theorem kputC_at (x y : D) : kPutC ρ d x y m = (zfk x y d m).bind (kPutE ρ) := rfl
theorem kputE_at : kPutE ρ () m = .ok (.nx ρ) m := rfl
theorem var_0 : zae 0 (some d :: ρ) m = .ok d m := rfl
theorem var_S (i : Nat) (x : Option D) : zae (i + 1) (x :: ρ) m = zae i ρ m := rfl
end
theorem bind_ok {α β : Type} (a : α) (m : Sto) (k : α -> Sto -> Res β) : (Res.ok a m).bind k = k a m := rfl
def Run {α : Type} (r : Res α) (P : α -> Sto -> Prop) : Prop := ∃ a m, r = .ok a m /\ P a m
theorem Run.bind {α β : Type} {r : Res α} {k : α -> Sto -> Res β} {Q : α -> Sto -> Prop} {P : β -> Sto -> Prop} (h : Run r Q) (hk : ∀ a m, Q a m -> Run (k a m) P) : Run (r.bind k) P := by
 obtain ⟨a, m, rfl, q⟩ := h
 exact hk a m q
theorem Run.ok {α : Type} {a : α} {m : Sto} {P : α -> Sto -> Prop} (h : P a m) : Run (.ok a m) P := ⟨a, m, rfl, h⟩
theorem Run.mono {α : Type} {r : Res α} {P Q : α -> Sto -> Prop} (h : Run r P) (k : ∀ a m, P a m -> Q a m) : Run r Q := by
 obtain ⟨a, m, e, p⟩ := h
 exact ⟨a, m, e, k a m p⟩
theorem zc9 {g : GV} {body : SV} (I : Nat -> En -> Sto -> Prop) : ∀ (ds : List D) (k : Nat) {ρ : En} {m : Sto}, I k ρ m -> (∀ i d ρ m, ds[i]? = some d -> I (k + i) ρ m -> Run ((g d ρ m).bind body) fun fl m2 => ∃ ρ2, fl = .nx ρ2 /\ I (k + i + 1) ρ2 m2) →
  Run (zdz g body ds ρ m) fun fl m' => ∃ ρ', fl = .nx ρ' /\ I (k + ds.length) ρ' m'
 | [], k, ρ, m, h, _ => ⟨_, m, rfl, ρ, rfl, h⟩
 | d :: r, k, ρ, m, h, st => by
  obtain ⟨_, m2, e2, ρ2, rfl, h2⟩ := st 0 d ρ m rfl h
  obtain ⟨_, m', e3, ρ', rfl, h3⟩ := zc9 I r (k + 1) h2 fun i d ρ m hd hi => by
   have := st (i + 1) d ρ m (by simpa using hd) (by rw [show k + (i + 1) = k + 1 + i by omega]; exact hi)
   rw [show k + (i + 1) + 1 = k + 1 + i + 1 by omega] at this
   exact this
  refine ⟨_, m', ?_, ρ', rfl, by rw [List.length_cons, show k + (r.length + 1) = k + 1 + r.length by omega]; exact h3⟩
  rw [zdz, <- Res.bind_assoc, e2, bind_ok]
  exact e3
theorem zeZ {g : GV} {el : EV} {ρ : En} (I : Nat -> Sto -> Prop) (P : Nat -> D -> D -> Prop) : ∀ (ds : List D) (k : Nat) {m : Sto}, I k m -> (∀ i d m, ds[i]? = some d -> I (k + i) m -> Run ((g d ρ m).bind el) fun x m3 => P (k + i) d x /\ I (k + i + 1) m3) →
  Run (zcR g za2 el ρ ds m) fun xs m' => xs.length = ds.length /\ (∀ i d x, ds[i]? = some d -> xs[i]? = some x -> P (k + i) d x) /\ I (k + ds.length) m'
 | [], k, m, h, _ => ⟨[], m, rfl, rfl, fun i d x e => by simp at e, h⟩
 | d :: r, k, m, h, st => by
  obtain ⟨x, m3, e3, hP, h3⟩ := st 0 d m rfl h
  obtain ⟨xs, m', e4, hl, hPs, h4⟩ := zeZ I P r (k + 1) h3 fun i d m hd hi => by
   have := st (i + 1) d m (by simpa using hd) (by rw [show k + (i + 1) = k + 1 + i by omega]; exact hi)
   rw [show k + (i + 1) + 1 = k + 1 + i + 1 by omega, show k + (i + 1) = k + 1 + i by omega] at this
   exact this
  refine ⟨x :: xs, m', ?_, by rw [List.length_cons, List.length_cons, hl], fun i d' x' hd hx => ?_, by rw [List.length_cons, show k + (r.length + 1) = k + 1 + r.length by (clear hl; omega)]; exact h4⟩
  ·have e : zcR g za2 el ρ (d :: r) m = ((g d ρ m).bind el).bind fun x m3 => (zcR g za2 el ρ r m3).bind fun xs m4 => .ok (x :: xs) m4 := by
    rw [zcR, Res.bind_assoc]
    rfl
   rw [e, e3, bind_ok, e4, bind_ok]
  ·cases i with
   | zero => simp at hd hx; subst hd hx; exact hP
   | succ i =>
    have := hPs i d' x' (by simpa using hd) (by simpa using hx)
    rw [show k + (i + 1) = k + 1 + i by (clear hl; omega)]
    exact this
theorem zhL {g : GV} {el : EV} {ρ : En} {m : Sto} (f : D -> D) : ∀ (ds : List D), (∀ d ∈ ds, ∃ ρ1, g d ρ m = .ok ρ1 m /\ el ρ1 m = .ok (f d) m) -> zcR g za2 el ρ ds m = .ok (ds.map f) m
 | [], _ => rfl
 | d :: r, h => by
  obtain ⟨ρ1, e1, e2⟩ := h d (by simp)
  rw [zcR, e1, bind_ok]
  show (Res.ok true m).bind _ = _
  rw [bind_ok, if_pos rfl, e2, bind_ok, zhL f r fun d hd => h d (List.mem_cons_of_mem _ hd), bind_ok]
  rfl
theorem zeH : ∀ ns : List Int, pyL (ns.map D.int) = ns.map PyData.int
 | [] => by simp [pyL]
 | a :: r => by simp [pyL, py, zeH r]
theorem zd9 : ∀ ns : List Int, pyOkL (ns.map D.int) = true
 | [] => by simp [pyOkL]
 | a :: r => by simp [pyOkL, zco, zd9 r]
theorem zhO : ∀ ns : List Int, PyData.canLayAll0 (ns.map PyData.int) = true
 | [] => by simp [PyData.canLayAll0]
 | a :: r => by simp [PyData.canLayAll0, PyData.canLay0, zhO r]
theorem zhI : ∀ ns : List Int, PyData.depthAll (ns.map PyData.int) = 0
 | [] => by simp [PyData.depthAll]
 | a :: r => by simp [PyData.depthAll, PyData.depth, zhI r]
theorem zhE : ∀ ns ms : List Int, PyData.eqvAll (ns.map PyData.int) (ms.map PyData.int) = decide (ns = ms)
 | [], [] => by simp [PyData.eqvAll]
 | [], _ :: _ => by simp [PyData.eqvAll]
 | _ :: _, [] => by simp [PyData.eqvAll]
 | a :: r, b :: t => by
  simp only [List.map_cons, PyData.eqvAll, PyData.eqv, zhE r t]
  by_cases h : a = b <;> by_cases h' : r = t <;> simp [h, h']
theorem zhJ (ns : List Int) : deep (.lst (ns.map D.int)) = true := by
 simp [deep, zco, py, zd9, zeH, SeqAt.shaped, PyData.canLay0, zhO, PyData.depth, zhI]
theorem znS (ns ms : List Int) : eqB (.lst (ns.map D.int)) (.lst (ms.map D.int)) = some (decide (ns = ms)) := by
 show (if deep (.lst (ns.map D.int)) && deep (.lst (ms.map D.int)) then some (PyData.eqv (py (.lst (ns.map D.int))) (py (.lst (ms.map D.int)))) else none) = _
 rw [zhJ, zhJ]
 simp [py, PyData.eqv, zeH, zhE]
structure Fr (p q : Nat) (m m' : Sto) : Prop where
 len : m.length <= m'.length
 at' : ∀ j, j < m.length -> j ≠ p -> j ≠ q -> m'[j]? = m[j]?
theorem Fr.refl {p q : Nat} {m : Sto} : Fr p q m m := ⟨Nat.le_refl _, fun _ _ _ _ => rfl⟩
theorem Fr.trans {p q : Nat} {a b c : Sto} (h : Fr p q a b) (k : Fr p q b c) : Fr p q a c := ⟨Nat.le_trans h.len k.len, fun j h1 h2 h3 => (k.at' j (Nat.lt_of_lt_of_le h1 h.len) h2 h3).trans (h.at' j h1 h2 h3)⟩
section
variable {m : Sto}
theorem add_i (a b : Int) : zaW (.int a) (.int b) m = .ok (.int (a + b)) m := rfl
theorem sub_i (a b : Int) : zkS (.int a) (.int b) m = .ok (.int (a - b)) m := rfl
theorem eq_i (a b : Int) : eqD (.int a) (.int b) m = .ok (.bl (decide (a = b))) m := rfl
theorem ne_i (a b : Int) : neD (.int a) (.int b) m = .ok (.bl (!decide (a = b))) m := rfl
theorem eq_s (a b : Str) : eqD (.str a) (.str b) m = .ok (.bl (decide (a = b))) m := rfl
theorem ne_s (a b : Str) : neD (.str a) (.str b) m = .ok (.bl (!decide (a = b))) m := rfl
theorem lt_i (a b : Int) : ltD (.int a) (.int b) m = .ok (.bl (decide (a < b))) m := rfl
theorem gt_i (a b : Int) : gtD (.int a) (.int b) m = .ok (.bl (decide (b < a))) m := rfl
theorem ge_i (a b : Int) : geD (.int a) (.int b) m = .ok (.bl (decide (b <= a))) m := rfl
theorem le_i (a b : Int) : leD (.int a) (.int b) m = .ok (.bl (decide (a <= b))) m := rfl
theorem zln {a b : Int} (h : -(2 ^ 64) < b /\ b < 2 ^ 64) : zc2 (.int a) (.int b) m = .ok (.int (a * b)) m := by rw [zeS]; exact if_pos (.inr h)
theorem zih {a b : Int} (h : -(2 ^ 64) < a /\ a < 2 ^ 64) : zc2 (.int a) (.int b) m = .ok (.int (a * b)) m := by rw [zeS]; exact if_pos (.inl h)
theorem zc3 {a b : Int} (h : 0 < b) : zdU (.int a) (.int b) m = .ok (.int (a % b)) m := if_pos h
theorem znT {a b : Int} (h : 0 < b /\ b < 2 ^ 64) : zeX (.int a) (.int b) m = .ok (.int (a / b)) m := by rw [zhC]; exact if_pos h
theorem zh1 {n : Nat} (h : n <= 1000000) : zkV (.int 1) (.int n) m = .ok (.int (2 ^ n)) m := by
 rw [ziU]
 show (if _ then _ else _) = _
 rw [if_pos ⟨by (clear h; omega), by omega, by decide⟩, Int.toNat_natCast, Int.one_mul]
theorem lst_0 : zbu [] m = .ok (.lst []) m := if_pos (Nat.zero_le _)
theorem zbE {n : Nat} (h : n <= 8) : n <= sizeLine := Nat.le_trans h (by decide)
theorem lst_2 (a b : D) : zbu [a, b] m = .ok (.lst [a, b]) m := if_pos (zbE (by simp))
theorem lst_3 (a b c : D) : zbu [a, b, c] m = .ok (.lst [a, b, c]) m := if_pos (zbE (by simp))
theorem lst_4 (a b c d : D) : zbu [a, b, c, d] m = .ok (.lst [a, b, c, d]) m := if_pos (zbE (by simp))
theorem lst_5 (a b c d e : D) : zbu [a, b, c, d, e] m = .ok (.lst [a, b, c, d, e]) m := if_pos (zbE (by simp))
theorem tup_0 : zc4 [] m = .ok (.tup []) m := if_pos (Nat.zero_le _)
theorem tup_1 (a : D) : zc4 [a] m = .ok (.tup [a]) m := if_pos (zbE (by simp))
theorem tup_2 (a b : D) : zc4 [a, b] m = .ok (.tup [a, b]) m := if_pos (zbE (by simp))
theorem tup_3 (a b c : D) : zc4 [a, b, c] m = .ok (.tup [a, b, c]) m := if_pos (zbE (by simp))
theorem new_0 : zlF [] m = .ok (.ob m.length) (m ++ [.lst []]) := if_pos (Nat.zero_le _)
theorem min_i (a b : Int) : zii [.int a, .int b] m = .ok (.int (if b < a then b else a)) m := rfl
theorem len_t (xs : List D) : zdW [.tup xs] m = .ok (.int xs.length) m := rfl
theorem len_l (xs : List D) : zdW [.lst xs] m = .ok (.int xs.length) m := rfl
theorem tup_l (xs : List D) : ziA [.lst xs] m = .ok (.tup xs) m := rfl
theorem l1 (xs : List D) : gL1 xs m = .ok (.lst xs) m := rfl
theorem zdL {τ : Type} {xs : List τ} {n : Nat} : L2.atI xs (n : Int) = xs[n]? := by
 unfold L2.atI L2.ixN
 by_cases h : n < xs.length
 ·rw [if_pos (by (clear h; omega)), if_pos (by omega)]
  simp
 ·rw [if_pos (by (clear h; omega)), if_neg (by omega)]
  simp
  omega
theorem ix_t {xs : List D} {n : Nat} {d : D} (h : xs[n]? = some d) : ixD (.tup xs) (.int n) m = .ok d m := by
 show opt (L2.atI xs n) m = _
 rw [zdL, h]
 rfl
theorem ix_l {xs : List D} {n : Nat} {d : D} (h : xs[n]? = some d) : ixD (.lst xs) (.int n) m = .ok d m := by
 show opt (L2.atI xs n) m = _
 rw [zdL, h]
 rfl
theorem ix_t0 (a : D) (xs : List D) : ixD (.tup (a :: xs)) (.int 0) m = .ok a m := ix_t (n := 0) rfl
theorem ix_t1 (a b : D) (xs : List D) : ixD (.tup (a :: b :: xs)) (.int 1) m = .ok b m := ix_t (n := 1) rfl
theorem ix_t2 (a b c : D) (xs : List D) : ixD (.tup (a :: b :: c :: xs)) (.int 2) m = .ok c m := ix_t (n := 2) rfl
theorem zcW {xs : List D} {d : Int} (h0 : 0 <= d) (h1 : d < xs.length) : ∃ x ∈ xs, ixD (.lst xs) (.int d) m = .ok x m := by
 obtain ⟨n, rfl⟩ : ∃ n : Nat, d = n := ⟨d.toNat, by (clear h1; omega)⟩
 have hn : n < xs.length := by (clear h0; omega)
 exact ⟨xs[n], List.getElem_mem hn, ix_l (by simp [hn])⟩
end
theorem za6 {n : Nat} {it : AV} {g : GV} {el : EV} {ρ : En} {m : Sto} {ds : List D} (f : D -> D) (h : it ρ m = .ok ds m) (hl : ds.length <= 1000000) (hf : ∀ d ∈ ds, ∃ ρ1, g d (ρ ++ List.replicate n none) m = .ok ρ1 m /\ el ρ1 m = .ok (f d) m) : zaQ n it g za2 el ρ m = .ok (ds.map f) m := by
 unfold zaQ
 rw [h, bind_ok, if_pos hl]
 exact zhL f ds hf
theorem zcE {n : Nat} {it : AV} {g : GV} {el : EV} {ρ : En} {m : Sto} {ds : List D} (I : Nat -> Sto -> Prop) (P : Nat -> D -> D -> Prop) (h : it ρ m = .ok ds m) (hl : ds.length <= 1000000) (h0 : I 0 m) (hf : ∀ i d m, ds[i]? = some d -> I i m -> Run ((g d (ρ ++ List.replicate n none) m).bind el) fun x m3 => P i d x /\ I (i + 1) m3) :
  Run (zaQ n it g za2 el ρ m) fun xs m' => xs.length = ds.length /\ (∀ i d x, ds[i]? = some d -> xs[i]? = some x -> P i d x) /\ I ds.length m' := by
 unfold zaQ
 rw [h, bind_ok, if_pos hl]
 have := zeZ (g := g) (el := el) (ρ := ρ ++ List.replicate n none) I P ds 0 h0 (fun i d m hd hi => by
  have := hf i d m hd (by rw [Nat.zero_add] at hi; exact hi)
  rw [Nat.zero_add]
  exact this)
 simpa only [Nat.zero_add] using this
theorem zaZ (lo : Int) (n : Nat) : (zcA lo n).length = n := by simp [zcA]
theorem zhg {j : Int} {m : Sto} (h : 0 <= j) (h' : j <= 1000000) : zlZ [.int j] m = .ok (zcA 0 j.toNat) m := by rw [zi5]; exact if_pos ⟨by (clear h'; omega), by (clear h; omega)⟩
theorem znn {a b : String} (h : Str.ofString a = Str.ofString b) : a = b := by
 rw [PySem.Str.ofString_eq_toList, PySem.Str.ofString_eq_toList] at h
 have h2 := congrArg (fun s : Str => s.cps.toList) h
 exact String.toList_inj.mp ((List.map_inj_right fun x y e => Char.toNat_inj.mp e).mp h2)
theorem ofs_eq (a b : String) : (Str.ofString a = Str.ofString b) = (a = b) := propext ⟨znn, fun h => by rw [h]⟩
local macro_rules | `(tactic| walk_at "w") => do
  let ids := ("run_at fin_nx fin_rt seq_at seq_nx seq_rt nil_at ret_at rt_at retN_at drop_at kdrop_at if_at kif_at asg_at kasg_at nx_at gs_nil gs_cons gT_at par_at kpar_at List.set_cons_zero List.set_cons_succ for_at kfor_at eC_at op_at kop_at un_at fn_at ife_at kife_at aNil_at aCons_at kcons_at kcons2_at asB_at tV_at andT_at kandT_at orT_at korT_at notT_at knotT_at and_at kand_at or_at kor_at not_at knot_at aIt_at sq_t sq_l sq_s sq_c rngA_at enumA_at kenum_t kenum_l zipA_at kzip_at zip3A_at kzip3_at kzip4_at oNone_at oSome_at ksome_at slD_at ksl1_at ksl2_at slA_at kslA1_at kslA2_at meth_at kmeth_at isStr_at isTup_at chain_at kch1_at kch2_at kch3_at put_at kputA_at kputB_at kputC_at kputE_at bind_ok bind_then then_at var_0 var_S gN_at Bool.false_eq_true reduceIte List.map_cons List.map_nil List.length_cons List.length_nil Nat.reduceAdd Nat.reduceSub List.cons_append List.nil_append add_i sub_i eq_i ne_i eq_s ne_s lt_i le_i gt_i ge_i lst_0 lst_2 lst_3 lst_4 lst_5 tup_0 tup_1 tup_2 tup_3 min_i len_t len_l tup_l l1 ix_t0 ix_t1 ix_t2 List.replicate List.append_nil decide_eq_true_eq Bool.not_true Bool.not_false eq_self not_true_eq_false not_false_eq_true decide_true decide_false ofs_eq String.reduceEq".splitOn " ").toArray.map fun s => Lean.mkIdent s.toName
  `(tactic| try simp only [$[$ids:ident],*])
theorem zbW {m : Sto} {p : Nat} {kvs : List (L2.Key × D)} {k : Str} {d : D} (h : m[p]? = some (.dct kvs)) (e : zg4 kvs (.inr k) = some d) : ixD (.ob p) (.str k) m = .ok d m := by
 simp only [ixD, h, e, opt]
theorem zmX {m : Sto} {p : Nat} {kvs : List (L2.Key × D)} {k : Str} {d : D} (h : m[p]? = some (.dct kvs)) (hl : kvs.length < sizeLine) : zfk (.ob p) (.str k) d m = .ok () (m.set p (.dct (zjl kvs (.inr k) d))) := by
 simp only [zfk, h, zj0, if_pos hl]
theorem zdd {m : Sto} {p : Nat} {o o' : MO} (h : m[p]? = some o) : (m.set p o')[p]? = some o' := List.getElem?_set_self (List.getElem?_eq_some_iff.mp h).1
theorem za4 {m : Sto} {p j : Nat} {o : MO} (h : p ≠ j) : (m.set p o)[j]? = m[j]? := List.getElem?_set_ne h
theorem Fr.set {p q : Nat} {m : Sto} {o : MO} : Fr p q m (m.set p o) := ⟨by rw [List.length_set]; exact Nat.le_refl _, fun j _ h _ => za4 (Ne.symm h)⟩
theorem Fr.set' {p q : Nat} {m : Sto} {o : MO} : Fr p q m (m.set q o) := ⟨by rw [List.length_set]; exact Nat.le_refl _, fun j _ _ h => za4 (Ne.symm h)⟩
theorem zjN (x : Int) : -(2 ^ 64) < x % 1000003 + 69621 /\ x % 1000003 + 69621 < 2 ^ 64 := by
 have h0 := Int.emod_nonneg x (b := 1000003) (by decide)
 have h1 := Int.emod_lt_of_pos x (b := 1000003) (by decide)
 (clear h1 h0; omega)
theorem zjp {m : Sto} {q : Nat} {a : Int} {own : List Int} (h : m[q]? = some (.lst ((a :: own).map D.int))) : popM (.ob q) [.int 0] m = .ok (.int a) (m.set q (.lst (own.map D.int))) := by
 simp only [popM, h]; rw [if_pos (by decide)]
 have e : seqIndex? 0 ((a :: own).map D.int).length = some 0 := by
  simp [seqIndex?]
 rw [e]
 simp
inductive Kd where
 | step (n : Int) | turn (row : List Int) | wth (i : Nat) (f : Int) | still | drawn
def Kd.e : Kd -> D
 | .step n => .tup [.str "step", .int n]
 | .turn row => .tup [.str "turn", .tup (row.map D.int)]
 | .wth i f => .tup [.str "with", .int i, .int f]
 | .still => .tup [.str "still"]
 | .drawn => .tup [.str "drawn"]
def Kd.Ok (pl b : Nat) : Kd -> Prop
 | .step n => 0 <= n /\ n < 2 ^ b
 | .turn row => row ≠ [] /\ row.length <= 12 /\ ∀ v ∈ row, 0 <= v /\ v < 2 ^ b
 | .wth i f => i < pl /\ -99 <= f /\ f <= 99
 | _ => True
theorem p2 (b : Nat) : (0 : Int) < 2 ^ b := Int.pow_pos (by decide)
theorem p2le {b : Nat} (h : b <= 40) : (2 : Int) ^ b <= 2 ^ 40 := by
 have := Nat.pow_le_pow_right (n := 2) (by decide) h
 exact_mod_cast this
theorem p2lt {b : Nat} (h : b <= 40) : (2 : Int) ^ b < 2 ^ 64 := Int.lt_of_le_of_lt (p2le h) (by decide)
structure Fd where
 nm : Str
 b : Nat
 kd : Kd
def Fd.e (f : Fd) : D := .tup [.str f.nm, .int f.b, f.kd.e]
theorem zmn {m : Sto} {r : Nat} {xs : List D} {d : D} (h : m[r]? = some (.lst xs)) (hl : xs.length < sizeLine) : zcn (.ob r) [d] m = .ok .non (m.set r (.lst (xs ++ [d]))) := by
 simp only [zcn, h, if_pos hl]
theorem zmc {m : Sto} {r : Nat} {xs : List D} (h : m[r]? = some (.lst xs)) : zck (.ob r) m = true := by simp only [zck, h]
theorem zlm {z : Str} {n : Int} {m : Sto} (h : z.length = 1) (h0 : 0 <= n) (h1 : n <= 1000) : zc2 (.str z) (.int n) m = .ok (.str (Txt.mul z n)) m := by rw [zeS]; exact if_pos ⟨h0, h1, by (clear h1 h0; omega)⟩
theorem zhc {n : Nat} (h : n < 1000) : n < sizeLine := Nat.lt_trans h (by decide)
theorem zl5 {m : Sto} : zfl (.int 10) (.int 6) m = .ok (.int 1000000) m := by
 rw [zdt]
 have e : zm4 (.int 10) (.int 6) m = if (0 : Int) <= 6 /\ (6 : Int) <= 1000000 /\ (10 : Int).natAbs < 2 ^ 64 then .ok (.int ((10 : Int) ^ (6 : Int).toNat)) m else .bad := rfl
 rw [e, if_pos (by decide)]
 rfl
theorem zaJ {τ : Type} {r : Res τ} {x : τ} {m : Sto} (h : Run r fun a m' => a = x /\ m' = m) : r = .ok x m := by
 obtain ⟨a, m', e, rfl, rfl⟩ := h
 exact e
theorem md2 (x : Int) (b : Nat) : 0 <= x % 2 ^ b /\ x % 2 ^ b < 2 ^ b := ⟨Int.emod_nonneg _ (Int.ne_of_gt (p2 b)), Int.emod_lt_of_pos _ (p2 b)⟩
def shD (fs : List Fd) (n : Int) : D := .tup [.tup (fs.map Fd.e), .int n]
theorem zfY {fs : List Fd} {n : Int} {m : Sto} (h : fs.length <= 1000) : Run (zbZ [shD fs n] m) fun a m' => a = .lst (fs.map fun f => .int f.b) /\ m' = m := by
 unfold zbZ zeg shD; walk_at "w"
 rw [za6 (ds := fs.map Fd.e) (fun d => match d with | .tup [_, b, _] => b | d => d)]
 ·walk_at "w"
  refine Run.ok ⟨?_, rfl⟩
  rw [List.map_map]
  rfl
 ·walk_at "w"
 ·rw [List.length_map]; omega
 ·intro d hd
  simp only [List.mem_map] at hd
  obtain ⟨f, _, rfl⟩ := hd
  exact ⟨_, rfl, (ix_t1 (.str f.nm) (.int f.b) [f.kd.e] : ixD (.tup _) (.int 1) m = _)⟩
open PySem L2
structure HdOk (fs : List Fd) (fo : List Int) : Prop where
 len : fo.length = fs.length
 at' : ∀ (i : Nat) (f : Fd) (v : Int), fs[i]? = some f -> fo[i]? = some v -> 0 <= v /\ v < 2 ^ f.b
open PySem PyProof.Rows L2 Mth
section
variable {m : Sto}
theorem isi_tt (xs : List D) : zbb "tuple" (.tup xs) m = .ok (.bl true) m := rfl
theorem isi_ii (a : Int) : zbb "int" (.int a) m = .ok (.bl true) m := rfl
theorem isi_bi (a : Int) : zbb "bool" (.int a) m = .ok (.bl false) m := rfl
end
theorem lift {τ : Type} (enc : τ -> D) (P : Nat -> τ -> Prop) : ∀ (xs : List D) (k : Nat), (∀ i x, xs[i]? = some x -> ∃ t, x = enc t /\ P (k + i) t) -> ∃ l : List τ, xs = l.map enc /\ ∀ i t, l[i]? = some t -> P (k + i) t
 | [], k, _ => ⟨[], rfl, fun i t h => by simp at h⟩
 | x :: xs, k, h => by
  obtain ⟨t, rfl, ht⟩ := h 0 x rfl
  obtain ⟨l, rfl, hl⟩ := lift enc P xs (k + 1) fun i x hx => by
   rw [show k + 1 + i = k + (i + 1) by omega]
   exact h (i + 1) x (by simpa using hx)
  refine ⟨t :: l, rfl, fun i u hu => ?_⟩
  cases i with
  | zero => simp at hu; subst hu; exact ht
  | succ i =>
   rw [show k + (i + 1) = k + 1 + i by omega]
   exact hl i u (by simpa using hu)
open PySem L2
theorem zm6 {m : Sto} : zfl (.int 10) (.int 18) m = .ok (.int 1000000000000000000) m := by
 rw [zdt]
 have e : zm4 (.int 10) (.int 18) m = if (0 : Int) <= 18 /\ (18 : Int) <= 1000000 /\ (10 : Int).natAbs < 2 ^ 64 then .ok (.int ((10 : Int) ^ (18 : Int).toNat)) m else .bad := rfl
 rw [e, if_pos (by decide)]
 rfl
theorem add_s {a b : Str} {m : Sto} (h : a.length + b.length <= sizeLine) : zaW (.str a) (.str b) m = .ok (.str (a ++ b)) m := if_pos h
open PySem L2
theorem zeu {a b : Str} (h : a.cps.toList = b.cps.toList) : a = b := by
 cases a; cases b
 congr 1
 exact Array.ext' h
open PySem PyProof.Rows L2 Mth
theorem ziE {xs ys : List D} : ∀ {i : Nat} {d : D}, (zbM xs ys)[i]? = some d -> ∃ x y, xs[i]? = some x /\ ys[i]? = some y /\ d = .tup [x, y] := by
 induction xs generalizing ys with
 | nil => intro i d h; simp [zbM] at h
 | cons x xs ih =>
  intro i d h
  cases ys with
  | nil => simp [zbM] at h
  | cons y ys =>
   rw [zbM] at h
   cases i with
   | zero => simp at h; exact ⟨x, y, rfl, rfl, h.symm⟩
   | succ i =>
    simp only [List.getElem?_cons_succ] at h
    obtain ⟨a, b, h1, h2, h3⟩ := ih h
    exact ⟨a, b, by simpa using h1, by simpa using h2, h3⟩
theorem zda : ∀ {xs ys : List D}, xs.length <= ys.length -> (zbM xs ys).length = xs.length
 | [], ys, _ => by simp [zbM]
 | x :: xs, [], h => by simp at h
 | x :: xs, y :: ys, h => by
  rw [zbM, List.length_cons, List.length_cons, zda (by simpa using h)]
theorem zdN {τ : Type} (f : τ -> Bool) : ∀ l : List τ, zgX (l.map fun t => D.bl (f t)) = some (l.map f)
 | [] => rfl
 | a :: r => by simp only [List.map_cons, zgX, zdN f r]; rfl
open PySem L2
theorem neg_1 {m : Sto} : zma (.int 1) m = .ok (.int (-1)) m := rfl
theorem len_ob {m : Sto} {r : Nat} {xs : List D} (h : m[r]? = some (.lst xs)) : zdW [.ob r] m = .ok (.int xs.length) m := by simp only [zdW, h]
theorem int_b (b : Bool) {m : Sto} : ziC [.bl b] m = .ok (.int (if b then 1 else 0)) m := rfl
theorem max_i (a b : Int) {m : Sto} : max2F [.int a, .int b] m = .ok (.int (if b > a then b else a)) m := rfl
open PySem L2
section
variable {m : Sto}
theorem is_nn : isD .non .non m = .ok (.bl true) m := rfl
theorem isnt_nn : isntD .non .non m = .ok (.bl false) m := rfl
theorem zmp (a : Int) : zaN [.int a] m = .ok (.bl true) m := by
 apply zaJ
 unfold zaN zdH; walk_at "w"; rw [isi_ii]; walk_at "w"; rw [isi_bi]; walk_at "w"; exact Run.ok ⟨rfl, rfl⟩
theorem zkG (a lo hi : Int) : za3 [.int a, .int lo, .int hi] m = .ok (.bl (decide (lo <= a /\ a <= hi))) m := by
 apply zaJ
 unfold za3 zcm; walk_at "w"; rw [zmp]; walk_at "w"
 by_cases h : lo <= a
 ·rw [if_pos h]; walk_at "w"; exact Run.ok ⟨by congr 1; simp [h], rfl⟩
 ·rw [if_neg h]; walk_at "w"; exact Run.ok ⟨by congr 1; simp [h], rfl⟩
theorem znD (xs : List D) (lo hi : Int) : zfM [.tup xs, .int lo, .int hi] m = .ok (.bl (decide (lo <= xs.length /\ (xs.length : Int) <= hi))) m := by
 apply zaJ
 unfold zfM zkg; walk_at "w"; rw [isi_tt]; walk_at "w"
 by_cases h : lo <= xs.length
 ·rw [if_pos h]; walk_at "w"; exact Run.ok ⟨by congr 1; simp [h], rfl⟩
 ·rw [if_neg h]; walk_at "w"; exact Run.ok ⟨by congr 1; simp [h], rfl⟩
theorem zka {v : Int} {b : Nat} (hb : b <= 1000000) : zbc [.int v, .int b] m = .ok (.bl (decide (0 <= v /\ v < 2 ^ b))) m := by
 apply zaJ
 unfold zbc zdI; walk_at "w"; rw [zh1 hb]; walk_at "w"; rw [zkG]; walk_at "w"
 refine Run.ok ⟨?_, rfl⟩
 congr 2
 exact propext ⟨fun h => ⟨h.1, by (clear hb; omega)⟩, fun h => ⟨h.1, by (clear hb; omega)⟩⟩
end
open PySem L2
open PySem L2
section
variable {m : Sto}
theorem zbO {d : D} (h : zbb "int" d m = .ok (.bl false) m ∨ (zbb "int" d m = .ok (.bl true) m /\ zbb "bool" d m = .ok (.bl true) m)) : zaN [d] m = .ok (.bl false) m := by
 apply zaJ
 unfold zaN zdH; walk_at "w"
 rcases h with h | ⟨h, h'⟩
 ·rw [h]; walk_at "w"; exact Run.ok ⟨rfl, rfl⟩
 ·rw [h]; walk_at "w"; rw [h']; walk_at "w"; exact Run.ok ⟨rfl, rfl⟩
theorem zgV {d : D} {lo hi : Int} (h : zaN [d] m = .ok (.bl false) m) : za3 [d, .int lo, .int hi] m = .ok (.bl false) m := by
 apply zaJ
 unfold za3 zcm; walk_at "w"; rw [h]; walk_at "w"; exact Run.ok ⟨rfl, rfl⟩
theorem zbP {d : D} {b : Nat} (hb : b <= 1000000) (h : zaN [d] m = .ok (.bl false) m) : zbc [d, .int b] m = .ok (.bl false) m := by
 apply zaJ
 unfold zbc zdI; walk_at "w"; rw [zh1 hb]; walk_at "w"; rw [zgV h]; walk_at "w"; exact Run.ok ⟨rfl, rfl⟩
end
theorem zbK {xs : List D} {m : Sto} (h : xs.length <= 1000) : zbu xs m = .ok (.lst xs) m := if_pos (Nat.le_trans h (by decide))
theorem dict_0 {ρ : En} {m : Sto} : zeY [] ρ m = .ok (.ob m.length) (m ++ [.dct []]) := rfl
theorem wn_b {β : Bool} {m : Sto} : zaN [.bl β] m = .ok (.bl false) m := zbO (.inr ⟨rfl, rfl⟩)
theorem wn_n {m : Sto} : zaN [.non] m = .ok (.bl false) m := zbO (.inl rfl)
theorem wn_s {s : Str} {m : Sto} : zaN [.str s] m = .ok (.bl false) m := zbO (.inl rfl)
theorem wn_t {xs : List D} {m : Sto} : zaN [.tup xs] m = .ok (.bl false) m := zbO (.inl rfl)
theorem wn_l {xs : List D} {m : Sto} : zaN [.lst xs] m = .ok (.bl false) m := zbO (.inl rfl)
theorem cut_to {τ : Type} (xs : List τ) (k : Nat) : zhK xs none (some (k : Int)) = xs.take k := by
 unfold zhK; rw [HT.sIx_nat, HT.sIx_none, List.drop_zero, Nat.sub_zero]
 rcases Nat.le_total k xs.length with h | h
 ·rw [Nat.min_eq_left h]
 ·rw [Nat.min_eq_right h, List.take_length, List.take_of_length_le h]
open PySem L2
def kGI3 (ρ : En) : Unit -> Sto -> Res En := fun _ m => .ok ρ m
def kGI2 (ρ : En) (d x : D) : D -> Sto -> Res En := fun y m => (putL x y d m).bind (kGI3 ρ)
def kGI1 (fi : EV) (ρ : En) (d : D) : D -> Sto -> Res En := fun x m => (fi ρ m).bind (kGI2 ρ d x)
section
variable {m : Sto} {ρ : En} {d x y : D} {fo fi : EV}
theorem gI_at : gI fo fi d ρ m = (fo ρ m).bind (kGI1 fi ρ d) := rfl
theorem zjY : kGI1 fi ρ d x m = (fi ρ m).bind (kGI2 ρ d x) := rfl
theorem zjX : kGI2 ρ d x y m = (putL x y d m).bind (kGI3 ρ) := rfl
theorem znz : kGI3 ρ () m = .ok ρ m := rfl
end
theorem alpha {j : Nat} {m : Sto} (h : j < 26) : ixD (.str "abcdefghijklmnopqrstuvwxyz") (.int j) m = .ok (.str ⟨#[97 + j]⟩) m := by
 have hc : ∀ j, j < 26 -> (Str.ofString "abcdefghijklmnopqrstuvwxyz").cps.toList[j]? = some (97 + j) := by decide
 have e : ixD (.str "abcdefghijklmnopqrstuvwxyz") (.int j) m = if (Str.ofString "abcdefghijklmnopqrstuvwxyz").length <= sizeLine then opt ((L2.atI (Str.ofString "abcdefghijklmnopqrstuvwxyz").cps.toList j).map fun c => D.str ⟨#[c]⟩) m else .bad := rfl
 rw [e, if_pos (by decide), zdL, hc j h]
 rfl
theorem zgW {i n : Nat} {d : D} (h : (zcA 0 n)[i]? = some d) : d = .int (i : Nat) := by
 have hi := (List.getElem?_eq_some_iff.mp h).1
 rw [zaZ] at hi
 simp only [zcA, List.getElem?_map, List.getElem?_range hi, Option.map_some, Option.some.injEq, Int.zero_add] at h
 exact h.symm
theorem znp {b : Nat} {y d : Int} (h : (2 : Int) ^ b ∣ (2 * y + 1) * d) : (2 : Int) ^ b ∣ d := by
 induction b generalizing d with
 | zero => simp
 | succ b ih =>
  obtain ⟨c, hc⟩ := h
  rw [Int.pow_succ] at hc
  have h2 : d % 2 = 0 := by
   have e1 : (2 * y + 1) * d = 2 * (y * d) + d := by rw [Int.add_mul, Int.mul_assoc, Int.one_mul]
   have e2 : 2 ^ b * 2 * c = 2 * (2 ^ b * c) := by rw [Int.mul_comm (2 ^ b) 2, Int.mul_assoc]
   rw [e1, e2] at hc
   generalize y * d = u at hc; generalize (2 : Int) ^ b * c = w at hc
   omega
  obtain ⟨d', rfl⟩ : ∃ d', d = 2 * d' := ⟨d / 2, by omega⟩
  have h3 : (2 : Int) ^ b ∣ (2 * y + 1) * d' := by
   refine ⟨c, ?_⟩
   have e1 : (2 * y + 1) * (2 * d') = 2 * ((2 * y + 1) * d') := by rw [Int.mul_left_comm]
   have e2 : 2 ^ b * 2 * c = 2 * (2 ^ b * c) := by rw [Int.mul_comm (2 ^ b) 2, Int.mul_assoc]
   rw [e1, e2] at hc
   omega
  obtain ⟨e, he⟩ := ih h3
  exact ⟨e, by rw [he, Int.pow_succ, Int.mul_comm (2 ^ b) 2, Int.mul_assoc]⟩
theorem zmJ {b : Nat} {f y : Int} {i j : Nat} (hi : (i : Int) < 2 ^ b) (hj : (j : Int) < 2 ^ b) (h : (f + (2 * y + 1) * i) % 2 ^ b = (f + (2 * y + 1) * j) % 2 ^ b) : i = j := by
 have h1 : (2 : Int) ^ b ∣ (2 * y + 1) * ((i : Int) - j) := by
  have := Int.dvd_of_emod_eq_zero (Int.emod_eq_emod_iff_emod_sub_eq_zero.mp h)
  rw [show f + (2 * y + 1) * i - (f + (2 * y + 1) * j) = (2 * y + 1) * ((i : Int) - j) by rw [Int.mul_sub]; omega] at this
  exact this
 obtain ⟨c, hc⟩ := znp h1
 have hb := p2 b
 generalize (2 : Int) ^ b = B at *
 rcases Int.lt_trichotomy c 0 with h0 | h0 | h0
 ·have : B * c <= B * (-1) := Int.mul_le_mul_of_nonneg_left (by omega) (by omega)
  omega
 ·subst h0; omega
 ·have : B * 1 <= B * c := Int.mul_le_mul_of_nonneg_left (by omega) (by omega)
  omega
def Kd.Ok2 (pl b : Nat) (k : Kd) : Prop := k.Ok pl b /\ ∀ row, k = .turn row -> 2 <= row.length /\ row.Nodup
def Pl : D -> Prop
 | .int _ | .bl _ | .non | .str _ | .tup _ | .lst _ => True
 | _ => False
def okV (d : D) (b : Nat) : Bool := match d with
 | .int v => decide (0 <= v /\ v < 2 ^ b)
 | _ => false
def zz (xs : List D) (fs : List Fd) : List Bool := List.zipWith (fun x f => okV x f.b) xs fs
def zmi (fs : List Fd) (d : D) : Bool := match d with
 | .tup xs => decide (xs.length = fs.length) && (zz xs fs).all id
 | _ => false
theorem zgI {d : D} {b : Nat} {m : Sto} (hd : Pl d) (hb : b <= 1000000) : zbc [d, .int b] m = .ok (.bl (okV d b)) m := by
 match d, hd with
 | .int v, _ => exact zka hb
 | .bl _, _ => exact zbP hb wn_b
 | .non, _ => exact zbP hb wn_n
 | .str _, _ => exact zbP hb wn_s
 | .tup _, _ => exact zbP hb wn_t
 | .lst _, _ => exact zbP hb wn_l
def fZ (d : D) : D := match d with
 | .tup [x, .int b] => .bl (okV x b.toNat)
 | .tup [x, .tup [_, .int b, _]] => .bl (okV x b.toNat)
 | _ => .non
theorem zz_b : ∀ {xs : List D} {fs : List Fd}, (zbM xs (fs.map fun f => D.int f.b)).map fZ = (zz xs fs).map D.bl
 | [], _ => by simp [zbM, zz]
 | _ :: _, [] => by simp [zbM, zz]
 | x :: xs, f :: fs => by
  simp only [List.map_cons, zbM, zz, List.zipWith_cons_cons]; rw [zz_b]
  rfl
theorem zdO (bs : List Bool) {m : Sto} : zlP [.lst (bs.map D.bl)] m = .ok (.bl (bs.all id)) m := by
 simp only [zlP, lOf, Option.bind_some]; rw [zdN (fun b => b)]
 simp
open PySem L2
def chB (c : Nat) : Bool := decide (97 <= c /\ c <= 122)
def nmB (x : Str) : Bool := decide (1 <= x.length /\ x.length <= 8) && x.cps.toList.all chB
theorem len_str {z : Str} {m : Sto} (h : z.length <= sizeLine) : zdW [.str z] m = .ok (.int z.length) m := if_pos h
theorem zho (a b : Nat) : ltS ⟨#[a]⟩ ⟨#[b]⟩ = decide (a < b) := by
 unfold ltS
 apply decide_eq_decide.mpr
 show [a] < [b] ↔ a < b
 rw [List.cons_lt_cons_iff]
 simp
theorem zls (a b : Str) {m : Sto} : leD (.str a) (.str b) m = .ok (.bl (!ltS b a)) m := rfl
structure ShG (fs : List Fd) : Prop where
 at' : ∀ (i : Nat) (f : Fd), fs[i]? = some f -> 0 < f.b /\ f.b <= 40 /\ f.kd.Ok2 i f.b
 nm : ∀ x ∈ fs.map Fd.nm, nmB x = true /\ x.length <= 8
 nd : (fs.map Fd.nm).Nodup
open PySem L2
def zgU (q : Nat) (seed turn : Int) : List (L2.Key × D) := [(Sum.inr "own", .ob q), (Sum.inr "seed", .int seed), (Sum.inr "turn", .int turn)]
structure P3 (m0 : Sto) (p q : Nat) (c : Nat) (m : Sto) : Prop where
 ex : ∃ (own : List Int) (seed turn : Int), m[p]? = some (.dct (zgU q seed turn)) /\ m[q]? = some (.lst (own.map D.int)) /\ p ≠ q /\ own.length <= 63 /\ (∀ a ∈ own, 0 <= a) /\ 0 <= seed /\ seed < 2 ^ 62 /\ 0 <= turn /\ turn <= c
 fr : Fr p q m0 m
theorem P3.more {m0 : Sto} {p q c c' : Nat} {m : Sto} (h : P3 m0 p q c m) (k : c <= c') : P3 m0 p q c' m := by
 obtain ⟨own, s, t, h1, h2, h3, h4, h5, h6, h7, h8, h9⟩ := h.ex
 exact ⟨⟨own, s, t, h1, h2, h3, h4, h5, h6, h7, h8, by (clear h8 h7 h6 h4 h3; omega)⟩, h.fr⟩
theorem P3.re {m0 : Sto} {p q c : Nat} {m : Sto} (h : P3 m0 p q c m) : P3 m p q c m := ⟨h.ex, Fr.refl⟩
theorem P3.via {m0 : Sto} {p q c c' : Nat} {m m' : Sto} (h : P3 m0 p q c m) (h' : P3 m p q c' m') : P3 m0 p q c' m' := ⟨h'.ex, h.fr.trans h'.fr⟩
theorem P3.lt {m0 : Sto} {p q c : Nat} {m : Sto} (h : P3 m0 p q c m) : p < m.length /\ q < m.length := by
 obtain ⟨own, s, t, h1, h2, _⟩ := h.ex
 exact ⟨(List.getElem?_eq_some_iff.mp h1).1, (List.getElem?_eq_some_iff.mp h2).1⟩
theorem P3.app {m0 : Sto} {p q c : Nat} {m r : Sto} (h : P3 m0 p q c m) : P3 m0 p q c (m ++ r) := by
 obtain ⟨own, s, t, h1, h2, h3⟩ := h.ex
 exact ⟨⟨own, s, t, by rw [List.getElem?_append_left (List.getElem?_eq_some_iff.mp h1).1]; exact h1, by rw [List.getElem?_append_left (List.getElem?_eq_some_iff.mp h2).1]; exact h2, h3⟩, by rw [List.length_append]; exact Nat.le_trans h.fr.len (Nat.le_add_right _ _), fun j a b d => by rw [List.getElem?_append_left (Nat.lt_of_lt_of_le a h.fr.len)]; exact h.fr.at' j a b d⟩
theorem P3.set {m0 : Sto} {p q c r : Nat} {m : Sto} {o : MO} (h : P3 m0 p q c m) (h0 : m0.length <= r) (h1 : r ≠ p) (h2 : r ≠ q) : P3 m0 p q c (m.set r o) := by
 obtain ⟨own, s, t, g1, g2, h3⟩ := h.ex
 exact ⟨⟨own, s, t, by rw [za4 h1]; exact g1, by rw [za4 h2]; exact g2, h3⟩, by rw [List.length_set]; exact h.fr.len, fun j a b d => by rw [za4 (by omega)]; exact h.fr.at' j a b d⟩
theorem P3.kept {m : Sto} {p q c r : Nat} {m' : Sto} {o : MO} (h : P3 m p q c m') (hr : m[r]? = some o) (h1 : r ≠ p) (h2 : r ≠ q) : m'[r]? = some o := by
 rw [h.fr.at' r (List.getElem?_eq_some_iff.mp hr).1 h1 h2]; exact hr
theorem zcS (q : Nat) (s t : Int) : zg4 (zgU q s t) (.inr "own") = some (.ob q) := rfl
theorem zmr (q : Nat) (s t : Int) : zg4 (zgU q s t) (.inr "seed") = some (.int s) := rfl
theorem ziH (q : Nat) (s t : Int) : zg4 (zgU q s t) (.inr "turn") = some (.int t) := rfl
theorem zng (q : Nat) (s t v : Int) : zjl (zgU q s t) (.inr "turn") (.int v) = zgU q s v := rfl
theorem zlM (q : Nat) (s t : Int) : (zgU q s t).length < sizeLine := by show 3 < sizeLine; decide
def znh : TV := (zhY (tV (eOp neD (eOp ixD (zae 0) (eC (.str "own"))) (eFn zbu zak))) (tV (eOp eqD (eOp ixD (eOp ixD (zae 0) (eC (.str "own"))) (eC (.int 0))) (eC (.int 0)))))
def ownB : SV := (zgi (zbm zck popM (eOp ixD (zae 0) (eC (.str "own"))) (zac (eC (.int 0)) zak)))
theorem zjI {q : Nat} {own : List Int} {m : Sto} (h2 : m[q]? = some (.lst (own.map D.int))) : neD (.ob q) (.lst []) m = .ok (.bl (!decide (own = []))) m := by
 have e := znS own []
 rw [List.map_nil] at e
 simp only [neD, rs, h2, e]
theorem zj7 {q : Nat} {a : Int} {own : List Int} {m : Sto} (h2 : m[q]? = some (.lst ((a :: own).map D.int))) : ixD (.ob q) (.int 0) m = .ok (.int a) m := by
 simp only [ixD, h2]
 show opt (atI _ ((0 : Nat) : Int)) m = _
 rw [zdL]
 rfl
theorem zhj {p q : Nat} {seed turn : Int} {ρ : En} : ∀ (own : List Int) (n : Nat) (m : Sto), own.length < n -> m[p]? = some (.dct (zgU q seed turn)) -> m[q]? = some (.lst (own.map D.int)) -> p ≠ q →
  Run (zdV znh ownB n (some (.ob p) :: ρ) m) fun fl m' => fl = .nx (some (.ob p) :: ρ) /\ ∃ own' : List Int, (own' = [] ∨ ∃ a r, own' = a :: r /\ a ≠ 0) /\ (∀ a ∈ own', a ∈ own) /\ own'.length <= own.length /\ m'[p]? = some (.dct (zgU q seed turn)) /\ m'[q]? = some (.lst (own'.map D.int)) /\ Fr p q m m'
 | own, 0, m, h, _, _, _ => absurd h (Nat.not_lt_zero _)
 | [], n + 1, m, h, h1, h2, h3 => by
  rw [zdV]
  have e : znh (some (.ob p) :: ρ) m = .ok false m := by
   unfold znh; walk_at "w"; rw [zbW h1 (zcS _ _ _)]; walk_at "w"; rw [zjI (own := []) h2]
   rfl
  rw [e, bind_ok, if_neg (by decide)]; exact Run.ok ⟨rfl, [], .inl rfl, fun _ h => h, Nat.le_refl _, h1, h2, Fr.refl⟩
 | a :: own, n + 1, m, h, h1, h2, h3 => by
  rw [zdV]
  have e : znh (some (.ob p) :: ρ) m = .ok (decide (a = 0)) m := by
   unfold znh; walk_at "w"; rw [zbW h1 (zcS _ _ _)]; walk_at "w"; rw [zjI h2]; rw [decide_eq_false (by simp)]; walk_at "w"; rw [zbW h1 (zcS _ _ _)]; walk_at "w"; rw [zj7 h2]; walk_at "w"
  rw [e, bind_ok]
  by_cases h0 : a = 0
  ·rw [if_pos (decide_eq_true h0)]
   have eb : ownB (some (.ob p) :: ρ) m = .ok (.nx (some (.ob p) :: ρ)) (m.set q (.lst (own.map D.int))) := by
    unfold ownB; walk_at "w"; rw [zbW h1 (zcS _ _ _)]; walk_at "w"; rw [if_pos (show zck (.ob q) m = true by simp only [zck, h2])]; walk_at "w"; rw [zjp h2]; walk_at "w"
   rw [eb, bind_ok]
   refine Run.mono (zhj own n (m.set q (.lst (own.map D.int))) (by simp at h; omega) (by rw [za4 (Ne.symm h3)]; exact h1) (zdd h2) h3) ?_
   rintro fl m' ⟨rfl, own', g1, g2, g3, g4, g5, g6⟩
   exact ⟨rfl, own', g1, fun x hx => List.mem_cons_of_mem _ (g2 x hx), by simp; omega, g4, g5, Fr.set'.trans g6⟩
  ·rw [if_neg (by simp [h0])]; exact Run.ok ⟨rfl, a :: own, .inr ⟨a, own, rfl, h0⟩, fun _ h => h, Nat.le_refl _, h1, h2, Fr.refl⟩
theorem zmW {q : Nat} {a b : Int} {own : List Int} {m : Sto} (h2 : m[q]? = some (.lst ((a :: own).map D.int))) : putL (.ob q) (.int 0) (.int b) m = .ok () (m.set q (.lst ((b :: own).map D.int))) := by
 have e : ixN ((a :: own).map D.int).length 0 = some 0 := by
  unfold ixN; rw [if_pos (by decide), if_pos (by simp)]
  rfl
 simp only [putL, h2, e]
 rfl
theorem zkN {n : Nat} {t : TV} {b : SV} {ρ : En} {m : Sto} : zfd n t b ρ m = zdV t b n ρ m := rfl
open PySem L2
theorem zhh (c : Nat) : ∀ (k : Nat) (a : Array Nat), ((List.replicate k #[c]).foldl (· ++ ·) a).toList = a.toList ++ List.replicate k c
 | 0, a => by simp
 | k + 1, a => by
  rw [List.replicate_succ, List.foldl_cons, zhh c k]
  simp [List.replicate_succ]
theorem mul_one {c : Nat} {n : Nat} (h : 1 <= n) : (Txt.mul ⟨#[c]⟩ (n : Nat)).cps.toList = List.replicate n c := by
 unfold Txt.mul
 rw [if_neg (by omega)]
 split
 ·rename_i h2
  have : n = 1 := by
   rw [Bool.or_eq_true] at h2
   rcases h2 with h2 | h2
   ·have := eq_of_beq h2
    omega
   ·exact absurd (eq_of_beq h2) (by show ¬ 1 = 0; decide)
  subst this
  rfl
 ·show ((List.replicate (n : Int).toNat #[c]).foldl (· ++ ·) #[]).toList = _
  rw [zhh]
  simp
theorem nm_mul {j n : Nat} (hj : j < 26) (h1 : 1 <= n) (h2 : n <= 8) : nmB (Txt.mul ⟨#[97 + j]⟩ (n : Nat)) = true /\ (Txt.mul ⟨#[97 + j]⟩ (n : Nat)).length <= 8 /\ (Txt.mul ⟨#[97 + j]⟩ (n : Nat)).cps.toList.head? = some (97 + j) := by
 have e := mul_one (c := 97 + j) h1
 have hl : (Txt.mul ⟨#[97 + j]⟩ (n : Nat)).length = n := by
  show (Txt.mul ⟨#[97 + j]⟩ (n : Nat)).cps.size = n
  rw [<- Array.length_toList, e, List.length_replicate]
 refine ⟨?_, by omega, ?_⟩
 ·unfold nmB; rw [hl, e, decide_eq_true ⟨h1, h2⟩, Bool.true_and, List.all_eq_true]
  intro x hx
  have := (List.mem_replicate.mp hx).2
  subst this
  simp only [chB, decide_eq_true_eq]
  omega
 ·rw [e]
  cases n with
  | zero => omega
  | succ n => rfl
open PySem L2
theorem zdu {m : Sto} : zfl (.int 10) (.int 60) m = .ok (.int (10 ^ 60)) m := by
 rw [zdt]
 have e : zm4 (.int 10) (.int 60) m = if (0 : Int) <= 60 /\ (60 : Int) <= 1000000 /\ (10 : Int).natAbs < 2 ^ 64 then .ok (.int ((10 : Int) ^ (60 : Int).toNat)) m else .bad := rfl
 rw [e, if_pos (by decide)]
 rfl
theorem zhl {a b : Int} {m : Sto} (h : a.natAbs.log2 < 1100 /\ b.natAbs.log2 < 1100) : znu (.int a) (.int b) m = .ok (.int (a * b)) m := by rw [zjL]; exact if_pos h
theorem znP : (0 : Int) < 10 ^ 60 * 10 ^ 60 * 10 ^ 60 * 10 ^ 60 * 10 ^ 60 := by decide +kernel
theorem abs_i (c : Int) {m : Sto} : absF [.int c] m = .ok (.int c.natAbs) m := by
 have e : (if c < 0 then -c else c) = (c.natAbs : Int) := by split <;> omega
 rw [<- e]
 rfl
theorem sl_scr {ns : List Int} {m : Sto} : slD (.scr (ns.map D.int)) none (some 63) m = .ok (.lst ((ns.take 63).map D.int)) m := by
 show Res.ok (D.lst (zhK (ns.map D.int) none (some ((63 : Nat) : Int)))) m = _
 rw [cut_to, List.map_take]
theorem zen {a b : List D} {m : Sto} (h : a.length + b.length <= 1000) : zaW (.lst a) (.lst b) m = .ok (.lst (a ++ b)) m := if_pos (Nat.le_trans h (by decide))
open PySem L2
theorem zf4 {τ : Type} (l : List τ) {m : Sto} : zlP [.lst (l.map fun _ => D.bl true)] m = .ok (.bl true) m := by
 rw [show (l.map fun _ => D.bl true) = (l.map fun _ => true).map D.bl by simp, zdO]
 simp
section
variable {c f mth : Str} {fa fv : EV} {fr : AV} {ρ : En} {m : Sto} {d : D} {g : List D -> Sto -> Res D}
def kFs3 (ρ : En) : Unit -> Sto -> Res Fl := fun _ m3 => .ok (.nx ρ) m3
def kFs2 (c f : Str) (ρ : En) (y : D) : D -> Sto -> Res Fl := fun x m2 => (setM c f x y m2).bind (kFs3 ρ)
def kFs1 (c f : Str) (fo : EV) (ρ : En) : D -> Sto -> Res Fl := fun y m1 => (fo ρ m1).bind (kFs2 c f ρ y)
theorem fld_at : eFld c f fa ρ m = (fa ρ m).bind (fldM c f) := rfl
theorem sfld_at : sFldM c f fa fv ρ m = (fv ρ m).bind (kFs1 c f fa ρ) := rfl
theorem kfs1_at : kFs1 c f fa ρ d m = (fa ρ m).bind (kFs2 c f ρ d) := rfl
theorem kfs2_at (x : D) : kFs2 c f ρ d x m = (setM c f x d m).bind (kFs3 ρ) := rfl
theorem kfs3_at : kFs3 ρ () m = .ok (.nx ρ) m := rfl
def kMt2 (g : List D -> Sto -> Res D) (x : D) : List D -> Sto -> Res D := fun ds m2 => g (x :: ds) m2
def kMt1 (c mth : Str) (g : List D -> Sto -> Res D) (fr : AV) (ρ : En) : D -> Sto -> Res D := fun x m1 => if znH c mth x m1 = true then (fr ρ m1).bind (kMt2 g x) else .bad
theorem mth_at : eMth c mth g fa fr ρ m = (fa ρ m).bind (kMt1 c mth g fr ρ) := rfl
theorem kmt1_at : kMt1 c mth g fr ρ d m = if znH c mth d m = true then (fr ρ m).bind (kMt2 g d) else .bad := rfl
theorem kmt2_at (ds : List D) : kMt2 g d ds m = g (d :: ds) m := rfl
def kPar3 (i j k : Nat) (ρ : En) : List D -> Sto -> Res Fl := fun ds m1 => match ds with
 | [x, y, z] => .ok (.nx (((ρ.set i (some x)).set j (some y)).set k (some z))) m1
 | _ => .bad
theorem par3_at (i j k : Nat) : sPar3 i j k fr ρ m = (fr ρ m).bind (kPar3 i j k ρ) := rfl
theorem kpar3_at (i j k : Nat) (x y z : D) : kPar3 i j k ρ [x, y, z] m = .ok (.nx (((ρ.set i (some x)).set j (some y)).set k (some z))) m := rfl
def kForO (h : GV) (b : SV) (ρ : En) : Nat × MO × List D -> Sto -> Res Fl := fun t m1 => zjS t.1 t.2.1 h b t.2.2 ρ m1
theorem forO_at {it : OI} {h : GV} {b : SV} : sForO it h b ρ m = (it ρ m).bind (kForO h b ρ) := rfl
theorem kforO_at {h : GV} {b : SV} (k : Nat) (o : MO) (ds : List D) : kForO h b ρ (k, o, ds) m = zjS k o h b ds ρ m := rfl
theorem objI_at : aObj fa ρ m = (fa ρ m).bind asObj := rfl
theorem isnt_in (i : Int) : isntD (.int i) .non m = .ok (.bl true) m := rfl
theorem is_in (i : Int) : isD (.int i) .non m = .ok (.bl false) m := rfl
end
local macro_rules | `(tactic| walk_at "w") => do
  let ids := ("run_at fin_nx fin_rt seq_at seq_nx seq_rt nil_at ret_at rt_at retN_at drop_at kdrop_at if_at kif_at asg_at kasg_at nx_at gs_nil gs_cons gT_at par_at kpar_at List.set_cons_zero List.set_cons_succ for_at kfor_at eC_at op_at kop_at un_at fn_at ife_at kife_at aNil_at aCons_at kcons_at kcons2_at asB_at tV_at andT_at kandT_at orT_at korT_at notT_at knotT_at and_at kand_at or_at kor_at not_at knot_at aIt_at sq_t sq_l sq_s sq_c rngA_at enumA_at kenum_t kenum_l zipA_at kzip_at zip3A_at kzip3_at kzip4_at oNone_at oSome_at ksome_at slD_at ksl1_at ksl2_at slA_at kslA1_at kslA2_at meth_at kmeth_at isStr_at isTup_at chain_at kch1_at kch2_at kch3_at put_at kputA_at kputB_at kputC_at kputE_at bind_ok bind_then then_at var_0 var_S gN_at Bool.false_eq_true reduceIte List.map_cons List.map_nil List.length_cons List.length_nil Nat.reduceAdd Nat.reduceSub List.cons_append List.nil_append add_i sub_i eq_i ne_i eq_s ne_s lt_i le_i gt_i ge_i lst_0 lst_2 lst_3 lst_4 lst_5 tup_0 tup_1 tup_2 tup_3 min_i len_t len_l tup_l l1 ix_t0 ix_t1 ix_t2 List.replicate List.append_nil decide_eq_true_eq Bool.not_true Bool.not_false eq_self not_true_eq_false not_false_eq_true decide_true decide_false ofs_eq String.reduceEq fld_at sfld_at kfs1_at kfs2_at kfs3_at mth_at kmt1_at kmt2_at par3_at kpar3_at forO_at kforO_at objI_at isnt_in is_in is_nn isnt_nn max_i".splitOn " ").toArray.map fun s => Lean.mkIdent s.toName
  `(tactic| try simp only [$[$ids:ident],*])
section
variable {m : Sto} {k l : Nat} {hs : List (List Int)} {had base : Option Nat} {fresh : Nat}
theorem znY (bs : List Bool) {m : Sto} : anyF [.lst (bs.map D.bl)] m = .ok (.bl (bs.any id)) m := by
 simp only [anyF, lOf, Option.bind_some]; rw [zdN (fun b => b)]
 simp
end
theorem zeW : zee = (zaG (zfd zkh znh ownB)
 (zaG (sIf (tV (eOp neD (eOp ixD (zae 0) (eC (.str "own"))) (eFn zbu zak)))
 (zaG (za1 (eOp zdU (eOp ixD (eOp ixD (zae 0) (eC (.str "own"))) (eC (.int 0))) (zae 1)) (gN 2))
 (zaG (za1 (eOp zeX (eOp ixD (eOp ixD (zae 0) (eC (.str "own"))) (eC (.int 0))) (zae 1)) (gI (eOp ixD (zae 0) (eC (.str "own"))) (eC (.int 0))))
 (zaV (zae 2))))
 zb4)
 (zaG (zkZ (zae 0) (eC (.str "turn")) (eOp zaW (eOp ixD (zae 0) (eC (.str "turn"))) (eC (.int 1))))
 (zaG (za1 (eOp ixD (zae 0) (eC (.str "turn"))) (gN 3))
 (zaG (za1 (eOp zaW (eOp zaW (eOp ixD (zae 0) (eC (.str "seed"))) (eOp zc2 (eOp zc2 (zae 3) (zae 3)) (eC (.int 7919)))) (eOp zc2 (zae 3) (eC (.int 104729)))) (gN 4))
 (zaG (za1 (eOp zdU (eOp zc2 (zae 4) (eC (.int 48271))) (eC (.int 2305843009213693921))) (gN 4))
 (zaG (za1 (eOp zdU (eOp zc2 (zae 4) (eOp zaW (eOp zdU (zae 4) (eC (.int 1000003))) (eC (.int 69621)))) (eC (.int 2305843009213693907))) (gN 4))
 (zaV (eOp zdU (eOp zaW (eOp zeX (zae 4) (eC (.int 65537))) (eOp zeX (zae 4) (eC (.int 1000033)))) (zae 1)))))))))) := rfl
section
variable {m0 m : Sto} {p q c b : Nat}
theorem zaA {k : Int} (hp : P3 m0 p q c m) (hc : c < 2 ^ 40) (k0 : 0 < k) (k1 : k < 2 ^ 64) :
  Run (zai [.ob p, .int k] m) fun a m' => ∃ d : Int, a = .int d /\ 0 <= d /\ d < k /\ P3 m p q (c + 1) m' := by
 obtain ⟨own, s, t, h1, h2, h3, h4, h5, h6, h7, h8, h9⟩ := hp.ex
 unfold zai; rw [zeW, run_at]
 show Run (Res.bind (zaG (zfd zkh znh ownB) _ (some (.ob p) :: [some (.int k), none, none, none]) m) zgL) _
 rw [seq_at, zkN, bind_then]; refine Run.bind (zhj (ρ := [some (.int k), none, none, none]) own zkh m (Nat.lt_of_le_of_lt h4 (by decide)) h1 h2 h3) ?_; rintro _ m1 ⟨rfl, own', g1, g2, g3, g4, g5, g6⟩; walk_at "w"; rw [zbW g4 (zcS _ _ _)]; walk_at "w"; rw [zjI g5]
 rcases g1 with rfl | ⟨a, r, rfl, a0⟩
 ·rw [decide_eq_true rfl]; walk_at "w"; rw [zbW g4 (ziH _ _ _)]; walk_at "w"; rw [zmX g4 (zlM _ _ _), zng]
  have hp2 : (m1.set p (.dct (zgU q s (t + 1))))[p]? = some (.dct (zgU q s (t + 1))) := zdd g4
  have hq2 : (m1.set p (.dct (zgU q s (t + 1))))[q]? = some (.lst (([] : List Int).map D.int)) := by rw [za4 h3]; exact g5
  have f2 : Fr p q m (m1.set p (.dct (zgU q s (t + 1)))) := g6.trans Fr.set
  generalize hm2 : m1.set p (.dct (zgU q s (t + 1))) = m2 at hp2 hq2 f2; walk_at "w"; rw [zbW hp2 (ziH _ _ _)]; walk_at "w"; rw [zbW hp2 (zmr _ _ _)]; walk_at "w"; rw [zih ⟨by omega, by omega⟩]; walk_at "w"; rw [zln ⟨by decide, by decide⟩]; walk_at "w"; rw [zih ⟨by omega, by omega⟩]; walk_at "w"; rw [zln ⟨by decide, by decide⟩]; walk_at "w"; rw [zc3 (by decide)]; walk_at "w"
  rw [zc3 (by decide)]; walk_at "w"; rw [zln (zjN _)]; walk_at "w"; rw [zc3 (by decide)]; walk_at "w"; rw [znT ⟨by decide, by decide⟩]; walk_at "w"; rw [znT ⟨by decide, by decide⟩]; walk_at "w"; rw [zc3 k0]; walk_at "w"; exact Run.ok ⟨_, rfl, Int.emod_nonneg _ (by omega), Int.emod_lt_of_pos _ k0, ⟨⟨[], s, t + 1, hp2, hq2, h3, by decide, fun _ h => (nomatch h), h6, h7, by omega, by omega⟩, f2⟩⟩
 ·rw [decide_eq_false (by simp)]; walk_at "w"; rw [zbW g4 (zcS _ _ _)]; walk_at "w"; rw [zj7 g5]; walk_at "w"; rw [zc3 k0]; walk_at "w"; rw [zbW g4 (zcS _ _ _)]; walk_at "w"; rw [zj7 g5]; walk_at "w"; rw [znT ⟨k0, k1⟩]; walk_at "w"; simp only [gI_at, zjY, zjX, bind_ok, bind_then, eC_at, op_at, kop_at, var_0]; rw [zbW g4 (zcS _ _ _)]; simp only [bind_ok, then_at, zjY, zjX, eC_at, bind_then]
  rw [zmW g5]; simp only [bind_ok, then_at, znz]; walk_at "w"
  have ha : 0 <= a := h5 a (g2 a (by simp))
  exact Run.ok ⟨_, rfl, Int.emod_nonneg _ (by omega), Int.emod_lt_of_pos _ k0, ⟨⟨a / k :: r, s, t, by rw [za4 (Ne.symm h3)]; exact g4, zdd g5, h3, Nat.le_trans g3 h4, fun x hx => by
   rcases List.mem_cons.mp hx with rfl | hx
   ·exact Int.ediv_nonneg ha (by omega)
   ·exact h5 x (g2 x (List.mem_cons_of_mem _ hx)), h6, h7, h8, by omega⟩, g6.trans Fr.set'⟩⟩
theorem zeO {xs : List D} (hp : P3 m0 p q c m) (hc : c < 2 ^ 40) (h0 : 0 < xs.length) (h1 : xs.length < 1000) :
  Run (zbi [.ob p, .lst xs] m) fun a m' => a ∈ xs /\ P3 m p q (c + 1) m' := by
 unfold zbi zhv; walk_at "w"; refine Run.bind (zaA hp hc (by omega) (by omega)) ?_; rintro _ m1 ⟨d, rfl, d0, d1, hp1⟩; walk_at "w"
 obtain ⟨x, hx, e⟩ := zcW (m := m1) (xs := xs) d0 d1
 rw [e]; exact Run.ok ⟨hx, hp1⟩
theorem znF (x : Int) {m : Sto} : ziC [.bl (decide (x = 0))] m = .ok (.int (if x = 0 then 1 else 0)) m := by
 rw [int_b]
 by_cases h : x = 0 <;> simp [h]
theorem zmA {few most : Nat} (hp : P3 m0 p q c m) (hc : c + 2 < 2 ^ 40) (h0 : 0 < few) (h1 : few <= most) (h2 : most <= 1000) :
  Run (zb3 [.ob p, .int few, .int most] m) fun a m' => ∃ n : Nat, a = .int n /\ 1 <= n /\ n <= most /\ P3 m p q (c + 2) m' := by
 unfold zb3 zfK; walk_at "w"; refine Run.bind (zaA hp (by omega) (by decide) (by decide)) ?_; rintro _ m1 ⟨x, rfl, x0, x1, hp1⟩; walk_at "w"; rw [znF]; walk_at "w"
 obtain ⟨v, hv, e⟩ := zcW (m := m1) (xs := [.int few, .int most]) (d := if x = 0 then 1 else 0) (by split <;> omega) (by split <;> simp)
 rw [e]; walk_at "w"
 obtain ⟨k, rfl, k0, k1⟩ : ∃ k : Nat, v = .int k /\ 0 < k /\ k <= most := by
  simp only [List.mem_cons, List.not_mem_nil, or_false] at hv
  rcases hv with rfl | rfl
  ·exact ⟨few, rfl, h0, h1⟩
  ·exact ⟨most, rfl, by omega, Nat.le_refl _⟩
 refine Run.bind (zaA hp1 (by omega) (by omega) (by omega)) ?_; rintro _ m2 ⟨y, rfl, y0, y1, hp2⟩; walk_at "w"; exact Run.ok ⟨(1 + y).toNat, by rw [Int.toNat_of_nonneg (by omega)], by omega, by omega, hp1.via hp2⟩
theorem zgb (hp : P3 m0 p q c m) (hc : c + 4 < 2 ^ 40) (hb : b <= 40) :
  Run (zaC [.ob p, .int b] m) fun a m' => ∃ v : Int, a = .int v /\ 0 <= v /\ v < 2 ^ b /\ P3 m p q (c + 4) m' := by
 have hB := p2 b
 have hB2 := p2lt hb
 unfold zaC zdE; walk_at "w"; rw [zh1 (by omega)]; walk_at "w"
 refine Run.bind (zaA (k := if (4 : Int) < 2 ^ b then 4 else 2 ^ b) hp (by omega) (by split <;> omega) (by split <;> omega)) ?_
 rintro _ m1 ⟨x, rfl, x0, x1, hp1⟩
 have x2 : x < 2 ^ b := by split at x1 <;> omega
 walk_at "w"; refine Run.bind (zaA hp1 (by omega) hB hB2) ?_; rintro _ m2 ⟨y, rfl, y0, y1, hp2⟩; walk_at "w"; refine Run.bind (zaA hp2 (by omega) hB hB2) ?_; rintro _ m3 ⟨z, rfl, z0, z1, hp3⟩; walk_at "w"; refine Run.bind (zaA hp3 (by omega) (by decide) (by decide)) ?_; rintro _ m4 ⟨w, rfl, w0, w1, hp4⟩
 obtain ⟨v, hv, e⟩ := zcW (m := m4) (xs := [.int y, .int x, .int (2 ^ b - 1 - x), .int z]) w0 w1
 walk_at "w"; rw [e]
 have hv' : ∃ n : Int, v = .int n /\ 0 <= n /\ n < 2 ^ b := by
  simp only [List.mem_cons, List.not_mem_nil, or_false] at hv
  rcases hv with rfl | rfl | rfl | rfl <;> exact ⟨_, rfl, by omega, by omega⟩
 obtain ⟨n, rfl, n0, n1⟩ := hv'
 walk_at "w"; exact Run.ok ⟨n, rfl, n0, n1, hp1.via (hp2.via (hp3.via hp4))⟩
end
def NmF (zs : List Str) : Prop := ∃ f s : Nat, s ∈ [1, 3, 5, 7, 9, 11] /\ ∀ (i : Nat) (x : Str), zs[i]? = some x -> nmB x = true /\ x.length <= 8 /\ x.cps.toList.head? = some (97 + (f + s * i) % 26)
theorem NmF.nodup {ns : List Str} (h : NmF ns) (hn : ns.length <= 12) : ns.Nodup := by
 obtain ⟨f, t, ht, h⟩ := h
 rw [List.Nodup, List.pairwise_iff_getElem]
 intro i j hi hj hij e
 obtain ⟨_, _, a1⟩ := h i ns[i] (List.getElem?_eq_getElem hi)
 obtain ⟨_, _, a2⟩ := h j ns[j] (List.getElem?_eq_getElem hj)
 rw [e, a2] at a1
 have := Option.some.inj a1
 clear a1 a2 h e
 simp only [List.mem_cons, List.not_mem_nil, or_false] at ht
 rcases ht with rfl | rfl | rfl | rfl | rfl | rfl <;> omega
section
variable {m0 m : Sto} {p q c b : Nat}
theorem zll {many : Nat} (hp : P3 m0 p q c m) (hc : c + 2 < 2 ^ 40) (h1 : many <= 12) :
  Run (zbe [.ob p, .int many] m) fun a m' => ∃ zs : List Str, a = .lst (zs.map D.str) /\ zs.length = many /\ NmF zs /\ P3 m p q (c + 2) m' := by
 unfold zbe zdG; walk_at "w"; refine Run.bind (zaA hp (by omega) (by decide) (by decide)) ?_; rintro _ m1 ⟨f, rfl, f0, f1, hp1⟩
 obtain ⟨f, rfl⟩ : ∃ f' : Nat, f = f' := ⟨f.toNat, by omega⟩
 walk_at "w"; rw [zbK (by simp)]; walk_at "w"; refine Run.bind (zeO hp1 (by omega) (by simp) (by simp)) ?_; rintro v m2 ⟨hv, hp2⟩
 obtain ⟨s, rfl, hsm, s1⟩ : ∃ s : Nat, v = .int s /\ s ∈ [1, 3, 5, 7, 9, 11] /\ s <= 11 := by
  simp only [List.mem_cons, List.not_mem_nil, or_false] at hv
  rcases hv with rfl | rfl | rfl | rfl | rfl | rfl
  ·exact ⟨1, rfl, by decide, by decide⟩
  ·exact ⟨3, rfl, by decide, by decide⟩
  ·exact ⟨5, rfl, by decide, by decide⟩
  ·exact ⟨7, rfl, by decide, by decide⟩
  ·exact ⟨9, rfl, by decide, by decide⟩
  ·exact ⟨11, rfl, by decide, by decide⟩
 walk_at "w"
 refine Run.bind (zcE (ds := zcA 0 many) (fun _ m' => m' = m2) (fun i _ x => ∃ z : Str, x = .str z /\ nmB z = true /\ z.length <= 8 /\ z.cps.toList.head? = some (97 + (f + s * i) % 26)) (by
  walk_at "w"
  rw [zhg (by omega) (by omega), Int.toNat_natCast]) (by rw [zaZ]; omega) rfl ?_) ?_
 ·rintro i d m3 hd rfl
  have := zgW hd
  subst this
  have hi := (List.getElem?_eq_some_iff.mp hd).1
  rw [zaZ] at hi
  walk_at "w"; rw [zih ⟨by omega, by omega⟩]; walk_at "w"; rw [zc3 (by decide)]; walk_at "w"; rw [show ((f : Int) + (s : Int) * (i : Nat)) % 26 = (((f + s * i) % 26 : Nat) : Int) by push_cast; rfl, alpha (Nat.mod_lt _ (by decide))]; walk_at "w"; rw [zih ⟨by omega, by omega⟩]; walk_at "w"; rw [zc3 (by decide)]; walk_at "w"; rw [show (1 : Int) + ((f : Int) + (i : Nat) * (i : Nat)) % 8 = ((1 + (f + i * i) % 8 : Nat) : Int) by push_cast; rfl, zlm rfl (by omega) (by omega)]
  exact Run.ok ⟨⟨_, rfl, nm_mul (Nat.mod_lt _ (by decide)) (by omega) (by omega)⟩, rfl⟩
 ·rintro xs m3 ⟨hlen, hP, rfl⟩
  rw [zaZ] at hlen
  obtain ⟨zs, rfl, hz⟩ := lift D.str (fun i z => nmB z = true /\ z.length <= 8 /\ z.cps.toList.head? = some (97 + (f + s * i) % 26)) xs 0 fun i x hx => by
   have hi := (List.getElem?_eq_some_iff.mp hx).1
   have hi2 : i < many := by omega
   obtain ⟨z, rfl, hz⟩ := hP i (.int (0 + (i : Nat))) x (by simp [zcA, hi2]) hx
   exact ⟨z, rfl, by rw [Nat.zero_add]; exact hz⟩
  walk_at "w"; exact Run.ok ⟨zs, rfl, by simpa using hlen, ⟨f, s, hsm, fun i x hx => by have := hz i x hx; rwa [Nat.zero_add] at this⟩, hp1.via hp2⟩
theorem zlw {many : Nat} (hp : P3 m0 p q c m) (hc : c + 20 < 2 ^ 40) (b0 : 0 < b) (hb : b <= 40) (hm : many <= 12) :
  Run (zbz [.ob p, .int many, .int b] m) fun a m' => ∃ kd : Kd, a = kd.e /\ kd.Ok2 many b /\ P3 m p q (c + 20) m' := by
 have hB := p2 b
 have hB2 := p2lt hb
 have hb2 : (2 : Int) <= 2 ^ b := by
  have := Nat.pow_le_pow_right (n := 2) (by decide) b0
  exact_mod_cast this
 unfold zbz zed; walk_at "w"; rw [zh1 (by omega)]; walk_at "w"; refine Run.bind (zaA hp (by omega) (by decide) (by decide)) ?_; rintro _ m1 ⟨x, rfl, x0, x1, hp1⟩; walk_at "w"
 by_cases c1 : x < 3
 ·rw [if_pos c1]; walk_at "w"; refine Run.bind (zgb hp1 (by omega) hb) ?_; rintro _ m2 ⟨v, rfl, v0, v1, hp2⟩; walk_at "w"; refine Run.bind (zaA hp2 (by omega) (by decide) (by decide)) ?_; rintro _ m3 ⟨w, rfl, w0, w1, hp3⟩
  obtain ⟨u, hu, e⟩ := zcW (m := m3) (xs := [.int 1, .int v]) w0 w1
  walk_at "w"; rw [e]
  obtain ⟨n, rfl⟩ : ∃ n : Int, u = .int n := by
   simp only [List.mem_cons, List.not_mem_nil, or_false] at hu
   rcases hu with rfl | rfl <;> exact ⟨_, rfl⟩
  walk_at "w"; rw [zc3 hB]; walk_at "w"; exact Run.ok ⟨.step (n % 2 ^ b), rfl, ⟨md2 _ _, fun _ h => by cases h⟩, (hp1.via (hp2.via hp3)).more (by omega)⟩
 rw [if_neg c1]; walk_at "w"
 by_cases c2 : x = 3
 ·rw [if_pos c2]; walk_at "w"; refine Run.bind (zgb hp1 (by omega) hb) ?_; rintro _ m2 ⟨v, rfl, v0, v1, hp2⟩; walk_at "w"; refine Run.bind (zaA hp2 (by omega) (by decide) (by decide)) ?_; rintro _ m3 ⟨w, rfl, w0, w1, hp3⟩; walk_at "w"; rw [zih (by decide)]; walk_at "w"
  have hk : Run (zaQ 1 (znZ zlZ (zac (eFn zii (zac (zae 3) (zac (eOp zaW (eC (.int 2)) (eFn zai (zac (zae 0) (zac (eC (.int 11)) zak)))) zak))) zak)) (gN 7) za2 (eOp zdU (eOp zaW (zae 5) (eOp zc2 (zae 6) (zae 7))) (zae 3)) [some (.ob p), some (.int many), some (.int b), some (.int (2 ^ b)), some (.int x), some (.int v), some (.int (1 + 2 * w))] m3) fun xs m' => ∃ row : List Int, xs = row.map D.int /\ 2 <= row.length /\ row.Nodup /\ row.length <= 12 /\ (∀ v ∈ row, 0 <= v /\ v < 2 ^ b) /\ P3 m3 p q (c + 7) m' := by
   unfold zaQ; walk_at "w"; refine Run.bind (zaA hp3 (by omega) (by decide) (by decide)) ?_; rintro _ m4 ⟨y, rfl, y0, y1, hp4⟩; walk_at "w"
   obtain ⟨N, hN, N0, N1, N2⟩ : ∃ N : Nat, (if 2 + y < (2 : Int) ^ b then 2 + y else 2 ^ b) = N /\ 2 <= N /\ N <= 12 /\ (N : Int) <= 2 ^ b := ⟨(if 2 + y < (2 : Int) ^ b then 2 + y else 2 ^ b).toNat, by split <;> omega, by split <;> omega, by split <;> omega, by split <;> omega⟩
   rw [hN, zhg (by omega) (by omega), Int.toNat_natCast]; walk_at "w"; rw [if_pos (by rw [zaZ]; omega)]
   refine Run.mono (zeZ (g := gN 7) (ρ := [some (.ob p), some (.int many), some (.int b), some (.int (2 ^ b)), some (.int x), some (.int v), some (.int (1 + 2 * w))] ++ List.replicate 1 none) (fun _ m' => m' = m4) (fun i _ x => ∃ u : Int, x = .int u /\ 0 <= u /\ u < 2 ^ b /\ u = (v + (2 * w + 1) * (i : Nat)) % 2 ^ b) (zcA 0 N) 0 rfl ?_) ?_
   ·rintro i d m5 hd rfl
    have := zgW hd
    subst this
    show Run (Res.bind (gN 7 _ [some (.ob p), some (.int many), some (.int b), some (.int (2 ^ b)), some (.int x), some (.int v), some (.int (1 + 2 * w)), none] m5) _) _
    walk_at "w"; rw [zih ⟨by omega, by omega⟩]; walk_at "w"; rw [zc3 hB]; exact Run.ok ⟨⟨_, rfl, (md2 _ _).1, (md2 _ _).2, by rw [Int.add_comm 1 (2 * w), Nat.zero_add]⟩, rfl⟩
   ·rintro xs m5 ⟨hlen, hP, rfl⟩
    rw [zaZ] at hlen
    obtain ⟨row, rfl, hrow⟩ := lift D.int (fun i u => 0 <= u /\ u < 2 ^ b /\ u = (v + (2 * w + 1) * (i : Nat)) % 2 ^ b) xs 0 fun i x hx => by
     have hi := (List.getElem?_eq_some_iff.mp hx).1
     have hi2 : i < N := by omega
     exact hP i (.int (0 + (i : Nat))) x (by simp [zcA, hi2]) hx
    rw [List.length_map] at hlen
    refine ⟨row, rfl, by omega, ?_, by omega, fun v hv => ?_, hp4.more (by omega)⟩
    ·rw [List.Nodup, List.pairwise_iff_getElem]
     intro i j hi hj hij e
     have e1 := (hrow i row[i] (List.getElem?_eq_getElem hi)).2.2
     have e2 := (hrow j row[j] (List.getElem?_eq_getElem hj)).2.2
     rw [e, e2, Nat.zero_add, Nat.zero_add] at e1
     have := zmJ (by omega) (by omega) e1
     omega
    ·obtain ⟨i, hi⟩ := List.mem_iff_getElem?.mp hv
     exact ⟨(hrow i v hi).1, (hrow i v hi).2.1⟩
  refine Run.bind hk ?_; rintro _ m4 ⟨row, rfl, r0, rn, r1, r2, hp4⟩; walk_at "w"; exact Run.ok ⟨.turn row, rfl, ⟨⟨fun z => by rw [z] at r0; simp at r0, r1, r2⟩, fun row' h => by cases h; exact ⟨r0, rn⟩⟩, (hp1.via (hp2.via (hp3.via hp4))).more (by omega)⟩
 rw [if_neg c2]; walk_at "w"
 have last : Run (Res.bind ((zaV (eOp ixD (eFn zbu (zac (eFn zc4 (zac (eC (.str "still")) zak)) (zac (eFn zc4 (zac (eC (.str "drawn")) zak)) zak))) (eFn zai (zac (zae 0) (zac (eC (.int 2)) zak))))) [some (.ob p), some (.int many), some (.int b), some (.int (2 ^ b)), some (.int x), none, none] m1) zgL) fun a m' => ∃ kd : Kd, a = kd.e /\ kd.Ok2 many b /\ P3 m p q (c + 20) m' := by
  walk_at "w"; refine Run.bind (zaA hp1 (by omega) (by decide) (by decide)) ?_; rintro _ m2 ⟨w, rfl, w0, w1, hp2⟩
  obtain ⟨u, hu, e⟩ := zcW (m := m2) (xs := [Kd.still.e, Kd.drawn.e]) w0 w1
  simp only [Kd.e] at e
  walk_at "w"; rw [e]
  simp only [List.mem_cons, List.not_mem_nil, or_false] at hu
  walk_at "w"
  rcases hu with rfl | rfl
  ·exact Run.ok ⟨.still, rfl, ⟨trivial, fun _ h => by cases h⟩, (hp1.via hp2).more (by omega)⟩
  ·exact Run.ok ⟨.drawn, rfl, ⟨trivial, fun _ h => by cases h⟩, (hp1.via hp2).more (by omega)⟩
 by_cases c3 : x < 6
 ·rw [if_pos c3]; walk_at "w"
  by_cases c4 : (0 : Int) < many
  ·rw [if_pos c4]; walk_at "w"; refine Run.bind (zaA hp1 (by omega) c4 (by omega)) ?_; rintro _ m2 ⟨j, rfl, j0, j1, hp2⟩; walk_at "w"; rw [neg_1]; walk_at "w"; refine Run.bind (zaA hp2 (by omega) (by decide) (by decide)) ?_; rintro _ m3 ⟨y, rfl, y0, y1, hp3⟩; walk_at "w"; refine Run.bind (zaA hp3 (by omega) (by decide) (by decide)) ?_; rintro _ m4 ⟨z, rfl, z0, z1, hp4⟩
   obtain ⟨u, hu, e⟩ := zcW (m := m4) (xs := [.int 1, .int (-1), .int (y - 99)]) z0 z1
   walk_at "w"; rw [e]
   obtain ⟨n, rfl, n0, n1⟩ : ∃ n : Int, u = .int n /\ -99 <= n /\ n <= 99 := by
    simp only [List.mem_cons, List.not_mem_nil, or_false] at hu
    rcases hu with rfl | rfl | rfl <;> exact ⟨_, rfl, by omega, by omega⟩
   walk_at "w"
   obtain ⟨j, rfl⟩ : ∃ j' : Nat, j = j' := ⟨j.toNat, by omega⟩
   exact Run.ok ⟨.wth j n, rfl, ⟨by simp only [Kd.Ok]; omega, fun _ h => by cases h⟩, (hp1.via (hp2.via (hp3.via hp4))).more (by omega)⟩
  ·rw [if_neg c4]
   have := last
   walk_at "w"
   simpa only [ret_at, op_at, kop_at, fn_at, aCons_at, kcons_at, kcons2_at, aNil_at, eC_at, var_0, tup_1, lst_2, bind_ok, bind_then, then_at] using this
 ·rw [if_neg c3]
  have := last
  walk_at "w"
  simpa only [ret_at, op_at, kop_at, fn_at, aCons_at, kcons_at, kcons2_at, aNil_at, eC_at, var_0, tup_1, lst_2, bind_ok, bind_then, then_at] using this
theorem app51 {fs : List Fd} {f : Fd} (h : ∀ (i : Nat) (f : Fd), fs[i]? = some f -> 0 < f.b /\ f.b <= 40 /\ f.kd.Ok2 i f.b) (h1 : 0 < f.b) (h2 : f.b <= 40) (h3 : f.kd.Ok2 fs.length f.b) : ∀ (i : Nat) (g : Fd), (fs ++ [f])[i]? = some g -> 0 < g.b /\ g.b <= 40 /\ g.kd.Ok2 i g.b := fun i g hg => by
 rcases Nat.lt_trichotomy i fs.length with hi | hi | hi
 ·rw [List.getElem?_append_left hi] at hg; exact h i g hg
 ·subst hi
  rw [List.getElem?_append_right (Nat.le_refl _)] at hg
  simp at hg
  subst hg
  exact ⟨h1, h2, h3⟩
 ·rw [List.getElem?_eq_none (by rw [List.length_append]; simp; omega)] at hg
  cases hg
theorem zkW (hp : P3 m0 p q c m) (hc : c + 400 < 2 ^ 40) :
  Run (zby [.ob p] m) fun a m' => ∃ (fs : List Fd) (n : Int), a = shD fs n /\ 0 < n /\ n <= 1000000 /\ 0 < fs.length /\ fs.length <= 12 /\ ShG fs /\ P3 m p q (c + 400) m' := by
 unfold zby zdF; walk_at "w"; rw [new_0]; walk_at "w"
 have hpA : P3 m p q c (m ++ [.lst []]) := hp.re.app
 have hr : (m ++ [MO.lst []])[m.length]? = some (.lst []) := by simp
 have hlt := hp.lt
 have hrp : m.length ≠ p := by omega
 have hrq : m.length ≠ q := by omega
 have hr0 : m.length <= m.length := Nat.le_refl _
 have go : ∀ {r : Nat} {mA : Sto}, P3 m p q c mA -> mA[r]? = some (.lst []) -> r ≠ p -> r ≠ q -> m.length <= r -> Run (Res.bind ((zaG (sFor (aIt (eFn zbe (zac (zae 0) (zac (eFn zb3 (zac (zae 0) (zac (eC (.int 3)) (zac (eC (.int 12)) zak)))) zak)))) (gN 2)
 (zaG (za1 (eOp ixD (eFn zbu (zac (eOp zaW (eC (.int 1)) (eFn zai (zac (zae 0) (zac (eC (.int 8)) zak)))) (zac (eOp zaW (eC (.int 1)) (eFn zai (zac (zae 0) (zac (eC (.int 8)) zak)))) (zac (eC (.int 16)) (zac (eOp zaW (eC (.int 1)) (eFn zai (zac (zae 0) (zac (eC (.int 40)) zak)))) (zac (eC (.int 40)) zak)))))) (eFn zai (zac (zae 0) (zac (eC (.int 5)) zak)))) (gN 3))
 (zgi (zbm zck zcn (zae 1) (zac (eFn zc4 (zac (zae 2) (zac (zae 3) (zac (eFn zbz (zac (zae 0) (zac (eFn zdW (zac (zae 1) zak)) (zac (zae 3) zak)))) zak)))) zak)))))
 (zaV (eFn zc4 (zac (eFn ziA (zac (zae 1) zak)) (zac (eOp ixD (eFn zbu (zac (eC (.int 251)) (zac (eC (.int 1)) (zac (eC (.int 2)) (zac (eC (.int 16)) (zac (eOp zfl (eC (.int 10)) (eC (.int 6))) (zac (eOp zaW (eC (.int 1)) (eFn zai (zac (zae 0) (zac (eOp zfl (eC (.int 10)) (eC (.int 6))) zak)))) zak))))))) (eFn zai (zac (zae 0) (zac (eC (.int 6)) zak)))) zak))))) [some (.ob p), some (.ob r), none, none] mA) zgL) fun a m' => ∃ (fs : List Fd) (n : Int), a = shD fs n /\ 0 < n /\ n <= 1000000 /\ 0 < fs.length /\ fs.length <= 12 /\ ShG fs /\ P3 m p q (c + 400) m' := by
  intro r mA hpA hr hrp hrq hr0
  walk_at "w"; refine Run.bind (zmA (few := 3) (most := 12) hpA (by omega) (by decide) (by decide) (by decide)) ?_; rintro _ m1 ⟨N, rfl, N0, N1, hp1⟩; walk_at "w"; refine Run.bind (zll hp1 (by omega) N1) ?_; rintro _ m2 ⟨zs, rfl, zl, hz, hp2⟩
  have k2 := hp2.kept (hp1.kept hr hrp hrq) hrp hrq
  have q2 : P3 m p q (c + 4) m2 := hpA.via (hp1.via hp2)
  walk_at "w"; refine Run.bind (zc9 (fun k ρ m' => ∃ (fs : List Fd) (x2 x3 : Option D), ρ = [some (.ob p), some (.ob r), x2, x3] /\ m'[r]? = some (.lst (fs.map Fd.e)) /\ fs.length = k /\ fs.map Fd.nm = zs.take k /\ (∀ (i : Nat) (f : Fd), fs[i]? = some f -> 0 < f.b /\ f.b <= 40 /\ f.kd.Ok2 i f.b) /\ P3 m p q (c + 4 + 30 * k) m') _ 0 ⟨[], _, _, rfl, k2, rfl, by simp, fun i f h => by simp at h, q2⟩ ?_) ?_
  ·rintro i d ρ m3 hd ⟨fs, x2, x3, rfl, g1, g2, gn, g3, g4⟩
   have hi : i < N := by have := (List.getElem?_eq_some_iff.mp hd).1; rw [List.length_map, zl] at this; exact this
   rw [List.getElem?_map] at hd
   obtain ⟨z, hzi, rfl⟩ := Option.map_eq_some_iff.mp hd
   rw [Nat.zero_add] at g2 g4 gn ⊢
   walk_at "w"; refine Run.bind (zaA g4 (by omega) (by decide) (by decide)) ?_; rintro _ m4 ⟨a1, rfl, a10, a11, hp4⟩; walk_at "w"; refine Run.bind (zaA hp4 (by omega) (by decide) (by decide)) ?_; rintro _ m5 ⟨a2, rfl, a20, a21, hp5⟩; walk_at "w"; refine Run.bind (zaA hp5 (by omega) (by decide) (by decide)) ?_; rintro _ m6 ⟨a3, rfl, a30, a31, hp6⟩; walk_at "w"; refine Run.bind (zaA hp6 (by omega) (by decide) (by decide)) ?_
   rintro _ m7 ⟨a4, rfl, a40, a41, hp7⟩
   obtain ⟨u, hu, e⟩ := zcW (m := m7) (xs := [.int (1 + a1), .int (1 + a2), .int 16, .int (1 + a3), .int 40]) a40 a41
   walk_at "w"; rw [e]
   obtain ⟨b, rfl, b0, b1⟩ : ∃ b : Nat, u = .int b /\ 0 < b /\ b <= 40 := by
    simp only [List.mem_cons, List.not_mem_nil, or_false] at hu
    rcases hu with rfl | rfl | rfl | rfl | rfl
    ·exact ⟨(1 + a1).toNat, by rw [Int.toNat_of_nonneg (by omega)], by omega, by omega⟩
    ·exact ⟨(1 + a2).toNat, by rw [Int.toNat_of_nonneg (by omega)], by omega, by omega⟩
    ·exact ⟨16, rfl, by decide, by decide⟩
    ·exact ⟨(1 + a3).toNat, by rw [Int.toNat_of_nonneg (by omega)], by omega, by omega⟩
    ·exact ⟨40, rfl, by decide, by decide⟩
   have k7 := hp7.kept (hp6.kept (hp5.kept (hp4.kept g1 hrp hrq) hrp hrq) hrp hrq) hrp hrq
   walk_at "w"; rw [if_pos (zmc k7)]; walk_at "w"; rw [len_ob k7]; walk_at "w"; rw [List.length_map]; refine Run.bind (zlw hp7 (by omega) b0 b1 (by omega)) ?_; rintro _ m8 ⟨kd, rfl, hkd, hp8⟩
   have k8 := hp8.kept k7 hrp hrq
   walk_at "w"; rw [zmn k8 (by rw [List.length_map]; exact zhc (by omega))]; walk_at "w"
   refine Run.ok ⟨_, rfl, fs ++ [⟨z, b, kd⟩], _, _, rfl, by rw [zdd k8, List.map_append]; rfl, by simp [g2], by rw [List.map_append, gn, List.take_succ, hzi]; rfl, app51 g3 b0 b1 hkd, ((g4.via (hp4.via (hp5.via (hp6.via (hp7.via hp8))))).set hr0 hrp hrq).more (by omega)⟩
  ·rintro _ m3 ⟨ρ, rfl, fs, x2, x3, rfl, g1, g2, gn, g3, g4⟩
   rw [Nat.zero_add, List.length_map, zl] at g2 g4 gn
   rw [List.take_of_length_le (by omega)] at gn
   walk_at "w"; rw [show ziA [.ob r] m3 = .ok (.tup (fs.map Fd.e)) m3 by simp only [ziA, g1]]; walk_at "w"; rw [zl5]; walk_at "w"; rw [zl5]; walk_at "w"; refine Run.bind (zaA g4 (by omega) (by decide) (by decide)) ?_; rintro _ m4 ⟨a1, rfl, a10, a11, hp4⟩; walk_at "w"; rw [zbK (by simp)]; walk_at "w"; refine Run.bind (zaA hp4 (by omega) (by decide) (by decide)) ?_; rintro _ m5 ⟨a2, rfl, a20, a21, hp5⟩
   obtain ⟨u, hu, e⟩ := zcW (m := m5) (xs := [.int 251, .int 1, .int 2, .int 16, .int 1000000, .int (1 + a1)]) a20 a21
   walk_at "w"; rw [e]
   obtain ⟨n, rfl, n0, n1⟩ : ∃ n : Int, u = .int n /\ 0 < n /\ n <= 1000000 := by
    simp only [List.mem_cons, List.not_mem_nil, or_false] at hu
    rcases hu with rfl | rfl | rfl | rfl | rfl | rfl <;> exact ⟨_, rfl, by omega, by omega⟩
   walk_at "w"; exact Run.ok ⟨fs, n, rfl, n0, n1, by omega, by omega, ⟨g3, fun x hx => by rw [gn] at hx; obtain ⟨f, s, _, h⟩ := hz; obtain ⟨i, hi⟩ := List.mem_iff_getElem?.mp hx; exact ⟨(h i x hi).1, (h i x hi).2.1⟩, by rw [gn]; exact hz.nodup (by omega)⟩, (g4.via (hp4.via hp5)).more (by omega)⟩
 have := go hpA hr hrp hrq hr0
 walk_at "w"
 simpa only [seq_at, for_at, aIt_at, fn_at, aCons_at, kcons_at, kcons2_at, aNil_at, eC_at, var_0, var_S, bind_ok, bind_then, then_at] using this
end
theorem zhy {c : Nat} : ∀ {x y R S : List Nat}, c ∉ x -> c ∉ y -> x ++ c :: R = y ++ c :: S -> x = y /\ R = S
 | [], [], R, S, _, _, h => ⟨rfl, (List.cons.inj h).2⟩
 | [], b :: y, R, S, _, hy, h => absurd (List.cons.inj h).1 fun e => hy (by rw [e]; simp)
 | a :: x, [], R, S, hx, _, h => absurd (List.cons.inj h).1 fun e => hx (by rw [<- e]; simp)
 | a :: x, b :: y, R, S, hx, hy, h => by
  obtain ⟨e1, e2⟩ := List.cons.inj h
  obtain ⟨e3, e4⟩ := zhy (fun z => hx (List.mem_cons_of_mem _ z)) (fun z => hy (List.mem_cons_of_mem _ z)) e2
  exact ⟨by rw [e1, e3], e4⟩
theorem zj5 (s x y : Str) (r : List Str) : Str.join s (x :: y :: r) = x ++ s ++ Str.join s (y :: r) := rfl
theorem zhs (c : Nat) (x y : Str) (r : List Str) : (Str.join ⟨#[c]⟩ (x :: y :: r)).cps.toList = x.cps.toList ++ c :: (Str.join ⟨#[c]⟩ (y :: r)).cps.toList := by
 rw [zj5]
 show (x.cps ++ #[c] ++ (Str.join ⟨#[c]⟩ (y :: r)).cps).toList = _
 simp
theorem zhr {c : Nat} : ∀ {A B : List Str}, A ≠ [] -> B ≠ [] -> (∀ x ∈ A, c ∉ x.cps.toList) -> (∀ x ∈ B, c ∉ x.cps.toList) -> Str.join ⟨#[c]⟩ A = Str.join ⟨#[c]⟩ B -> A = B
 | [], _, h, _, _, _, _ => absurd rfl h
 | _, [], _, h, _, _, _ => absurd rfl h
 | [x], [y], _, _, _, _, h => by rw [show x = y from h]
 | [x], y :: z :: r, _, _, hA, _, h => by
  have e := congrArg (fun s : Str => s.cps.toList) h
  simp only [zhs] at e
  exact absurd (show c ∈ x.cps.toList by rw [show x.cps.toList = _ from e]; simp) (hA x (by simp))
 | x :: z :: r, [y], _, _, _, hB, h => by
  have e := congrArg (fun s : Str => s.cps.toList) h
  simp only [zhs] at e
  exact absurd (show c ∈ y.cps.toList by rw [show y.cps.toList = _ from e.symm]; simp) (hB y (by simp))
 | x :: x2 :: r, y :: y2 :: t, _, _, hA, hB, h => by
  have e := congrArg (fun s : Str => s.cps.toList) h
  simp only [zhs] at e
  obtain ⟨e1, e2⟩ := zhy (hA x (by simp)) (hB y (by simp)) e
  rw [zeu e1, zhr (A := x2 :: r) (B := y2 :: t) (by simp) (by simp) (fun x hx => hA x (List.mem_cons_of_mem _ hx)) (fun x hx => hB x (List.mem_cons_of_mem _ hx)) (zeu e2)]
theorem zg5 (s : Str) (l : List Str) : Txt.join s l = Str.join s l := eq_of_beq (PyProof.Rows.join_plain_closes s l)
theorem zkT (x y : Str) : Txt.split x y ≠ [] := by
 intro e
 have h : (Txt.split x y).length = 0 := by rw [e]; rfl
 unfold Txt.split at h
 split at h
 ·simp at h
 ·split at h
  ·simp at h
  ·rw [length_partsBetween] at h
   omega
theorem zhZ {c : Nat} {A : List Str} (h : A ≠ []) (hA : ∀ x ∈ A, c ∉ x.cps.toList) : Txt.split (Txt.join ⟨#[c]⟩ A) ⟨#[c]⟩ = A :=
 zhr (zkT _ _) h (StrLaws.split_free _ c) hA (by rw [StrLaws.join_split, zg5])
def tS (i : Int) : Str := Str.ofString (toString i)
def dg (n : Nat) : List Nat := (Nat.toDigits 10 n).map Char.toNat
theorem tS_n (n : Nat) : (tS n).cps.toList = dg n := PySem.W.KIN.signs_num n
theorem zmk (n : Nat) : NumText.AllDigits (dg n) := by
 intro c hc
 obtain ⟨ch, hch, rfl⟩ := List.mem_map.mp hc
 exact PyProof.Rows.digit_range (Nat.isDigit_of_mem_toDigits (by decide) (by decide) hch)
theorem zhH {n : Nat} (h : n < 10 ^ 15) : 1 <= (dg n).length /\ (dg n).length <= 15 := by
 unfold dg; rw [List.length_map]
 exact ⟨PyProof.Rows.tDigits_len_ge 10 n, PyProof.Rows.digits10_le (by decide) h⟩
theorem znU : ∀ n : Nat, 0 < n -> (dg n).head? ≠ some 48 := by
 intro n
 induction n using Nat.strongRecOn with
 | _ n ih =>
  intro h0
  by_cases h : n < 10
  ·unfold dg; rw [Nat.toDigits_of_lt_base h]
   have : ∀ d : Nat, d < 10 -> 0 < d -> ([Nat.digitChar d].map Char.toNat).head? ≠ some 48 := by decide
   exact this n h h0
  ·have hm : n % 10 < 10 := Nat.mod_lt n (by decide)
   have t : Nat.toDigits 10 (n / 10) ++ Nat.toDigits 10 (n % 10) = Nat.toDigits 10 (10 * (n / 10) + n % 10) := Nat.toDigits_append_toDigits (by decide) (by omega) hm
   rw [Nat.div_add_mod] at t
   have e : dg n = dg (n / 10) ++ dg (n % 10) := by unfold dg; rw [<- t, List.map_append]
   have := ih (n / 10) (by omega) (by omega)
   rw [e]
   cases hd : dg (n / 10) with
   | nil =>
    have h1 : 1 <= (dg (n / 10)).length := by unfold dg; rw [List.length_map]; exact PyProof.Rows.tDigits_len_ge 10 _
    rw [hd] at h1
    simp at h1
   | cons a r =>
    rw [hd] at this
    simpa using this
theorem zg7 {n : Nat} (h : n < 10 ^ 15) : 1 <= (tS n).length /\ (tS n).length <= 15 := by
 have e : (tS n).length = (dg n).length := by rw [<- tS_n]; exact Array.length_toList.symm
 rw [e]
 exact zhH h
theorem tS_int (n : Nat) (h : n < 10 ^ 15) : PySem.intText? (tS n) = some (n : Int) := by
 have hl := zg7 h
 have e := PySem.intText_digits (x := tS n) (by rw [tS_n]; exact zmk n) (by rw [tS_n]; intro z; have := (zhH h).1; rw [z] at this; simp at this) (by omega)
 rw [e, tS_n]
 congr 2
 exact PySem.W.KIN.val_back n
theorem zmv {c : Nat} (h : c ≠ 45 /\ (c < 48 ∨ 57 < c)) (i : Int) : c ∉ (tS i).cps.toList := PyProof.Rows.int_text_free' c h i
def dgF (d : D) : D := match d with
 | .str z => .bl (decide (48 <= z.cps.getD 0 0 /\ z.cps.getD 0 0 <= 57))
 | _ => .non
theorem zlL : (Str.ofString "0" : Str) = ⟨#[48]⟩ := by decide
theorem ch_9 : (Str.ofString "9" : Str) = ⟨#[57]⟩ := by decide
theorem number_read {n : Nat} {m : Sto} (h : n < 10 ^ 15) : zaO [.str (tS n)] m = .ok (.int n) m := by
 have hl := zg7 h
 have hi := tS_int n h
 have ht := tS_n n
 have ha := zmk n
 have hh := znU n
 generalize hx : tS n = x at hl hi ht
 apply zaJ
 unfold zaO zbX; walk_at "w"; rw [len_str (Nat.le_trans hl.2 (by decide))]; walk_at "w"; rw [if_pos (show (1 : Int) <= (x.length : Nat) by omega), decide_eq_true (show ((x.length : Nat) : Int) <= 15 by omega)]; walk_at "w"
 rw [za6 (ds := zcc x) dgF (by walk_at "w") (by simp [zcc]; exact Nat.le_trans hl.2 (by decide)) (by
  intro d hd
  simp only [zcc, List.mem_map] at hd
  obtain ⟨i, hi, rfl⟩ := hd
  refine ⟨_, rfl, ?_⟩
  show (zb9 leD leD (eC (.str "0")) (zae 1) (eC (.str "9"))) [some (.str x), some (.str ⟨#[x.cps.getD i 0]⟩)] m = .ok (.bl (decide (48 <= x.cps.getD i 0 /\ x.cps.getD i 0 <= 57))) m
  generalize x.cps.getD i 0 = c; walk_at "w"; rw [zls, show ("0" : Str) = ⟨#[48]⟩ from zlL, zho]; walk_at "w"
  by_cases hc : 48 <= c
  ·rw [decide_eq_false (show ¬ c < 48 by omega)]; walk_at "w"; rw [zls, show ("9" : Str) = ⟨#[57]⟩ from ch_9, zho]
   by_cases hc2 : c <= 57
   ·rw [decide_eq_false (show ¬ 57 < c by omega)]; simp [hc, hc2]
   ·rw [decide_eq_true (show 57 < c by omega)]; simp [hc2]
  ·rw [decide_eq_true (show c < 48 by omega)]; walk_at "w"
   simp [hc])]
 walk_at "w"
 have e : (zcc x).map dgF = (((List.range x.cps.size).map fun i => decide (48 <= x.cps.getD i 0 /\ x.cps.getD i 0 <= 57)).map D.bl) := by
  simp only [zcc, List.map_map]
  rfl
 have e2 : ((List.range x.cps.size).map fun i => decide (48 <= x.cps.getD i 0 /\ x.cps.getD i 0 <= 57)).all id = true := by
  rw [List.all_eq_true]
  intro b hb
  obtain ⟨i, hi, rfl⟩ := List.mem_map.mp hb
  have hi' : i < x.cps.size := List.mem_range.mp hi
  have := ha x.cps[i] (by rw [<- ht]; simp)
  simpa [Array.getD, hi'] using this
 rw [e, zdO, e2]; walk_at "w"
 obtain ⟨c, r, hc⟩ : ∃ c r, dg n = c :: r := by
  have := (zhH h).1
  cases hd : dg n with
  | nil => rw [hd] at this; simp at this
  | cons c r => exact ⟨c, r, rfl⟩
 have e3 : ixD (.str x) (.int 0) m = .ok (.str ⟨#[c]⟩) m := by
  have e : ixD (.str x) (.int 0) m = if x.length <= sizeLine then opt ((L2.atI x.cps.toList 0).map fun c => D.str ⟨#[c]⟩) m else .bad := rfl
  rw [e, if_pos (Nat.le_trans hl.2 (by decide)), ht, hc, show (0 : Int) = ((0 : Nat) : Int) from rfl, zdL]
  rfl
 rw [e3]; walk_at "w"
 have fin : Run (ziC [.str x] m) fun a m' => a = .int n /\ m' = m := by
  have e : ziC [.str x] m = .ok (.int n) m := by
   unfold ziC; simp only [hi]; rw [if_pos (Nat.le_trans hl.2 (by decide))]
  rw [e]; exact Run.ok ⟨rfl, rfl⟩
 rw [show ("0" : Str) = ⟨#[48]⟩ from zlL]
 by_cases c0 : c = 48
 ·subst c0
  have n0 : n = 0 := by
   apply Decidable.byContradiction
   intro z
   exact hh (by omega) (by rw [hc]; rfl)
  have hx0 : x = ⟨#[48]⟩ := by
   subst n0
   rw [<- hx]
   decide
  rw [if_pos rfl]; walk_at "w"; rw [decide_eq_true hx0]; walk_at "w"; refine Run.bind fin ?_; rintro _ m1 ⟨rfl, rfl⟩; walk_at "w"; exact Run.ok ⟨rfl, rfl⟩
 ·rw [if_neg (show ¬ (⟨#[c]⟩ : Str) = ⟨#[48]⟩ by intro z; exact c0 (by simpa using congrArg (fun s : Str => s.cps.toList) z))]; walk_at "w"; refine Run.bind fin ?_; rintro _ m1 ⟨rfl, rfl⟩; walk_at "w"; exact Run.ok ⟨rfl, rfl⟩
theorem tS_neg {k : Nat} (h : 0 < k) : (tS (-(k : Int))).cps.toList = 45 :: dg k := by
 obtain ⟨j, rfl⟩ : ∃ j, k = j + 1 := ⟨k - 1, by omega⟩
 unfold tS; rw [PyProof.Rows.signs_ofString]
 show (("-" ++ Nat.repr (j + 1)) : String).toList.map Char.toNat = _
 rw [String.toList_append, List.map_append, Nat.toList_repr]
 rfl
theorem zkR {i : Int} (h : i.natAbs < 10 ^ 15) : (tS i).length <= 16 := by
 rcases Int.le_total 0 i with z | z
 ·obtain ⟨n, rfl⟩ := Int.eq_ofNat_of_zero_le z
  exact Nat.le_trans (zg7 (by simpa using h)).2 (by decide)
 ·by_cases h0 : i = 0
  ·subst h0; decide
  ·obtain ⟨k, hk⟩ : ∃ k : Nat, i = -(k : Int) := ⟨i.natAbs, by omega⟩
   subst hk
   have e : (tS (-(k : Int))).length = (tS (-(k : Int))).cps.toList.length := Array.length_toList.symm
   rw [e, tS_neg (by omega), List.length_cons]
   have := (zhH (n := k) (by simpa using h)).2
   omega
theorem log_lt {i : Int} (h : i.natAbs < 10 ^ 15) : i.natAbs.log2 < 1920 := by
 by_cases h0 : i.natAbs = 0
 ·rw [h0]; decide
 ·exact (Nat.log2_lt h0).mpr (Nat.lt_trans h (Nat.lt_of_lt_of_le (by decide : 10 ^ 15 < 2 ^ 60) (Nat.pow_le_pow_right (by decide) (by decide))))
theorem zmC {i : Int} {m : Sto} (h : i.natAbs < 10 ^ 15) : zlX [.int i] m = .ok (.str (tS i)) m := if_pos (log_lt h)
theorem zlW {ts : List Str} {B : Nat} (h : ∀ t ∈ ts, t.length <= B) : (ts.map fun t => t.length).sum <= ts.length * B := by
 induction ts with
 | nil => simp
 | cons t r ih =>
  rw [List.map_cons, List.sum_cons, List.length_cons, Nat.add_mul]
  have := h t (by simp)
  have := ih fun x hx => h x (List.mem_cons_of_mem _ hx)
  omega
theorem zhR : ∀ ts : List Str, zem (ts.map D.str) = some ts
 | [] => rfl
 | t :: r => by rw [List.map_cons, zem, zhR r]; rfl
theorem join_M {s : Str} {d : D} {ts : List Str} {B : Nat} {m : Sto} (hd : lOf d m = some (ts.map D.str)) (hs : s.length = 1) (h : ∀ t ∈ ts, t.length <= B) (hl : ts.length * B + ts.length <= 16777216) : zdX (.str s) [d] m = .ok (.str (Txt.join s ts)) m := by
 have hj : JoinOk s ts = true := PyProof.Rows.joinOk_of (by
  have := zlW h
  rw [hs]
  omega)
 simp only [zdX, hd, Option.bind_some, zhR]; rw [if_pos hj]
theorem lt_2b {b : Nat} {v : Int} (hb : b <= 40) (h : 0 <= v /\ v < 2 ^ b) : v.natAbs < 10 ^ 15 := by
 have := p2le hb
 have : (2 : Int) ^ 40 < 10 ^ 15 := by decide
 omega
theorem zhU {τ : Type} (enc : τ -> D) {n : Nat} {it : AV} {g : GV} {el : EV} {ρ : En} {m : Sto} {l : List τ} (f : τ -> D) (h : it ρ m = .ok (l.map enc) m) (hl : l.length <= 1000000) (hf : ∀ t ∈ l, ∃ ρ1, g (enc t) (ρ ++ List.replicate n none) m = .ok ρ1 m /\ el ρ1 m = .ok (f t) m) : zaQ n it g za2 el ρ m = .ok (l.map f) m := by
 apply zaJ
 refine Run.mono (zcE (ds := l.map enc) (fun _ m' => m' = m) (fun i _ y => ∃ t, l[i]? = some t /\ y = f t) h (by rw [List.length_map]; exact hl) rfl ?_) ?_
 ·rintro i d m1 hd rfl
  rw [List.getElem?_map] at hd
  obtain ⟨t, ht, rfl⟩ := Option.map_eq_some_iff.mp hd
  obtain ⟨ρ1, e1, e2⟩ := hf t (List.mem_of_getElem? ht)
  rw [e1]
  show Run (el ρ1 m1) _
  rw [e2]; exact Run.ok ⟨⟨t, ht, rfl⟩, rfl⟩
 ·rintro ys m1 ⟨hlen, hP, rfl⟩
  rw [List.length_map] at hlen
  refine ⟨List.ext_getElem? fun i => ?_, rfl⟩
  rw [List.getElem?_map]
  by_cases hi : i < l.length
  ·have e1 : ys[i]? = some (ys[i]'(by omega)) := List.getElem?_eq_getElem _
   have e2 : (l.map enc)[i]? = some ((l.map enc)[i]'(by rw [List.length_map]; exact hi)) := List.getElem?_eq_getElem _
   obtain ⟨t, ht, hy⟩ := hP i _ _ e2 e1
   rw [e1, ht, hy]
   rfl
  ·rw [List.getElem?_eq_none (by omega), List.getElem?_eq_none (by omega)]
   rfl
open PySem L2
theorem zgZ : ∀ l : List D, zbM l l = l.map fun a => D.tup [a, a]
 | [] => rfl
 | a :: r => by simp only [List.map_cons, zbM, zgZ r]
open PySem L2
open PySem L2
section
variable {m : Sto}
theorem zmD {x : Str} {c : Nat} {s : String} (hs : (Str.ofString s : Str) = ⟨#[c]⟩) (hl : x.length <= 20000) : zcq (.str x) [.str (Str.ofString s)] m = .ok (.lst ((Txt.split x ⟨#[c]⟩).map D.str)) m := by
 rw [hs]
 exact if_pos ⟨rfl, Nat.le_trans (Nat.add_le_add_right hl 2) (by decide)⟩
end
structure Dq (k : Nat) (d : D) : Prop where
 ok : zco d = true
 ly : (py d).canLay0 = true
 dp : (py d).depth <= k
theorem Dq.all {k : Nat} : ∀ {xs : List D}, (∀ x ∈ xs, Dq k x) -> pyOkL xs = true /\ PyData.canLayAll0 (pyL xs) = true /\ PyData.depthAll (pyL xs) <= k
 | [], _ => ⟨by simp [pyOkL], by simp [pyL, PyData.canLayAll0], by simp [pyL, PyData.depthAll]⟩
 | x :: r, h => by
  obtain ⟨a, b, c⟩ := Dq.all fun y hy => h y (List.mem_cons_of_mem _ hy)
  have hx := h x (by simp)
  refine ⟨by simp [pyOkL, hx.ok, a], by simp [pyL, PyData.canLayAll0, hx.ly, b], ?_⟩
  simp only [pyL, PyData.depthAll]
  have := hx.dp
  omega
def Sq : Nat -> D -> Prop
 | 0, d => (∃ a, d = .int a) ∨ ∃ s, d = .str s /\ PyData.strOk s = true
 | n + 1, d => ((∃ a, d = .int a) ∨ ∃ s, d = .str s /\ PyData.strOk s = true) ∨ ∃ xs, d = .tup xs /\ xs.length <= 1000 /\ ∀ x ∈ xs, Sq n x
theorem qq_i (n : Nat) (a : Int) : Sq n (.int a) := by cases n with
 | zero => exact .inl ⟨_, rfl⟩
 | succ => exact .inl (.inl ⟨_, rfl⟩)
theorem qq_s (n : Nat) {a : Str} (h : PyData.strOk a = true) : Sq n (.str a) := by cases n with
 | zero => exact .inr ⟨_, rfl, h⟩
 | succ => exact .inl (.inr ⟨_, rfl, h⟩)
theorem qq_t {n : Nat} {xs : List D} (hl : xs.length <= 1000) (h : ∀ x ∈ xs, Sq n x) : Sq (n + 1) (.tup xs) := .inr ⟨_, rfl, hl, h⟩
theorem sq_dq : ∀ {n : Nat} {d : D}, Sq n d -> Dq n d
 | 0, d, h => by
  rcases h with ⟨a, rfl⟩ | ⟨s, rfl, hs⟩
  ·exact ⟨by simp [zco], by simp [py, PyData.canLay0], by simp [py, PyData.depth]⟩
  ·exact ⟨by simp [zco], by simp [py, PyData.canLay0, hs], by simp [py, PyData.depth]⟩
 | n + 1, d, h => by
  rcases h with (⟨a, rfl⟩ | ⟨s, rfl, hs⟩) | ⟨xs, rfl, _, hx⟩
  ·exact ⟨by simp [zco], by simp [py, PyData.canLay0], by simp [py, PyData.depth]⟩
  ·exact ⟨by simp [zco], by simp [py, PyData.canLay0, hs], by simp [py, PyData.depth]⟩
  ·obtain ⟨a, b, c⟩ := Dq.all fun x h => sq_dq (hx x h)
   exact ⟨by simp [zco, a], by simp [py, PyData.canLay0, b], by simp [py, PyData.depth]; omega⟩
open PySem PyProof.Rows L2 Mth
open PySem PyProof.Rows L2 Mth
open PySem PyProof.Rows L2 Mth
open PySem PyProof.Rows L2 Mth
open PySem PyProof.Rows L2 Mth
def kCmp (n : Nat) (g : GV) (cc : TV) (el : EV) (ρ : En) : List D -> Sto -> Res (List D) := fun ds m => zaQ n (fun _ m => .ok ds m) g cc el ρ m
theorem zhT {n : Nat} {it : AV} {g : GV} {cc : TV} {el : EV} {ρ : En} {m : Sto} : zaQ n it g cc el ρ m = (it ρ m).bind (kCmp n g cc el ρ) := by
 unfold zaQ kCmp zaQ
 cases it ρ m <;> rfl
theorem zj4 {n : Nat} {g : GV} {cc : TV} {el : EV} {ρ : En} {ds : List D} {m : Sto} : kCmp n g cc el ρ ds m = zaQ n (fun _ m => .ok ds m) g cc el ρ m := rfl
open PySem PyProof.Rows L2 Mth
theorem zm5 {m : Sto} : zfl (.int 10) (.int 40) m = .ok (.int 10000000000000000000000000000000000000000) m := by
 rw [zdt]
 have e : zm4 (.int 10) (.int 40) m = if (0 : Int) <= 40 /\ (40 : Int) <= 1000000 /\ (10 : Int).natAbs < 2 ^ 64 then .ok (.int ((10 : Int) ^ (40 : Int).toNat)) m else .bad := rfl
 rw [e, if_pos (by decide)]
 rfl
theorem zlb {ns : List Int} {m : Sto} (hn : ns.length <= 63) : Run (zcB [.scr (ns.map D.int)] m) fun a m' => ∃ p q, a = .ob p /\ P3 m' p q 0 m' := by
 unfold zcB zfL; walk_at "w"; rw [zdu]; walk_at "w"; rw [zdu]; walk_at "w"; rw [zhl (by decide +kernel)]; walk_at "w"; rw [zdu]; walk_at "w"; rw [zhl (by decide +kernel)]; walk_at "w"; rw [zdu]; walk_at "w"; rw [zhl (by decide +kernel)]; walk_at "w"; rw [zdu]; walk_at "w"; rw [zhl (by decide +kernel)]; walk_at "w"
 have hN := znP
 generalize (10 : Int) ^ 60 * 10 ^ 60 * 10 ^ 60 * 10 ^ 60 * 10 ^ 60 = N at hN; rw [new_0]; walk_at "w"; rw [sl_scr]; walk_at "w"
 have hr : (m ++ [MO.lst []])[m.length]? = some (.lst []) := by simp
 generalize m.length = r at hr ⊢; generalize m ++ [MO.lst []] = mA at hr ⊢; refine Run.bind (zc9 (fun k ρ m' => ∃ (seed : Int) (own : List Int) (x4 : Option D), ρ = [some (.scr (ns.map D.int)), some (.int N), some (.int seed), some (.ob r), x4] /\ m'[r]? = some (.lst (own.map D.int)) /\ own.length <= k /\ (∀ a ∈ own, 0 <= a) /\ 0 <= seed /\ seed < 2305843009213693951) ((ns.take 63).map D.int) 0 ⟨41, [], none, rfl, hr, Nat.le_refl _, fun _ h => (nomatch h), by decide, by decide⟩ ?_) ?_
 ·rintro i d ρ m1 hd ⟨seed, own, x4, rfl, g1, g2, g3, g4, g5⟩
  have hi := (List.getElem?_eq_some_iff.mp hd).1
  rw [List.length_map, List.length_take] at hi
  obtain ⟨v, hv, rfl⟩ := List.mem_map.mp (List.mem_of_getElem? hd)
  walk_at "w"; rw [zln ⟨by decide, by decide⟩]; walk_at "w"; rw [zm5]; walk_at "w"; rw [zc3 (by decide)]; walk_at "w"; rw [zc3 (by decide)]; walk_at "w"; rw [abs_i]; walk_at "w"; rw [zm6]; walk_at "w"; generalize hS : (seed * 6364136223846793005 + v % 10000000000000000000000000000000000000000 + 17) % 2305843009213693951 = S
  have S0 : 0 <= S := by rw [<- hS]; exact Int.emod_nonneg _ (by decide)
  have S1 : S < 2305843009213693951 := by rw [<- hS]; exact Int.emod_lt_of_pos _ (by decide)
  by_cases hb : (1000000000000000000 : Int) <= (v.natAbs : Int)
  ·rw [if_pos hb]; walk_at "w"; rw [if_pos (zmc g1)]; walk_at "w"; rw [abs_i]; walk_at "w"; rw [zc3 hN]; walk_at "w"; rw [zmn g1 (by rw [List.length_map]; exact zhc (by omega))]; walk_at "w"
   refine Run.ok ⟨_, rfl, S, own ++ [(v.natAbs : Int) % N], _, rfl, by rw [zdd g1, List.map_append]; rfl, by rw [List.length_append]; show own.length + 1 <= _; omega, fun a ha => ?_, S0, S1⟩
   rcases List.mem_append.mp ha with ha | ha
   ·exact g3 a ha
   ·rw [List.mem_singleton.mp ha]
    exact Int.emod_nonneg _ (by omega)
  ·rw [if_neg hb]; walk_at "w"; exact Run.ok ⟨_, rfl, S, own, _, rfl, g1, by omega, g3, S0, S1⟩
 ·rintro _ m1 ⟨ρ, rfl, seed, own, x4, rfl, g1, g2, g3, g4, g5⟩
  rw [Nat.zero_add, List.length_map, List.length_take] at g2
  walk_at "w"; rw [show zeY [("own", zae 3), ("seed", zae 2), ("turn", eC (.int 0))] [some (.scr (ns.map D.int)), some (.int N), some (.int seed), some (.ob r), x4] m1 = .ok (.ob m1.length) (m1 ++ [.dct (zgU r seed 0)]) from rfl]; walk_at "w"
  have hrl := (List.getElem?_eq_some_iff.mp g1).1
  exact Run.ok ⟨m1.length, r, rfl, ⟨⟨own, seed, 0, by simp, by rw [List.getElem?_append_left hrl]; exact g1, by omega, by omega, g3, g4, by omega, by decide, by decide⟩, Fr.refl⟩⟩
theorem Sq.up : ∀ {n : Nat} {d : D}, Sq n d -> Sq (n + 1) d
 | 0, d, h => .inl h
 | n + 1, d, h => by
  rcases h with h | ⟨xs, rfl, hl, hx⟩
  ·exact .inl h
  ·exact .inr ⟨xs, rfl, hl, fun x hh => (hx x hh).up⟩
theorem Sq.le {n k : Nat} {d : D} (h : Sq n d) (hk : n <= k) : Sq k d := by
 obtain ⟨j, rfl⟩ := Nat.le.dest hk
 induction j with
 | zero => exact h
 | succ j ih => exact (ih (by omega)).up
open PySem L2
open PySem L2
section
variable {m : Sto} {k l r i n : Nat} {hs : List (List Int)} {had base : Option Nat} {fresh : Nat} {hd : List Int}
end
theorem zlU {p : Nat -> Bool} : ∀ {L : List Nat}, (∀ c ∈ L, p c = true) -> L.takeWhile p = L
 | [], _ => rfl
 | a :: r, h => by rw [List.takeWhile_cons_of_pos (h a (List.mem_cons_self ..)), zlU fun c hc => h c (List.mem_cons_of_mem _ hc)]
theorem zms {p : Nat -> Bool} {c : Nat} (hc : p c = false) : ∀ {L : List Nat}, c ∈ L -> (L.takeWhile p).length < L.length
 | [], h => nomatch h
 | a :: r, h => by
  cases ha : p a with
  | false => rw [List.takeWhile_cons_of_neg (by rw [ha]; decide)]; simp
  | true =>
   rw [List.takeWhile_cons_of_pos ha, List.length_cons, List.length_cons]
   rcases List.mem_cons.mp h with rfl | h
   ·rw [ha] at hc; cases hc
   ·exact Nat.succ_lt_succ (zms hc h)
theorem tw_at {p : Nat -> Bool} : ∀ {L : List Nat}, (L.takeWhile p).length < L.length -> ∃ c, c ∈ L.drop (L.takeWhile p).length /\ p c = false
 | [], h => nomatch h
 | a :: r, h => by
  cases ha : p a with
  | false => rw [List.takeWhile_cons_of_neg (by rw [ha]; decide)]; exact ⟨a, by simp, ha⟩
  | true =>
   rw [List.takeWhile_cons_of_pos ha] at h ⊢
   rw [List.length_cons, List.length_cons] at h
   obtain ⟨c, h1, h2⟩ := tw_at (L := r) (Nat.lt_of_succ_lt_succ h)
   exact ⟨c, by rw [List.length_cons, List.drop_succ_cons]; exact h1, h2⟩
section
variable {ρ : En} {m m1 m2 : Sto} {fa : EV} {fr : AV} {c : TV} {f g : SV} {i : Nat} {d : D} {ds : List D} {x : Str} {h : List D -> Sto -> Res D} {e : Exc}
theorem puA (q : fa ρ m = .ok d m1) : zaG (sPu (za1 fa (gN i))) g ρ m = g (ρ.set i (some d)) m1 := by
 show (Res.pu (Res.bind (fa ρ m) _)).bind _ = _
 rw [q]
 rfl
theorem exF (q : c ρ m = .ok false m1) : zaG (sIf (tPu c) f zb4) g ρ m = g ρ m1 := by
 show (Res.bind (Res.pu (c ρ m)) _).bind _ = _
 rw [q]
 rfl
end
section
variable {l : List Nat} {m : Sto}
theorem tryX {es : List Str} {x : Str} {fb fs : SV} {i : Nat} {ρ : En} {c : Exc} {m1 : Sto} (q : fb ρ m = .exc c m1) (hx : (es.contains c.cls && isX c.cls x) = true) : zlY es x fb i fs ρ m = (fs (ρ.set i (some (.exn c.cls c.args))) m1).bind fun fl m2 => .ok (znM i fl) m2 := by
 unfold zlY; rw [q]
 exact if_pos hx
end
theorem head_u {fs : List Fd} {n : Int} {xs : List D} {m : Sto} (hs : ∀ (i : Nat) (f : Fd), fs[i]? = some f -> f.b <= 40) (hn : fs.length <= 12) (hx : ∀ x ∈ xs, Pl x) : zcP [shD fs n, .tup xs] m = .ok (.bl (zmi fs (.tup xs))) m := by
 apply zaJ
 unfold zcP zhx; walk_at "w"; rw [zaJ (zfY (by omega))]; walk_at "w"; rw [znD]; walk_at "w"; rw [List.length_map]
 by_cases hl : xs.length = fs.length
 ·rw [decide_eq_true (by omega)]; walk_at "w"
  rw [za6 (ds := zbM xs (fs.map fun f => D.int f.b)) fZ (by
   walk_at "w"; simp only [zlR]
   rw [if_pos (by simp [hl])]) (by rw [zda (by simp [hl])]; omega) (by
   intro d hd
   obtain ⟨i, hi⟩ := List.mem_iff_getElem?.mp hd
   obtain ⟨x, y, h1, h2, rfl⟩ := ziE hi
   rw [List.getElem?_map] at h2
   obtain ⟨f, h4, rfl⟩ := Option.map_eq_some_iff.mp h2
   have hb1 := hs i f h4
   refine ⟨_, rfl, ?_⟩
   show zbc [x, .int f.b] m = _
   exact zgI (hx x (List.mem_of_getElem? h1)) (by omega)), zz_b]
  walk_at "w"; rw [zdO]; walk_at "w"; exact Run.ok ⟨by simp [zmi, hl], rfl⟩
 ·rw [decide_eq_false (by omega)]; walk_at "w"; exact Run.ok ⟨by simp [zmi, hl], rfl⟩
theorem due_no {fs : List Fd} {xs : List D} {i : Nat} {f : Fd} {x : D} (hf : fs[i]? = some f) (hx : xs[i]? = some x) (h : okV x f.b = false) : zmi fs (.tup xs) = false := by
 have e : (zz xs fs)[i]? = some false := by
  unfold zz; rw [List.getElem?_zipWith, hx, hf]
  exact congrArg some h
 have : (zz xs fs).all id = false := by
  rw [Bool.eq_false_iff]
  intro z
  have := List.all_eq_true.mp z false (List.mem_of_getElem? e)
  cases this
 simp [zmi, this]
theorem zgN {fs : List Fd} {xs : List D} (h : xs.length ≠ fs.length) : zmi fs (.tup xs) = false := by simp [zmi, h]
theorem ziQ {p : Nat -> Bool} {l : List Nat} {y : Str} (hc : y.cps.contains = p) : Txt.stripChars ⟨l.toArray⟩ y = Str.ofString "" ↔ ∀ c ∈ l, p c = true := by
 have hl : (⟨l.toArray⟩ : Str).cps.toList = l := by simp
 have hn : (⟨l.toArray⟩ : Str).length = l.length := List.size_toArray ..
 unfold Txt.stripChars
 rw [PyProof.Rows.stripBy_eq, hc]
 have hlo : stripLo p true ⟨l.toArray⟩ = (l.takeWhile p).length := by
  unfold stripLo; rw [if_pos rfl, hl]
 have hhi : ∀ lo, stripHi p true ⟨l.toArray⟩ lo = l.length - (((l.drop lo).reverse).takeWhile p).length := fun lo => by
  unfold stripHi; rw [if_pos rfl, hl, hn]
 rw [hlo, hhi]
 unfold Builtin.Str.strSub
 have e0 : Str.ofString "" = (⟨#[]⟩ : Str) := by decide
 rw [e0]
 constructor
 ·intro h c hc1
  have hs := congrArg (fun s => s.cps.size) h
  simp only [Array.size_extract, List.size_toArray, List.size_toArray, List.length_nil] at hs
  cases hc2 : p c with
  | true => rfl
  | false =>
   have h1 := zms (p := p) hc2 hc1
   obtain ⟨c', h2, h3⟩ := tw_at h1
   have h4 := zms (p := p) h3 (List.mem_reverse.mpr h2)
   rw [List.length_reverse, List.length_drop] at h4
   have hs' : min (l.length - (((l.drop (l.takeWhile p).length).reverse).takeWhile p).length) l.length - (l.takeWhile p).length = 0 := hs
   omega
 ·intro hb
  rw [zlU hb]
  congr 1
  apply Array.ext
  ·simp
  ·intro i h1 h2
   simp at h2
def zlz (c : Nat) : Bool := decide (48 <= c /\ c <= 57)
theorem dgsC : (Str.ofString "0123456789").cps.contains = zlz := by
 funext c
 rw [show (Str.ofString "0123456789").cps = #[48, 49, 50, 51, 52, 53, 54, 55, 56, 57] by decide]
 unfold zlz; rw [Bool.eq_iff_iff, decide_eq_true_iff]
 simp
 omega
def okW (z : Str) : Bool := decide (1 <= z.length /\ z.length <= 15) && z.cps.toList.all zlz && (decide (z = "0") || decide (z.cps.toList.head? ≠ some 48))
def nmW (z : Str) : D := if okW z = true then .int (NumText.digitsVal z.cps.toList : Nat) else .non
theorem zlA {z : Str} {m : Sto} (h1 : 1 <= z.length) (h2 : z.length <= 15) (h3 : z.cps.toList.all zlz = true) : ziC [.str z] m = .ok (.int (NumText.digitsVal z.cps.toList : Nat)) m := by
 have ha : NumText.AllDigits z.cps.toList := fun c hc => by
  have := List.all_eq_true.mp h3 c hc
  exact of_decide_eq_true this
 have e := PySem.intText_digits ha (by
  intro e
  have : z.cps.toList.length = 0 := by rw [e]; rfl
  have h1 : 1 <= z.cps.size := h1
  rw [Array.length_toList] at this
  omega) (Nat.le_trans h2 (by decide))
 simp only [ziC, e]
 exact if_pos (Nat.le_trans h2 (by decide))
theorem str0 {z : Str} (h : z.length = 0) : z = Str.ofString "" := zeu (by
 have h : z.cps.size = 0 := h
 rw [show (Str.ofString "").cps.toList = [] by decide]
 exact List.length_eq_zero_iff.mp (by simpa using h))
theorem zmd {z : Str} (h : 1 <= z.length) {m : Sto} (hl : z.length <= 100000) : ∃ c r, z.cps.toList = c :: r /\ ixD (.str z) (.int 0) m = .ok (.str ⟨#[c]⟩) m := by
 have h : 1 <= z.cps.size := h
 cases e : z.cps.toList with
 | nil =>
  have : z.cps.toList.length = 0 := by rw [e]; rfl
  rw [Array.length_toList] at this; omega
 | cons c r =>
  refine ⟨c, r, rfl, ?_⟩
  show (if z.length <= sizeLine then _ else _) = _
  rw [if_pos (Nat.le_trans hl (by decide)), e]
  unfold atI ixN; rw [if_pos (by decide), if_pos (by rw [List.length_cons]; omega)]
  rfl
theorem zkU (x : Str) : ((List.range x.cps.size).map fun i => decide (48 <= x.cps.getD i 0 /\ x.cps.getD i 0 <= 57)).all id = x.cps.toList.all zlz := by
 rw [Bool.eq_iff_iff, List.all_eq_true, List.all_eq_true]
 constructor
 ·intro h c hc
  obtain ⟨i, hi, rfl⟩ := List.mem_iff_getElem.mp hc
  have hi' : i < x.cps.size := by simpa using hi
  have := h _ (List.mem_map.mpr ⟨i, List.mem_range.mpr hi', rfl⟩)
  unfold zlz
  simpa [Array.getD, hi'] using this
 ·intro h b hb
  obtain ⟨i, hi, rfl⟩ := List.mem_map.mp hb
  have hi' : i < x.cps.size := List.mem_range.mp hi
  have := h x.cps[i] (by simp)
  unfold zlz at this
  simpa [Array.getD, hi'] using this
theorem zhk {z : Str} {m : Sto} (hl : z.length <= 100000) : zaO [.str z] m = .ok (nmW z) m := by
 apply zaJ
 unfold zaO zbX; walk_at "w"; rw [len_str (Nat.le_trans hl (by decide))]; walk_at "w"
 have no : okW z = false -> (.non : D) = nmW z := fun e => by unfold nmW; rw [e]; rfl
 by_cases h1 : 1 <= z.length
 ·rw [if_pos (show (1 : Int) <= (z.length : Nat) by omega)]
  by_cases h2 : z.length <= 15
  ·rw [decide_eq_true (show ((z.length : Nat) : Int) <= 15 by omega)]; walk_at "w"
   rw [za6 (ds := zcc z) dgF (by walk_at "w") (by simp [zcc]; exact Nat.le_trans h2 (by decide)) (by
    intro d hd
    simp only [zcc, List.mem_map] at hd
    obtain ⟨i, hi, rfl⟩ := hd
    refine ⟨_, rfl, ?_⟩
    show (zb9 leD leD (eC (.str "0")) (zae 1) (eC (.str "9"))) [some (.str z), some (.str ⟨#[z.cps.getD i 0]⟩)] m = .ok (.bl (decide (48 <= z.cps.getD i 0 /\ z.cps.getD i 0 <= 57))) m
    generalize z.cps.getD i 0 = c; walk_at "w"; rw [zls, show ("0" : Str) = ⟨#[48]⟩ from zlL, zho]; walk_at "w"
    by_cases hc : 48 <= c
    ·rw [decide_eq_false (show ¬ c < 48 by omega)]; walk_at "w"; rw [zls, show ("9" : Str) = ⟨#[57]⟩ from ch_9, zho]
     by_cases hc2 : c <= 57
     ·rw [decide_eq_false (show ¬ 57 < c by omega)]; simp [hc, hc2]
     ·rw [decide_eq_true (show 57 < c by omega)]; simp [hc2]
    ·rw [decide_eq_true (show c < 48 by omega)]; walk_at "w"
     simp [hc])]
   walk_at "w"
   rw [show (zcc z).map dgF = (((List.range z.cps.size).map fun i => decide (48 <= z.cps.getD i 0 /\ z.cps.getD i 0 <= 57)).map D.bl) by
    simp only [zcc, List.map_map]; rfl, zdO, zkU]
   cases h3 : z.cps.toList.all zlz with
   | false =>
    walk_at "w"; exact Run.ok ⟨no (by unfold okW; rw [h3]; simp), rfl⟩
   | true =>
    walk_at "w"
    obtain ⟨c, r, e1, e2⟩ := zmd h1 (m := m) hl
    rw [e2]; walk_at "w"; rw [show ("0" : Str) = ⟨#[48]⟩ from zlL]
    by_cases hc : c = 48
    ·subst hc
     rw [if_pos (show (⟨#[48]⟩ : Str) = ⟨#[48]⟩ from rfl)]; walk_at "w"
     by_cases h0 : z = ⟨#[48]⟩
     ·rw [decide_eq_true h0]; walk_at "w"; rw [zlA h1 h2 h3]; walk_at "w"; exact Run.ok ⟨by unfold nmW okW; rw [h3, decide_eq_true ⟨h1, h2⟩, show ("0" : Str) = ⟨#[48]⟩ from zlL, decide_eq_true h0]; rfl, rfl⟩
     ·rw [decide_eq_false h0]; walk_at "w"; exact Run.ok ⟨no (by unfold okW; rw [e1, show ("0" : Str) = ⟨#[48]⟩ from zlL, decide_eq_false h0]; simp), rfl⟩
    ·rw [if_neg (show ¬ (⟨#[c]⟩ : Str) = ⟨#[48]⟩ from fun z => hc (by have := congrArg (fun s => s.cps.toList) z; simpa using this))]; walk_at "w"; rw [zlA h1 h2 h3]; walk_at "w"; exact Run.ok ⟨by unfold nmW okW; rw [h3, decide_eq_true ⟨h1, h2⟩, e1, decide_eq_true (show (c :: r).head? ≠ some 48 by simp [hc])]; simp, rfl⟩
  ·rw [decide_eq_false (show ¬ ((z.length : Nat) : Int) <= 15 by omega)]; walk_at "w"; exact Run.ok ⟨no (by unfold okW; rw [decide_eq_false (show ¬ (1 <= z.length /\ z.length <= 15) from fun z => h2 z.2)]; rfl), rfl⟩
 ·rw [if_neg (show ¬ (1 : Int) <= (z.length : Nat) by omega)]; walk_at "w"; exact Run.ok ⟨no (by unfold okW; rw [decide_eq_false (show ¬ (1 <= z.length /\ z.length <= 15) from fun z => h1 z.1)]; rfl), rfl⟩
theorem zgF {z : Str} {m : Sto} (hl : z.length <= 100000) : zbj [.str z] m = .ok (nmW z) m := by
 apply zaJ
 unfold zbj zcX; walk_at "w"
 have no : okW z = false -> (.non : D) = nmW z := fun e => by unfold nmW; rw [e]; rfl
 by_cases h1 : 1 <= z.length
 ·have h0 : z ≠ Str.ofString "" := fun e => by
   rw [e, show (Str.ofString "").length = 0 by decide] at h1; omega
  rw [if_neg h0]; walk_at "w"; rw [len_str (Nat.le_trans hl (by decide))]; walk_at "w"
  by_cases h2 : z.length <= 15
  ·rw [if_neg (show ¬ (15 : Int) < (z.length : Nat) by omega)]; walk_at "w"; rw [show zhb (.str z) [.str "0123456789"] m = .ok (.str (Txt.stripChars z "0123456789")) m from if_pos (Nat.le_trans hl (by decide))]; walk_at "w"
   have hs := ziQ (l := z.cps.toList) dgsC
   rw [show (⟨z.cps.toList.toArray⟩ : Str) = z from zeu (by simp)] at hs
   cases h3 : z.cps.toList.all zlz with
   | false =>
    rw [decide_eq_false (fun e => by
     have := List.all_eq_true.mpr (hs.mp e)
     rw [h3] at this; cases this)]
    walk_at "w"; exact Run.ok ⟨no (by unfold okW; rw [h3]; simp), rfl⟩
   | true =>
    rw [decide_eq_true (hs.mpr (List.all_eq_true.mp h3))]; walk_at "w"; rw [show ("0" : Str) = ⟨#[48]⟩ from zlL]
    by_cases hz : z = ⟨#[48]⟩
    ·rw [if_pos hz]; walk_at "w"; rw [zlA h1 h2 h3]; walk_at "w"; exact Run.ok ⟨by unfold nmW okW; rw [h3, decide_eq_true ⟨h1, h2⟩, show ("0" : Str) = ⟨#[48]⟩ from zlL, decide_eq_true hz]; rfl, rfl⟩
    ·rw [if_neg hz]; walk_at "w"
     obtain ⟨c, r, e1, e2⟩ := zmd h1 (m := m) hl
     rw [e2]; walk_at "w"
     by_cases hc : c = 48
     ·subst hc
      rw [decide_eq_true (show (⟨#[48]⟩ : Str) = ⟨#[48]⟩ from rfl)]; walk_at "w"; exact Run.ok ⟨no (by unfold okW; rw [e1, show ("0" : Str) = ⟨#[48]⟩ from zlL, decide_eq_false hz]; simp), rfl⟩
     ·rw [decide_eq_false (show ¬ (⟨#[c]⟩ : Str) = ⟨#[48]⟩ from fun z => hc (by have := congrArg (fun s => s.cps.toList) z; simpa using this))]; walk_at "w"; rw [zlA h1 h2 h3]; walk_at "w"; exact Run.ok ⟨by unfold nmW okW; rw [h3, decide_eq_true ⟨h1, h2⟩, e1, decide_eq_true (show (c :: r).head? ≠ some 48 by simp [hc])]; simp, rfl⟩
  ·rw [if_pos (show (15 : Int) < (z.length : Nat) by omega)]; walk_at "w"; exact Run.ok ⟨no (by unfold okW; rw [decide_eq_false (show ¬ (1 <= z.length /\ z.length <= 15) from fun z => h2 z.2)]; rfl), rfl⟩
 ·rw [if_pos (str0 (by omega))]; walk_at "w"; exact Run.ok ⟨no (by unfold okW; rw [decide_eq_false (show ¬ (1 <= z.length /\ z.length <= 15) from fun z => h1 z.1)]; rfl), rfl⟩
def dot : Str := ⟨#[46]⟩
theorem dot_s : (Str.ofString "." : Str) = dot := by decide
theorem zfF {c : Nat} : ∀ {A : List Str}, (∀ p ∈ A, p.length <= (Str.join ⟨#[c]⟩ A).length) /\ A.length <= (Str.join ⟨#[c]⟩ A).length + 1
 | [] => ⟨(fun _ h => nomatch h), Nat.zero_le _⟩
 | [x] => ⟨fun p h => by rw [List.mem_singleton.mp h]; exact Nat.le_refl _, by simp⟩
 | x :: y :: r => by
  obtain ⟨h1, h2⟩ := zfF (c := c) (A := y :: r)
  have e : (Str.join ⟨#[c]⟩ (x :: y :: r)).length = x.length + (1 + (Str.join ⟨#[c]⟩ (y :: r)).length) := by
   have := congrArg List.length (zhs c x y r)
   rw [Array.length_toList, List.length_append, List.length_cons, Array.length_toList, Array.length_toList] at this
   show (Str.join ⟨#[c]⟩ (x :: y :: r)).cps.size = x.cps.size + (1 + (Str.join ⟨#[c]⟩ (y :: r)).cps.size)
   omega
  refine ⟨fun p h => ?_, ?_⟩
  ·rcases List.mem_cons.mp h with rfl | h
   ·omega
   ·have := h1 p h; omega
  ·rw [List.length_cons]; omega
def wds (z : Str) : List Str := Txt.split z dot
theorem ziG {z : Str} : (∀ p ∈ wds z, p.length <= z.length) /\ (wds z).length <= z.length + 1 := by
 have := zfF (c := 46) (A := wds z)
 rw [show Str.join ⟨#[46]⟩ (wds z) = z from StrLaws.join_split z dot] at this
 exact this
def zb1 (z : Str) : List D := (wds z).map nmW
theorem zfw {z : Str} {m : Sto} {g : List D -> Sto -> Res D} {ρ : En} {i : Nat} (hg : ∀ w : Str, w.length <= 100000 -> g [.str w] m = .ok (nmW w) m) (hz : z.length <= 10000) (h1 : ρ[1]? = some (some (.str z))) (hi : ρ.length = i) :
  zaQ 1 (aIt (zbm zcz zcq (zae 1) (zac (eC (.str ".")) zak))) (gN i) za2 (eFn g (zac (zae i) zak)) ρ m = .ok (zb1 z) m := by
 have hl := ziG (z := z)
 refine zhU D.str (l := wds z) nmW ?_ (by omega) fun w hw => ?_
 ·show (aIt (zbm zcz zcq (zae 1) (zac (eC (.str ".")) zak))) ρ m = _
  have e : zae 1 ρ m = .ok (.str z) m := by unfold zae; rw [h1]
  unfold aIt zbm; rw [e]
  show (Res.bind _ _) = _
  have s : zcq (.str z) [.str (Str.ofString ".")] m = .ok (.lst ((Txt.split z ⟨#[46]⟩).map D.str)) m := zmD (c := 46) (by decide) (by omega)
  simp only [bind_ok, zcz, zac, zak, eC, if_true]; rw [s]
  rfl
 ·have hw' := hl.1 w hw
  refine ⟨(ρ ++ List.replicate 1 none).set i (some (.str w)), rfl, ?_⟩
  have e : zae i ((ρ ++ List.replicate 1 none).set i (some (.str w))) m = .ok (.str w) m := by
   unfold zae; rw [List.getElem?_set_self (by rw [List.length_append, List.length_replicate]; omega)]
  unfold eFn zac; rw [e]; simp only [bind_ok, zak]
  exact hg w (by omega)
def noW (z : Str) : Bool := (wds z).any fun w => !okW w
theorem zbg (w : Str) : (okW w = true /\ nmW w = .int (NumText.digitsVal w.cps.toList : Nat)) ∨ (okW w = false /\ nmW w = .non) := by
 unfold nmW
 cases okW w <;> simp
theorem zjF : ∀ ws : List Str, pyOkL (ws.map nmW) = true /\ PyData.canLayAll0 (pyL (ws.map nmW)) = true /\ ((pyL (ws.map nmW)).any fun y => PyData.eqv y (py .non)) = ws.any fun w => !okW w
 | [] => by simp [pyOkL, pyL, PyData.canLayAll0]
 | w :: r => by
  obtain ⟨a, b, c⟩ := zjF r
  rw [List.map_cons, List.any_cons]
  rcases zbg w with ⟨e1, e2⟩ | ⟨e1, e2⟩
  ·rw [e1, e2, <- c]; simp [pyOkL, zco, pyL, py, PyData.canLayAll0, PyData.canLay0, a, b, PyData.eqv]
  ·rw [e1, e2, <- c]; simp [pyOkL, zco, pyL, py, PyData.canLayAll0, PyData.canLay0, a, b, PyData.eqv]
theorem in_non {z : Str} {m : Sto} : inD .non (.lst (zb1 z)) m = .ok (.bl (noW z)) m := by
 obtain ⟨a, b, c⟩ := zjF (wds z)
 have e : inO .non (.lst (zb1 z)) m = some (noW z) := by
  show inB .non (zb1 z) = _
  unfold inB zb1; rw [a, b]
  have hd : deep .non = true := by simp [deep, zco, py, SeqAt.shaped, PyData.canLay0, PyData.depth]
  rw [hd]; simp only [Bool.and_self, if_true]
  exact congrArg some c
 simp only [inD, e]
section
variable {fs : List Fd} {n : Int} {z : Str} {m : Sto}
def ziD (fs : List Fd) (z : Str) : Bool := zmi fs (.tup (zb1 z))
theorem znr : ∀ x ∈ zb1 z, Pl x := fun x hx => by
 obtain ⟨w, _, rfl⟩ := List.mem_map.mp hx
 rcases zbg w with ⟨_, e⟩ | ⟨_, e⟩ <;> rw [e] <;> exact trivial
theorem zkq (h : noW z = true) : ziD fs z = false := by
 unfold noW at h
 obtain ⟨w, hw, e⟩ := List.any_eq_true.mp h
 obtain ⟨i, hi⟩ := List.mem_iff_getElem?.mp hw
 have hx : (zb1 z)[i]? = some .non := by
  unfold zb1; rw [List.getElem?_map, hi]
  rcases zbg w with ⟨e1, _⟩ | ⟨_, e2⟩
  ·rw [e1] at e; cases e
  ·exact congrArg some e2
 by_cases hl : (zb1 z).length = fs.length
 ·have hi2 := (List.getElem?_eq_some_iff.mp hx).1
  exact due_no (List.getElem?_eq_getElem (by omega)) hx rfl
 ·exact zgN hl
def gF (d : D) : D := match d with
 | .tup [.int v, .tup [_, .int b, _]] => .bl (decide (2 ^ b.toNat <= v))
 | _ => .non
theorem gF_b : ∀ {ws : List Str} {fs : List Fd}, (∀ w ∈ ws, okW w = true) -> (zbM (ws.map nmW) (fs.map Fd.e)).map gF = (List.zipWith (fun w (f : Fd) => decide ((2 : Int) ^ f.b <= (NumText.digitsVal w.cps.toList : Nat))) ws fs).map D.bl
 | [], _, _ => by simp [zbM]
 | _ :: _, [], _ => by simp [zbM]
 | w :: r, f :: fr, h => by
  have hw : nmW w = .int (NumText.digitsVal w.cps.toList : Nat) := by
   rcases zbg w with ⟨_, e⟩ | ⟨e, _⟩
   ·exact e
   ·rw [h w (List.mem_cons_self ..)] at e; cases e
  rw [List.map_cons, List.map_cons, zbM, List.map_cons, List.zipWith_cons_cons, List.map_cons, gF_b fun w hw => h w (List.mem_cons_of_mem _ hw), hw]
  rfl
theorem zkI : ∀ {ws : List Str} {fs : List Fd}, ws.length = fs.length -> (∀ w ∈ ws, okW w = true) -> ((zz (ws.map nmW) fs).all id = !(List.zipWith (fun w (f : Fd) => decide ((2 : Int) ^ f.b <= (NumText.digitsVal w.cps.toList : Nat))) ws fs).any id)
 | [], [], _, _ => rfl
 | [], _ :: _, h, _ => by simp at h
 | _ :: _, [], h, _ => by simp at h
 | w :: r, f :: fr, hl, h => by
  have hw : nmW w = .int (NumText.digitsVal w.cps.toList : Nat) := by
   rcases zbg w with ⟨_, e⟩ | ⟨e, _⟩
   ·exact e
   ·rw [h w (List.mem_cons_self ..)] at e; cases e
  have ih := zkI (ws := r) (fs := fr) (by simpa using hl) fun w hw => h w (List.mem_cons_of_mem _ hw)
  unfold zz at ih ⊢
  rw [List.map_cons, List.zipWith_cons_cons, List.zipWith_cons_cons, List.all_cons, List.any_cons, ih, hw, Bool.not_or]
  congr 1
  show decide (0 <= _ /\ _) = !decide _
  have h0 : (0 : Int) <= (NumText.digitsVal w.cps.toList : Nat) := Int.natCast_nonneg _
  by_cases hh : (2 : Int) ^ f.b <= (NumText.digitsVal w.cps.toList : Nat)
  ·rw [decide_eq_true hh, decide_eq_false (by omega)]; rfl
  ·rw [decide_eq_false hh, decide_eq_true (by omega)]; rfl
theorem zim (hb : ∀ (i : Nat) (f : Fd), fs[i]? = some f -> f.b <= 40) (hn : fs.length <= 12) (hz : z.length <= 10000) : zbh [shD fs n, .str z] m = .ok (if ziD fs z = true then .tup (zb1 z) else .non) m := by
 have hwl := ziG (z := z)
 apply zaJ
 unfold zbh zcN; walk_at "w"; rw [show zbb "str" (.str z) m = .ok (.bl true) m from rfl]; walk_at "w"; rw [zfw (m := m) (i := 3) (ρ := [some (shD fs n), some (.str z), none]) (fun w hw => zgF hw) hz rfl rfl]; walk_at "w"; rw [in_non]
 cases hno : noW z with
 | true =>
  rw [zkq hno]; walk_at "w"; exact Run.ok ⟨rfl, rfl⟩
 | false =>
  have hall : ∀ w ∈ wds z, okW w = true := fun w hw => by
   cases e : okW w with
   | true => rfl
   | false =>
    have : noW z = true := List.any_eq_true.mpr ⟨w, hw, by rw [e]; rfl⟩
    rw [hno] at this; cases this
  walk_at "w"; rw [show ixD (shD fs n) (.int 0) m = .ok (.tup (fs.map Fd.e)) m from ix_t0 _ _]; walk_at "w"
  have hnl : (zb1 z).length = (wds z).length := by unfold zb1; rw [List.length_map]
  rw [List.length_map]
  by_cases hl : (zb1 z).length = fs.length
  ·rw [decide_eq_true (show ((zb1 z).length : Int) = (fs.length : Int) by omega)]; walk_at "w"
   rw [za6 (ds := zbM (zb1 z) (fs.map Fd.e)) gF (by
    unfold zgY; walk_at "w"; rw [show ixD (shD fs n) (.int 0) m = .ok (.tup (fs.map Fd.e)) m from ix_t0 _ _]; walk_at "w"; simp only [zmo]
    rw [if_pos (by simp [hl])]) (by rw [zda (by simp [hl])]; omega) (by
    intro d hd
    obtain ⟨i, hi⟩ := List.mem_iff_getElem?.mp hd
    obtain ⟨x, y, h1, h2, rfl⟩ := ziE hi
    rw [List.getElem?_map] at h2
    obtain ⟨f, h4, rfl⟩ := Option.map_eq_some_iff.mp h2
    have hb1 := hb i f h4
    have hx : ∃ v : Nat, x = .int v := by
     unfold zb1 at h1
     rw [List.getElem?_map] at h1
     obtain ⟨w, h5, rfl⟩ := Option.map_eq_some_iff.mp h1
     rcases zbg w with ⟨_, e⟩ | ⟨e, _⟩
     ·exact ⟨_, e⟩
     ·rw [hall w (List.mem_of_getElem? h5)] at e; cases e
    obtain ⟨v, rfl⟩ := hx
    refine ⟨_, rfl, ?_⟩
    show (eOp geD (zae 3) (eOp zkV (eC (.int 1)) (eOp ixD (zae 4) (eC (.int 1))))) [some (shD fs n), some (.str z), some (.lst (zb1 z)), some (.int v), some f.e] m = _
    walk_at "w"; rw [show ixD f.e (.int 1) m = .ok (.int f.b) m from ix_t1 _ _ _]; walk_at "w"; rw [zh1 (by omega)]; walk_at "w"
    rfl)]
   walk_at "w"
   unfold zb1; rw [gF_b hall, znY]
   have hd : ziD fs z = !((List.zipWith (fun w (f : Fd) => decide ((2 : Int) ^ f.b <= (NumText.digitsVal w.cps.toList : Nat))) (wds z) fs).any id) := by
    show (decide ((zb1 z).length = fs.length) && (zz (zb1 z) fs).all id) = _
    rw [decide_eq_true hl, Bool.true_and]
    exact zkI (by omega) hall
   rw [hd]
   cases ((List.zipWith (fun w (f : Fd) => decide ((2 : Int) ^ f.b <= (NumText.digitsVal w.cps.toList : Nat))) (wds z) fs).any id) with
   | true =>
    walk_at "w"; exact Run.ok ⟨rfl, rfl⟩
   | false =>
    walk_at "w"; exact Run.ok ⟨rfl, rfl⟩
  ·rw [decide_eq_false (show ¬ ((zb1 z).length : Int) = (fs.length : Int) by omega)]; walk_at "w"; rw [show ziD fs z = false from zgN hl]; exact Run.ok ⟨rfl, rfl⟩
end
theorem zhd {n : Nat} {d : D} {m : Sto} (h : (∃ a, d = .int a) ∨ ∃ s, d = .str s /\ PyData.strOk s = true) : zaB (n + 1) [d, d] m = .ok (.bl true) m := by
 apply zaJ
 rw [zaB]
 unfold zbd
 rcases h with ⟨a, rfl⟩ | ⟨s, rfl, _⟩
 ·walk_at "w"; rw [show zeU "tuple" "list" (.int a) m = .ok (.bl false) m from rfl]; walk_at "w"; rw [show zbb "bool" (.int a) m = .ok (.bl false) m from rfl]; walk_at "w"; rw [show zbb "str" (.int a) m = .ok (.bl false) m from rfl]; walk_at "w"; rw [show zbb "str" (.int a) m = .ok (.bl false) m from rfl]; walk_at "w"; rw [show eqD (.bl false) (.bl false) m = .ok (.bl true) m from rfl]
  walk_at "w"; rw [show zbb "bool" (.int a) m = .ok (.bl false) m from rfl]; walk_at "w"; exact Run.ok ⟨by simp, rfl⟩
 ·walk_at "w"; rw [show zeU "tuple" "list" (.str s) m = .ok (.bl false) m from rfl]; walk_at "w"; rw [show isD (.str s) .non m = .ok (.bl false) m from rfl]; walk_at "w"; rw [show zbb "bool" (.str s) m = .ok (.bl false) m from rfl]; walk_at "w"; rw [show zbb "str" (.str s) m = .ok (.bl true) m from rfl]; walk_at "w"; rw [show zbb "str" (.str s) m = .ok (.bl true) m from rfl]; walk_at "w"
  rw [show eqD (.bl true) (.bl true) m = .ok (.bl true) m from rfl]; walk_at "w"; rw [show zbb "bool" (.str s) m = .ok (.bl false) m from rfl]; walk_at "w"; exact Run.ok ⟨by simp, rfl⟩
theorem zex : ∀ (n : Nat) (d : D) {m : Sto}, Sq n d -> zaB (n + 1) [d, d] m = .ok (.bl true) m
 | 0, d, m, h => zhd h
 | n + 1, d, m, h => by
  rcases h with h | ⟨xs, rfl, hl, hx⟩
  ·exact zhd h
  apply zaJ
  rw [zaB]
  unfold zbd; walk_at "w"; rw [show zeU "tuple" "list" (.tup xs) m = .ok (.bl true) m from rfl]; walk_at "w"; rw [show zbb "tuple" (.tup xs) m = .ok (.bl true) m from rfl]; walk_at "w"; rw [show zbb "tuple" (.tup xs) m = .ok (.bl true) m from rfl]; walk_at "w"; rw [show neD (.bl true) (.bl true) m = .ok (.bl false) m from rfl]; walk_at "w"; rw [show zbb "list" (.tup xs) m = .ok (.bl false) m from rfl]
  walk_at "w"; rw [show zbb "list" (.tup xs) m = .ok (.bl false) m from rfl]; walk_at "w"; rw [show neD (.bl false) (.bl false) m = .ok (.bl false) m from rfl]; walk_at "w"; rw [za6 (ds := xs.map fun a => D.tup [a, a]) (fun _ => .bl true)]
  ·walk_at "w"; rw [List.map_map, show ((fun _ => D.bl true) ∘ fun a : D => D.tup [a, a]) = fun _ => D.bl true from rfl, zf4]; walk_at "w"; exact Run.ok ⟨rfl, rfl⟩
  ·unfold zgY; walk_at "w"; simp only [zmo]; rw [if_pos (Nat.le_refl _), zgZ]
  ·simp; omega
  ·intro d hd
   obtain ⟨x, hx', rfl⟩ := List.mem_map.mp hd
   refine ⟨_, rfl, ?_⟩
   exact zex n x (hx x hx')
theorem zkY {z : Str} {m : Sto} : zaR [.str z, .str z] m = .ok (.bl true) m := by
 apply zaJ
 show Run (zaB (11 + 1) [.str z, .str z] m) _
 rw [zaB]
 unfold zbd; walk_at "w"; rw [show zeU "tuple" "list" (.str z) m = .ok (.bl false) m from rfl]; walk_at "w"; rw [show isD (.str z) .non m = .ok (.bl false) m from rfl]; walk_at "w"; rw [show zbb "bool" (.str z) m = .ok (.bl false) m from rfl]; walk_at "w"; rw [show zbb "str" (.str z) m = .ok (.bl true) m from rfl]; walk_at "w"; rw [show zbb "str" (.str z) m = .ok (.bl true) m from rfl]
 walk_at "w"; rw [show eqD (.bl true) (.bl true) m = .ok (.bl true) m from rfl]; walk_at "w"; rw [show zbb "bool" (.str z) m = .ok (.bl false) m from rfl]; walk_at "w"; exact Run.ok ⟨by simp, rfl⟩
theorem zmH {n : Nat} {m : Sto} : zaB (n + 1) [.non, .non] m = .ok (.bl true) m := by
 apply zaJ
 rw [zaB]
 unfold zbd; walk_at "w"; rw [show zeU "tuple" "list" .non m = .ok (.bl false) m from rfl]; walk_at "w"; exact Run.ok ⟨rfl, rfl⟩
theorem zi2 {m : Sto} : zaR [.lst [.non], .lst [.non]] m = .ok (.bl true) m := by
 apply zaJ
 show Run (zaB (11 + 1) [.lst [.non], .lst [.non]] m) _
 rw [zaB]
 unfold zbd; walk_at "w"; rw [show zeU "tuple" "list" (.lst [.non]) m = .ok (.bl true) m from rfl]; walk_at "w"; rw [show zbb "tuple" (.lst [.non]) m = .ok (.bl false) m from rfl]; walk_at "w"; rw [show zbb "tuple" (.lst [.non]) m = .ok (.bl false) m from rfl]; walk_at "w"; rw [show neD (.bl false) (.bl false) m = .ok (.bl false) m from rfl]; walk_at "w"; rw [show zbb "list" (.lst [.non]) m = .ok (.bl true) m from rfl]
 walk_at "w"; rw [show zbb "list" (.lst [.non]) m = .ok (.bl true) m from rfl]; walk_at "w"; rw [show neD (.bl true) (.bl true) m = .ok (.bl false) m from rfl]; walk_at "w"; rw [za6 (ds := [D.tup [.non, .non]]) (fun _ => .bl true)]
 ·walk_at "w"; rw [show [D.bl true] = [true].map D.bl from rfl, zdO]; walk_at "w"; exact Run.ok ⟨rfl, rfl⟩
 ·unfold zgY; walk_at "w"
  rfl
 ·decide
 ·intro d hd
  rw [List.mem_singleton.mp hd]
  exact ⟨_, rfl, zmH (n := 10)⟩
theorem ziv {ds : List D} {m : Sto} : zbl [.exn "NoText" ds] m = .ok (.tup [.str "refused", .str "NoText"]) m := by
 have hx : ∀ (s : Str) (b : Bool), isX "NoText" s = b -> zf8 ["HeadError", "NoHead", "NoLetter", "NoWord", "NoMore", "NoDeed", "NoPlace", "Beyond", "NoStream", "NoLine", "NoText"] s (.exn "NoText" ds) m = .ok (.bl b) m := fun s b h => by
  have e : (["HeadError", "NoHead", "NoLetter", "NoWord", "NoMore", "NoDeed", "NoPlace", "Beyond", "NoStream", "NoLine", "NoText"] : List Str).contains "NoText" = true := by decide +kernel
  simp only [zf8, e, h, if_true]
 apply zaJ
 unfold zbl zcY; walk_at "w"; rw [zbK (by simp)]; walk_at "w"; rw [hx "NoHead" false (by decide +kernel)]; walk_at "w"; rw [hx "NoLetter" false (by decide +kernel)]; walk_at "w"; rw [hx "NoWord" false (by decide +kernel)]; walk_at "w"; rw [hx "NoMore" false (by decide +kernel)]; walk_at "w"; rw [hx "NoDeed" false (by decide +kernel)]; walk_at "w"; rw [hx "NoPlace" false (by decide +kernel)]
 walk_at "w"; rw [zen (by simp)]; walk_at "w"; rw [hx "Beyond" false (by decide +kernel)]; walk_at "w"; rw [hx "NoStream" false (by decide +kernel)]; walk_at "w"; rw [hx "NoLine" false (by decide +kernel)]; walk_at "w"; rw [zen (by simp)]; walk_at "w"; rw [hx "NoText" true (by decide +kernel)]; walk_at "w"; rw [zbK (by simp)]; walk_at "w"; rw [zen (by simp)]; walk_at "w"; rw [show zdB (.lst [.bl false, .bl false, .bl false, .bl false, .bl false, .bl false, .bl false, .bl false, .bl false, .bl true]) [.bl true] m = .ok (.int 1) m from by simp [zdB, zdY, vOf, eqV]]
 walk_at "w"
 have ev : znC ["HeadError", "NoHead", "NoLetter", "NoWord", "NoMore", "NoDeed", "NoPlace", "Beyond", "NoStream", "NoLine", "NoText"] (.exn "NoText" ds) m = .ok (.bl true) m := by
  have e : (["HeadError", "NoHead", "NoLetter", "NoWord", "NoMore", "NoDeed", "NoPlace", "Beyond", "NoStream", "NoLine", "NoText"] : List Str).contains "NoText" = true := by decide +kernel
  simp only [znC, e, if_true]
 rw [if_pos (show zck (.lst [.bl false, .bl false, .bl false, .bl false, .bl false, .bl false, .bl false, .bl false, .bl false, .bl true]) m = true from rfl)]; walk_at "w"; rw [ev]; walk_at "w"; rw [show zjU (.lst [.bl false, .bl false, .bl false, .bl false, .bl false, .bl false, .bl false, .bl false, .bl false, .bl true]) [.bl true] m = .ok (.int 9) m from by simp [zjU, zdY, vOf, eqV, List.findIdx?_cons]]
 walk_at "w"; rw [if_pos (show zck (.lst [.bl false, .bl false, .bl false, .bl false, .bl false, .bl false, .bl false, .bl false, .bl false, .bl true]) m = true from rfl)]; walk_at "w"; rw [show (9 : Int) = ((9 : Nat) : Int) from rfl, ix_l (n := 9) rfl]; walk_at "w"; exact Run.ok ⟨rfl, rfl⟩
section
variable {fs : List Fd} {n : Int} {z : Str} {m m1 : Sto} {ρ : En} {c : TV} {g : SV}
theorem exTN (q : c ρ m = .ok true m1) : zaG (sIf (tPu c) (zk0 (aPu (zac (eC .non) zak))) zb4) g ρ m = .exc ⟨"NoText", [.non]⟩ m1 := by
 show (Res.bind (Res.pu (c ρ m)) _).bind _ = _
 rw [q]
 rfl
theorem zd5 (hb : ∀ (i : Nat) (f : Fd), fs[i]? = some f -> f.b <= 40) (hn : fs.length <= 12) (hz : z.length <= 10000) : zav [shD fs n, .str z] m = if ziD fs z = true then .ok (.tup (zb1 z)) m else .exc ⟨"NoText", [.non]⟩ m := by
 have q1 : (zca (tV (eUn (zbb "str") (zae 1)))) [some (shD fs n), some (.str z), none] m = .ok false m := by
  walk_at "w"; rw [show zbb "str" (.str z) m = .ok (.bl true) m from rfl]
  rfl
 have q2 : (eFn ziA (zac (eFn gL1 (zaQ 1 (aIt (zbm zcz zcq (zae 1) (zac (eC (.str ".")) zak))) (gN 3) za2 (eFn zaO (zac (zae 3) zak)))) zak)) [some (shD fs n), some (.str z), none] m = .ok (.tup (zb1 z)) m := by
  walk_at "w"; rw [zfw (m := m) (i := 3) (ρ := [some (shD fs n), some (.str z), none]) (fun w hw => zhk hw) hz rfl rfl]; walk_at "w"
 have q3 : (zca (tV (eFn zcP (zac (zae 0) (zac (zae 2) zak))))) [some (shD fs n), some (.str z), some (.tup (zb1 z))] m = .ok (!ziD fs z) m := by
  walk_at "w"; rw [head_u hb hn znr]
  rfl
 show (zbx [some (shD fs n), some (.str z), none] m).bind zgL = _
 unfold zbx; rw [exF q1, puA q2]
 cases hd : ziD fs z with
 | false =>
  rw [hd] at q3
  show (zaG _ _ [some (shD fs n), some (.str z), some (.tup (zb1 z))] m).bind zgL = _
  rw [exTN q3]
  rfl
 | true =>
  rw [hd] at q3
  show (zaG _ _ [some (shD fs n), some (.str z), some (.tup (zb1 z))] m).bind zgL = _
  rw [exF q3]
  rfl
theorem zgj {S d : D} (h : zbb "str" d m = .ok (.bl false) m) : zav [S, d] m = .exc ⟨"NoText", [.non]⟩ m := by
 have q1 : (zca (tV (eUn (zbb "str") (zae 1)))) [some S, some d, none] m = .ok true m := by
  walk_at "w"; rw [h]
  rfl
 show (zbx [some S, some d, none] m).bind zgL = _
 unfold zbx; rw [exTN q1]
 rfl
abbrev es53 : List Str := ["HeadError", "NoHead", "NoLetter", "NoWord", "NoMore", "NoDeed", "NoPlace", "Beyond", "NoStream", "NoLine", "NoText"]
theorem eq_sq {k : Nat} {xs : List D} (h : Sq k (.tup xs)) (hn : k <= 60) : eqD (.tup xs) (.tup xs) m = .ok (.bl true) m := by
 have q := sq_dq h
 have hd : deep (.tup xs) = true := by
  have := q.dp
  simp only [MD.deep, q.ok, SeqAt.shaped, q.ly, Bool.true_and, Bool.and_true]
  simp
  omega
 have e : eqB (.tup xs) (.tup xs) = some true := by
  show (if deep (.tup xs) && deep (.tup xs) then some (PyData.eqv (py (.tup xs)) (py (.tup xs))) else none) = _
  rw [hd, SeqAt.eqv_refl _ q.ly]
  rfl
 simp only [eqD, rs, e]
theorem zki {S d : D} (h : zav [S, d] m = .exc ⟨"NoText", [.non]⟩ m) : zbk [S, d] m = .ok (.lst [.non]) m := by
 apply zaJ
 unfold zbk zcO; walk_at "w"
 have q : (za1 (eFn zav (aPu (zac (zae 0) (zac (zae 1) zak)))) (gN 2)) [some S, some d, some .non, some .non, none] m = .exc ⟨"NoText", [.non]⟩ m := by
  show (Res.bind (Res.bind (Res.pu ((zac (zae 0) (zac (zae 1) zak)) _ m)) zav) _) = _
  rw [show (zac (zae 0) (zac (zae 1) zak)) [some S, some d, some .non, some .non, none] m = .ok [S, d] m from rfl]
  show (Res.bind (zav [S, d] m) _) = _
  rw [h]
  rfl
 have et := tryX (es := es53) (x := "HeadError") (i := 4) (fs := za1 (zae 4) (gN 3)) q (by decide +kernel)
 have et2 : zlY es53 "HeadError" (za1 (eFn zav (aPu (zac (zae 0) (zac (zae 1) zak)))) (gN 2)) 4 (za1 (zae 4) (gN 3)) [some S, some d, some .non, some .non, none] m = .ok (.nx [some S, some d, some .non, some (.exn "NoText" [.non]), none]) m := et
 rw [et2]; walk_at "w"; rw [show isD (.exn "NoText" [.non]) .non m = .ok (.bl false) m from rfl]; walk_at "w"; rw [ziv]; walk_at "w"
 rw [show eqD (.tup [.str "refused", .str "NoText"]) (.tup [.str "refused", .str "NoText"]) m = .ok (.bl true) m from by
  exact eq_sq (k := 1) (qq_t (by simp) fun x hx => by
   simp only [List.mem_cons, List.not_mem_nil, or_false] at hx
   rcases hx with rfl | rfl <;> exact qq_s 0 (by decide +kernel)) (by decide)]
 walk_at "w"; rw [show rowD (.exn "NoText" [.non]) m = .ok .non m from rfl]; walk_at "w"; exact Run.ok ⟨rfl, rfl⟩
theorem znN {S d a : D} (h : zav [S, d] m = .ok a m) : zbk [S, d] m = .ok a m := by
 apply zaJ
 unfold zbk zcO; walk_at "w"
 have q : zlY es53 "HeadError" (za1 (eFn zav (aPu (zac (zae 0) (zac (zae 1) zak)))) (gN 2)) 4 (za1 (zae 4) (gN 3)) [some S, some d, some .non, some .non, none] m = .ok (.nx [some S, some d, some a, some .non, none]) m := by
  have q0 : (za1 (eFn zav (aPu (zac (zae 0) (zac (zae 1) zak)))) (gN 2)) [some S, some d, some .non, some .non, none] m = .ok (.nx [some S, some d, some a, some .non, none]) m := by
   show (Res.bind (Res.bind (Res.pu ((zac (zae 0) (zac (zae 1) zak)) _ m)) zav) _) = _
   rw [show (zac (zae 0) (zac (zae 1) zak)) [some S, some d, some .non, some .non, none] m = .ok [S, d] m from rfl]
   show (Res.bind (zav [S, d] m) _) = _
   rw [h]
   rfl
  unfold zlY; rw [q0]
 rw [q]; walk_at "w"; exact Run.ok ⟨rfl, rfl⟩
theorem znq (h : ziD fs z = true) (hn : fs.length <= 12) : Sq 1 (.tup (zb1 z)) := by
 have hl : (zb1 z).length = fs.length := by
  apply Decidable.byContradiction
  intro e
  rw [show ziD fs z = false from zgN e] at h
  cases h
 refine qq_t (by omega) fun x hx => ?_
 obtain ⟨w, hw, rfl⟩ := List.mem_map.mp hx
 rcases zbg w with ⟨_, e⟩ | ⟨e, _⟩
 ·rw [e]; exact qq_i _ _
 ·have : noW z = true := List.any_eq_true.mpr ⟨w, hw, by rw [e]; rfl⟩
  rw [zkq this] at h
  cases h
theorem zi6 (hb : ∀ (i : Nat) (f : Fd), fs[i]? = some f -> f.b <= 40) (hn : fs.length <= 12) (hz : z.length <= 10000) : zaU [shD fs n, .str z] m = .ok (.bl true) m := by
 have q := zd5 (n := n) (m := m) hb hn hz
 apply zaJ
 unfold zaU zcl; walk_at "w"; rw [zim hb hn hz]
 cases hd : ziD fs z with
 | false =>
  rw [hd] at q
  walk_at "w"; rw [zki q]; walk_at "w"; rw [zbK (by simp)]; walk_at "w"; rw [zi2]; walk_at "w"; exact Run.ok ⟨rfl, rfl⟩
 | true =>
  rw [hd] at q
  walk_at "w"; rw [znN q]; walk_at "w"; rw [show isD (.tup (zb1 z)) .non m = .ok (.bl false) m from rfl]; walk_at "w"; rw [show zaR [.tup (zb1 z), .tup (zb1 z)] m = .ok (.bl true) m from zex 11 _ ((znq hd hn).le (by decide))]; walk_at "w"; exact Run.ok ⟨rfl, rfl⟩
theorem zbF {S d : D} (h : zbb "str" d m = .ok (.bl false) m) : zaU [S, d] m = .ok (.bl true) m := by
 have q := zgj (S := S) h
 have r : zbh [S, d] m = .ok .non m := by
  apply zaJ
  unfold zbh zcN; walk_at "w"; rw [h]; walk_at "w"; exact Run.ok ⟨rfl, rfl⟩
 apply zaJ
 unfold zaU zcl; walk_at "w"; rw [r]; walk_at "w"; rw [zki q]; walk_at "w"; rw [zbK (by simp)]; walk_at "w"; rw [zi2]; walk_at "w"; exact Run.ok ⟨rfl, rfl⟩
end
theorem slc_t {xs : List D} {m : Sto} {j : Nat} : slD (.lst xs) none (some (j : Int)) m = .ok (.lst (xs.take j)) m := by
 show Res.ok (D.lst (zhK xs none (some (j : Int)))) m = _
 unfold zhK; rw [HT.sIx_nat, HT.sIx_none, List.drop_zero, Nat.sub_zero]
 congr 2
 rw [List.take_eq_take_iff]
 omega
theorem slc_d {xs : List D} {m : Sto} {j : Nat} : slD (.lst xs) (some (j : Int)) none m = .ok (.lst (xs.drop j)) m := by
 show Res.ok (D.lst (zhK xs (some (j : Int)) none)) m = _
 unfold zhK; rw [HT.sIx_nat, HT.sIx_none, List.take_of_length_le (by rw [List.length_drop]; exact Nat.le_refl _)]
 congr 2
 by_cases h : j <= xs.length
 ·rw [Nat.min_eq_left h]
 ·rw [Nat.min_eq_right (by omega), List.drop_of_length_le (Nat.le_refl _), List.drop_of_length_le (by omega)]
def hS (hd : List Int) : Str := Txt.join dot (hd.map tS)
theorem jn_le {ts : List Str} {B : Nat} (h : ∀ t ∈ ts, t.length <= B) : (Txt.join dot ts).length <= ts.length * B + ts.length := by
 rw [zg5]
 have := StrLaws.join_length_le dot ts
 have e := zlW h
 rw [show dot.length = 1 from rfl, Nat.mul_one] at this
 omega
theorem zcM {A : List Str} {m : Sto} (hA : ∀ t ∈ A, t.length <= 60) (hl : A.length <= 14) : zdX (.str ".") [.lst (A.map D.str)] m = .ok (.str (Txt.join dot A)) m /\ (Txt.join dot A).length <= 1000 := by
 refine ⟨?_, ?_⟩
 ·rw [show ("." : Str) = dot from dot_s]
  exact join_M (B := 60) rfl rfl hA (by have : A.length * 60 <= 14 * 60 := Nat.mul_le_mul_right _ hl; omega)
 ·have := jn_le hA
  have h2 : A.length * 60 <= 14 * 60 := Nat.mul_le_mul_right _ hl
  omega
section
variable {hd : List Int} {m : Sto}
theorem zmw (hv : ∀ v ∈ hd, v.natAbs < 10 ^ 15) : ∀ t ∈ hd.map tS, t.length <= 60 := fun t ht => by
 obtain ⟨v, h, rfl⟩ := List.mem_map.mp ht
 exact Nat.le_trans (zkR (hv v h)) (by decide)
theorem ziP (hv : ∀ v ∈ hd, v.natAbs < 10 ^ 15) (hl : hd.length <= 12) {ρ : En} {i : Nat} {f : EV} (hf : f ρ m = .ok (.tup (hd.map D.int)) m) (hi : ρ.length = i) : zaQ 1 (aIt f) (gN i) za2 (eFn zlX (zac (zae i) zak)) ρ m = .ok ((hd.map tS).map D.str) m := by
 rw [List.map_map]
 refine zhU D.int (l := hd) (D.str ∘ tS) (by unfold aIt; rw [hf]; rfl) (by omega) fun v h => ?_
 refine ⟨(ρ ++ List.replicate 1 none).set i (some (.int v)), rfl, ?_⟩
 have e : zae i ((ρ ++ List.replicate 1 none).set i (some (.int v))) m = .ok (.int v) m := by
  unfold zae; rw [List.getElem?_set_self (by rw [List.length_append, List.length_replicate]; omega)]
 unfold eFn zac; rw [e]; simp only [bind_ok, zak]
 exact zmC (hv v h)
theorem zdc (hv : ∀ v ∈ hd, v.natAbs < 10 ^ 15) (hl : hd.length <= 12) : zax [.tup (hd.map D.int)] m = .ok (.str (hS hd)) m := by
 apply zaJ
 unfold zax zec; walk_at "w"; rw [ziP (m := m) (ρ := [some (.tup (hd.map D.int))]) (f := zae 0) (i := 1) hv hl rfl rfl]; walk_at "w"; rw [(zcM (zmw hv) (by rw [List.length_map]; omega)).1]; walk_at "w"; exact Run.ok ⟨rfl, rfl⟩
theorem zme (hv : ∀ v ∈ hd, v.natAbs < 10 ^ 15) (hl : hd.length <= 12) : (hS hd).length <= 1000 := (zcM (m := []) (zmw hv) (by rw [List.length_map]; omega)).2
end
theorem zi8 {x y z : Str} : (zb5 x y z).length <= x.length + z.length := by
 unfold zb5
 split
 ·omega
 ·have e1 := size_glued z (Builtin.Str.partsBetween x (Builtin.Str.occurrences x y 0 x.length 1) y.length)
  have e2 := size_glued y (Builtin.Str.partsBetween x (Builtin.Str.occurrences x y 0 x.length 1) y.length)
  rw [StrLaws.glued_between_self] at e2
  rw [length_partsBetween] at e1 e2
  have h := StrLaws.occ_length_le x y 0 x.length 1
  rw [e1]
  have : ((Builtin.Str.occurrences x y 0 x.length 1).length + 1 - 1) * z.length <= 1 * z.length := Nat.mul_le_mul_right _ (by omega)
  omega
theorem zmL {x z : Str} {m : Sto} (hx : x.length <= 1000) (hz : z.length <= 10) (hne : (dot == z) = false) : zi9 x dot z m = .ok (.str (zb5 x dot z)) m /\ (zb5 x dot z).length <= 1010 := by
 have h1 := zi8 (x := x) (y := dot) (z := z)
 have h := StrLaws.occ_length_le x dot 0 x.length 1
 refine ⟨if_pos ⟨hne, ?_, Nat.le_trans h1 (Nat.le_trans (Nat.add_le_add hx hz) (by decide))⟩, by omega⟩
 have : (Builtin.Str.occurrences x dot 0 x.length 1).length * z.length <= 1 * z.length := Nat.mul_le_mul_right _ h
 exact decide_eq_false (fun q => by
  have q : sizeLine < x.length + (Builtin.Str.occurrences x dot 0 x.length 1).length * z.length := q
  have : sizeLine = 16777216 := rfl
  omega)
section
variable {fs : List Fd} {n : Int} {hd : List Int} {m0 m : Sto} {p q c : Nat}
theorem zf5 {A B : List Str} {m : Sto} (h : A.length + B.length <= 1000) : zaW (.lst (A.map D.str)) (.lst (B.map D.str)) m = .ok (.lst ((A ++ B).map D.str)) m := by
 rw [zen (by simpa using h), List.map_append]
theorem zf6 {a b : Str} {m : Sto} (h : a.length + b.length <= 10000) : zaW (.str a) (.str b) m = .ok (.str (a ++ b)) m /\ (a ++ b).length = a.length + b.length := by
 refine ⟨add_s (Nat.le_trans h (by decide)), ?_⟩
 show (a.cps ++ b.cps).size = _
 rw [Array.size_append]
 rfl
theorem zjP {A B : List Str} (hA : ∀ t ∈ A, t.length <= 60) (hB : ∀ t ∈ B, t.length <= 60) : ∀ t ∈ A ++ B, t.length <= 60 := fun t h => (List.mem_append.mp h).elim (hA t) (hB t)
theorem mul16 : ∀ n : Nat, n < 17 -> (Txt.mul "0" (n : Int)).length <= 16 := by decide +kernel
theorem zlN (hp : P3 m0 p q c m) (hc : c + 10 < 2 ^ 40) (hs : ShG fs) (hn : fs.length <= 12) (f0 : 0 < fs.length) (hh : HdOk fs hd) :
  Run (zbY [.ob p, shD fs n, .tup (hd.map D.int)] m) fun a m' => ∃ z, a = .str z /\ z.length <= 2000 /\ P3 m p q (c + 4) m' := by
 have hl := hh.len
 have hv : ∀ v ∈ hd, v.natAbs < 10 ^ 15 := fun v h => by
  obtain ⟨i, hi⟩ := List.mem_iff_getElem?.mp h
  have hi2 := (List.getElem?_eq_some_iff.mp hi).1
  have hf := List.getElem?_eq_getElem (show i < fs.length by omega)
  exact lt_2b (hs.at' i _ hf).2.1 (hh.at' i _ v hf hi)
 have hT := zmw hv
 have hT16 : ∀ t ∈ hd.map tS, t.length <= 16 := fun t ht => by
  obtain ⟨v, h, rfl⟩ := List.mem_map.mp ht
  exact zkR (hv v h)
 have hTl : (hd.map tS).length = fs.length := by rw [List.length_map, hl]
 unfold zbY zef; walk_at "w"; rw [ziP (m := m) (ρ := [some (.ob p), some (shD fs n), some (.tup (hd.map D.int)), none, none, none, none, none]) (f := zae 2) (i := 8) hv (by omega) rfl rfl]; walk_at "w"; rw [List.length_map, hTl]; refine Run.bind (zaA hp (by omega) (by omega) (by omega)) ?_; rintro _ m1 ⟨j, rfl, j0, j1, hp1⟩
 obtain ⟨at', rfl⟩ : ∃ k : Nat, j = k := ⟨j.toNat, by omega⟩
 have hat : at' < fs.length := by omega
 have hq1 := hp1
 walk_at "w"; refine Run.bind (zaA hp1 (by omega) (by decide) (by decide)) ?_; rintro _ m2 ⟨way, rfl, w0, w1, hp2⟩
 have hq2 := hp1.via hp2
 generalize hT' : hd.map tS = T at hT hTl hT16
 have hf := List.getElem?_eq_getElem hat
 generalize fs[at'] = f at hf
 have hw := List.getElem?_eq_getElem (show at' < T.length by omega)
 generalize hwe : T[at'] = w at hw
 have hw16 : w.length <= 16 := hT16 w (List.mem_of_getElem? hw)
 have hw60 : w.length <= 60 := hT w (List.mem_of_getElem? hw)
 have efb := (hs.at' at' f hf).2.1
 have i1 : ∀ m, ixD (shD fs n) (.int 0) m = .ok (.tup (fs.map Fd.e)) m := fun m => ix_t0 _ _
 have i2 : ∀ m, ixD (.tup (fs.map Fd.e)) (.int (at' : Nat)) m = .ok f.e m := fun m => ix_t (by rw [List.getElem?_map, hf]; rfl)
 have i3 : ∀ m, ixD f.e (.int 1) m = .ok (.int f.b) m := fun m => ix_t1 _ _ _
 have i4 : ∀ m, ixD (.lst (T.map D.str)) (.int (at' : Nat)) m = .ok (.str w) m := fun m => ix_l (by rw [List.getElem?_map, hw]; rfl)
 have tk : ∀ (k : Nat) (m : Sto), slD (.lst (T.map D.str)) none (some (k : Int)) m = .ok (.lst ((T.take k).map D.str)) m := fun k m => by rw [slc_t, List.map_take]
 have dp : ∀ (k : Nat) (m : Sto), slD (.lst (T.map D.str)) (some (k : Int)) none m = .ok (.lst ((T.drop k).map D.str)) m := fun k m => by rw [slc_d, List.map_drop]
 have t60 : ∀ k, ∀ t ∈ T.take k, t.length <= 60 := fun k t h => hT t (List.mem_of_mem_take h)
 have d60 : ∀ k, ∀ t ∈ T.drop k, t.length <= 60 := fun k t h => hT t (List.mem_of_mem_drop h)
 have p1 : ((at' : Nat) : Int) + 1 = ((at' + 1 : Nat) : Int) := by omega
 walk_at "w"; rw [i1]; walk_at "w"; rw [i2]; walk_at "w"; rw [i3]; walk_at "w"; rw [zh1 (by omega)]; walk_at "w"
 by_cases e0 : way = 0
 ·rw [if_pos e0]; walk_at "w"; rw [tk]; walk_at "w"; rw [p1, dp]; walk_at "w"; rw [zf5 (by rw [List.length_take, List.length_drop]; omega)]; walk_at "w"
  obtain ⟨a, b⟩ := zcM (A := T.take at' ++ T.drop (at' + 1)) (m := m2) (zjP (t60 _) (d60 _)) (by rw [List.length_append, List.length_take, List.length_drop]; omega)
  rw [a]; walk_at "w"; exact Run.ok ⟨_, rfl, by omega, hq2.more (by omega)⟩
 rw [if_neg e0]; walk_at "w"
 by_cases e1 : way = 1
 ·rw [if_pos e1]; walk_at "w"; rw [tk]; walk_at "w"; rw [i4]; walk_at "w"; rw [zbK (by simp)]; walk_at "w"; rw [show zaW (.lst ((T.take at').map D.str)) (.lst [.str w]) m2 = .ok (.lst ((T.take at' ++ [w]).map D.str)) m2 from zf5 (B := [w]) (by rw [List.length_take]; simp; omega)]; walk_at "w"; rw [dp]; walk_at "w"; rw [zf5 (by simp only [List.length_append, List.length_take, List.length_drop, List.length_cons, List.length_nil]; omega)]
  walk_at "w"
  obtain ⟨a, b⟩ := zcM (A := T.take at' ++ [w] ++ T.drop at') (m := m2) (zjP (zjP (t60 _) fun t h => by rw [List.mem_singleton.mp h]; exact hw60) (d60 _)) (by simp only [List.length_append, List.length_take, List.length_drop, List.length_cons, List.length_nil]; omega)
  rw [a]; walk_at "w"; exact Run.ok ⟨_, rfl, by omega, hq2.more (by omega)⟩
 rw [if_neg e1]; walk_at "w"
 by_cases e2 : way = 2
 ·rw [if_pos e2]; walk_at "w"
  have rv : ∀ ρ : En, ρ[3]? = some (some (.lst (T.map D.str))) -> zlH (zae 3) zcJ zcJ (zdx (eUn zma (eC (.int 1)))) ρ m2 = .ok (.lst (T.reverse.map D.str)) m2 := fun ρ h => by
   have e : zae 3 ρ m2 = .ok (.lst (T.map D.str)) m2 := by unfold zae; rw [h]
   unfold zlH; rw [e]
   show (((eUn zma (eC (.int 1))) ρ m2).bind fun d m1 => _).bind _ = _
   rw [show (eUn zma (eC (.int 1))) ρ m2 = .ok (.int (-1)) m2 from neg_1]; rw [List.map_reverse]
   rfl
  rw [rv _ rfl]; walk_at "w"
  obtain ⟨a, b⟩ := zcM (A := T.reverse) (m := m2) (fun t h => hT t (List.mem_reverse.mp h)) (by rw [List.length_reverse]; omega)
  rw [a]; walk_at "w"; exact Run.ok ⟨_, rfl, by omega, hq2.more (by omega)⟩
 rw [if_neg e2]; walk_at "w"
 have sh : ∀ m, zax [.tup (hd.map D.int)] m = .ok (.str (hS hd)) m := fun m => zdc hv (by omega)
 have shl := zme hv (by omega)
 generalize hS hd = Z at sh shl
 by_cases e3 : way = 3
 ·rw [if_pos e3]; walk_at "w"; rw [sh]; walk_at "w"
  obtain ⟨a1, b1⟩ := zf6 (a := ".") (b := Z) (m := m2) (by rw [show (Str.ofString ".").length = 1 by decide]; omega)
  rw [a1]; walk_at "w"; rw [sh]; walk_at "w"
  obtain ⟨a2, b2⟩ := zf6 (a := Z) (b := ".") (m := m2) (by rw [show (Str.ofString ".").length = 1 by decide]; omega)
  rw [a2]; walk_at "w"; rw [sh]; walk_at "w"
  obtain ⟨a3, b3⟩ := zf6 (a := Z) (b := "\n") (m := m2) (by rw [show (Str.ofString "\n").length = 1 by decide]; omega)
  rw [a3]; walk_at "w"
  rw [show (Str.ofString ".").length = 1 by decide] at b1 b2
  rw [show (Str.ofString "\n").length = 1 by decide] at b3
  refine Run.bind (zeO hq2 (by omega) (by simp) (by simp)) ?_; rintro x m3 ⟨hx, hp3⟩
  obtain ⟨z, rfl, hz⟩ : ∃ z, x = .str z /\ z.length <= 1001 := by
   simp only [List.mem_cons, List.not_mem_nil, or_false] at hx
   rcases hx with rfl | rfl | rfl
   ·exact ⟨_, rfl, by omega⟩
   ·exact ⟨_, rfl, by omega⟩
   ·exact ⟨_, rfl, by omega⟩
  walk_at "w"; exact Run.ok ⟨_, rfl, by omega, (hq2.via hp3).more (by omega)⟩
 rw [if_neg e3]; walk_at "w"
 by_cases e4 : way = 4
 ·rw [if_pos e4]; walk_at "w"
  have rp : ∀ (g : EV) (ρ : En), ρ[2]? = some (some (.tup (hd.map D.int))) -> zis "." (eFn zax (zac (zae 2) zak)) g ρ m2 = (g ρ m2).bind (zi7 Z ".") := fun g ρ h => by
   have e : zae 2 ρ m2 = .ok (.tup (hd.map D.int)) m2 := by unfold zae; rw [h]
   have e2 : eFn zax (zac (zae 2) zak) ρ m2 = .ok (.str Z) m2 := by
    unfold eFn zac; rw [e]
    exact sh m2
   unfold zis; rw [e2]
   rfl
  rw [rp _ _ rfl]; walk_at "w"; refine Run.bind (zeO hq2 (by omega) (by simp) (by simp)) ?_; rintro x m3 ⟨hx, hp3⟩
  obtain ⟨z, rfl, hz, hne⟩ : ∃ z, x = .str z /\ z.length <= 10 /\ (dot == z) = false := by
   simp only [List.mem_cons, List.not_mem_nil, or_false] at hx
   rcases hx with rfl | rfl | rfl | rfl | rfl <;> exact ⟨_, rfl, by decide, by decide⟩
  obtain ⟨a, b⟩ := zmL (m := m3) shl hz hne
  walk_at "w"; rw [show zi7 Z (Str.ofString ".") (.str z) m3 = zi9 Z dot z m3 from by rw [dot_s]; rfl, a]; walk_at "w"; exact Run.ok ⟨_, rfl, by omega, (hq2.via hp3).more (by omega)⟩
 rw [if_neg e4]; walk_at "w"
 have b2 : (2 : Int) ^ f.b <= 2 ^ 40 := by exact_mod_cast Nat.pow_le_pow_right (by decide) efb
 have b0 : (0 : Int) < 2 ^ f.b := p2 f.b
 rw [zmC (i := 2 ^ f.b) (by omega)]; walk_at "w"; rw [zmC (i := 2 ^ f.b - 1) (by omega)]; walk_at "w"
 have l1 := zkR (i := 2 ^ f.b) (by omega)
 have l2 := zkR (i := 2 ^ f.b - 1) (by omega)
 generalize tS (2 ^ f.b) = s1 at l1; generalize tS (2 ^ f.b - 1) = s2 at l2
 have ad : ∀ (a b : Str) (m : Sto), a.length <= 60 -> b.length <= 60 -> zaW (.str a) (.str b) m = .ok (.str (a ++ b)) m := fun a b m h1 h2 => (zf6 (by omega)).1
 rw [i4]; walk_at "w"; rw [ad "0" w _ (by decide) hw60]; walk_at "w"; rw [i4]; walk_at "w"; rw [ad "-" w _ (by decide) hw60]; walk_at "w"; rw [i4]; walk_at "w"; rw [ad w " " _ hw60 (by decide)]; walk_at "w"; rw [i4]; walk_at "w"; rw [ad "+" w _ (by decide) hw60]; walk_at "w"; rw [zbK (by simp)]; walk_at "w"; rw [i4]; walk_at "w"; rw [len_str (Nat.le_trans hw16 (by decide))]; walk_at "w"
 obtain ⟨k, hk, k1⟩ : ∃ k : Nat, (16 : Int) - (w.length : Nat) = k /\ k < 17 := ⟨16 - w.length, by omega, by omega⟩
 rw [hk, zlm (by decide) (by omega) (by omega)]
 have hm := mul16 k k1
 generalize Txt.mul (Str.ofString "0") ((k : Nat) : Int) = s3 at hm; walk_at "w"; rw [i4]; walk_at "w"; rw [ad s3 w _ (by omega) hw60]; walk_at "w"; rw [zlm (by decide) (by decide) (by decide)]; walk_at "w"; rw [zlm (by decide) (by decide) (by decide)]; walk_at "w"; rw [i4]; walk_at "w"; rw [ad w "0" _ hw60 (by decide)]; walk_at "w"; rw [zbK (by simp)]; walk_at "w"; rw [zen (by simp)]
 walk_at "w"; rw [tk]; walk_at "w"; refine Run.bind (zeO hq2 (by omega) (by simp) (by simp)) ?_; rintro x m3 ⟨hx, hp3⟩
 have al : ∀ a b : Str, a.length <= 20 -> b.length <= 20 -> (a ++ b).length <= 60 := fun a b h1 h2 => by rw [(zf6 (m := m2) (a := a) (b := b) (by omega)).2]; omega
 obtain ⟨z, rfl, hz⟩ : ∃ z, x = .str z /\ z.length <= 60 := by
  simp only [List.mem_cons, List.not_mem_nil, or_false] at hx
  rcases hx with rfl | rfl | rfl | rfl | rfl | rfl | rfl | rfl | rfl | rfl | rfl | rfl | rfl | rfl
  ·exact ⟨_, rfl, by omega⟩
  ·exact ⟨_, rfl, by omega⟩
  ·exact ⟨_, rfl, al _ _ (by decide) (by omega)⟩
  ·exact ⟨_, rfl, al _ _ (by decide) (by omega)⟩
  ·exact ⟨_, rfl, al _ _ (by omega) (by decide)⟩
  ·exact ⟨_, rfl, al _ _ (by decide) (by omega)⟩
  ·exact ⟨_, rfl, by decide⟩
  ·exact ⟨_, rfl, by decide⟩
  ·exact ⟨_, rfl, al _ _ (by omega) (by omega)⟩
  ·exact ⟨_, rfl, by decide +kernel⟩
  ·exact ⟨_, rfl, by decide +kernel⟩
  ·exact ⟨_, rfl, al _ _ (by omega) (by decide)⟩
  ·exact ⟨_, rfl, by decide⟩
  ·exact ⟨_, rfl, by decide⟩
 walk_at "w"; rw [zbK (by simp)]; walk_at "w"; rw [show zaW (.lst ((T.take at').map D.str)) (.lst [.str z]) m3 = .ok (.lst ((T.take at' ++ [z]).map D.str)) m3 from zf5 (B := [z]) (by rw [List.length_take]; simp; omega)]; walk_at "w"; rw [p1, dp]; walk_at "w"; rw [zf5 (by simp only [List.length_append, List.length_take, List.length_drop, List.length_cons, List.length_nil]; omega)]; walk_at "w"
 obtain ⟨a, b⟩ := zcM (A := T.take at' ++ [z] ++ T.drop (at' + 1)) (m := m3) (zjP (zjP (t60 _) fun t h => by rw [List.mem_singleton.mp h]; exact hz) (d60 _)) (by simp only [List.length_append, List.length_take, List.length_drop, List.length_cons, List.length_nil]; omega)
 rw [a]; walk_at "w"; exact Run.ok ⟨_, rfl, by omega, (hq2.via hp3).more (by omega)⟩
end
section
variable {fs : List Fd} {n : Int} {hd : List Int} {m0 m : Sto} {p q c : Nat}
theorem hd_b (hs : ShG fs) (hh : HdOk fs hd) : ∀ v ∈ hd, 0 <= v /\ v.natAbs < 10 ^ 15 := fun v h => by
 obtain ⟨i, hi⟩ := List.mem_iff_getElem?.mp h
 have hl := hh.len
 have hi2 := (List.getElem?_eq_some_iff.mp hi).1
 have hf := List.getElem?_eq_getElem (show i < fs.length by omega)
 have := hh.at' i _ v hf hi
 exact ⟨this.1, lt_2b (hs.at' i _ hf).2.1 this⟩
theorem zjG (hs : ShG fs) (f0 : 0 < fs.length) (hh : HdOk fs hd) : zb1 (hS hd) = hd.map D.int := by
 have hl := hh.len
 have e : wds (hS hd) = hd.map tS := zhZ (c := 46) (by
  intro e
  have := congrArg List.length e
  rw [List.length_map] at this
  simp at this
  rw [this] at hl
  simp at hl
  omega) fun t ht => by
   obtain ⟨v, _, rfl⟩ := List.mem_map.mp ht
   exact zmv (by decide) v
 unfold zb1; rw [e, List.map_map]
 refine List.map_congr_left fun v h => ?_
 obtain ⟨v0, v1⟩ := hd_b hs hh v h
 obtain ⟨k, rfl⟩ : ∃ k : Nat, v = k := ⟨v.toNat, by omega⟩
 have hk : k < 10 ^ 15 := by omega
 have a := number_read (m := []) hk
 have b := zhk (m := []) (z := tS k) (Nat.le_trans (zg7 hk).2 (by decide))
 rw [a] at b
 injection b with b _
 exact b.symm
theorem due_hS (hs : ShG fs) (hn : fs.length <= 12) (f0 : 0 < fs.length) (hh : HdOk fs hd) : ziD fs (hS hd) = true := by
 unfold ziD; rw [zjG hs f0 hh]
 have hl := hh.len
 show (decide ((hd.map D.int).length = fs.length) && (zz (hd.map D.int) fs).all id) = true
 rw [decide_eq_true (by rw [List.length_map, hl]), Bool.true_and, List.all_eq_true]
 intro b hb
 obtain ⟨i, hi⟩ := List.mem_iff_getElem?.mp hb
 unfold zz at hi
 rw [List.getElem?_zipWith, List.getElem?_map] at hi
 cases e1 : hd[i]? with
 | none => rw [e1] at hi; cases hi
 | some v =>
  cases e2 : fs[i]? with
  | none => rw [e1, e2] at hi; cases hi
  | some f =>
   rw [e1, e2] at hi
   cases hi
   exact decide_eq_true (hh.at' i f v e2 e1)
theorem head53 (hp : P3 m0 p q c m) (hc : c + 60 < 2 ^ 40) (hs : ShG fs) (hn : fs.length <= 12) {ρ : En} (h1 : ρ[1]? = some (some (.ob p))) (h3 : ρ[3]? = some (some (shD fs n))) (hl : ρ.length = 7) :
  Run (zaQ 1 (aIt (eOp ixD (zae 3) (eC (.int 0)))) (gN 7) za2 (eFn zaC (zac (zae 1) (zac (eOp ixD (zae 7) (eC (.int 1))) zak))) ρ m) fun a m' => ∃ hd : List Int, a = hd.map D.int /\ HdOk fs hd /\ P3 m p q (c + 48) m' := by
 refine Run.mono (zcE (ds := fs.map Fd.e) (fun k m' => P3 m p q (c + 4 * k) m') (fun i d x => ∃ v : Int, x = .int v /\ ∀ f, fs[i]? = some f -> 0 <= v /\ v < 2 ^ f.b) (by
  have e : zae 3 ρ m = .ok (shD fs n) m := by unfold zae; rw [h3]
  unfold aIt eOp; rw [e]
  rfl) (by rw [List.length_map]; omega) hp.re ?_) ?_
 ·intro i d m' hd hI
  have hi : i < fs.length := by have := (List.getElem?_eq_some_iff.mp hd).1; simpa using this
  have e1 := List.getElem?_eq_getElem hi
  have hd' : d = fs[i].e := by
   rw [List.getElem?_map, e1] at hd
   simpa using hd.symm
  subst hd'
  have b1 := (hs.at' i _ e1).2.1
  generalize fs[i] = f at e1 b1
  have eq : ((gN 7 f.e (ρ ++ List.replicate 1 none) m').bind (eFn zaC (zac (zae 1) (zac (eOp ixD (zae 7) (eC (.int 1))) zak)))) = zaC [.ob p, .int f.b] m' := by
   have a1 : zae 1 ((ρ ++ List.replicate 1 none).set 7 (some f.e)) m' = .ok (.ob p) m' := by
    unfold zae; rw [List.getElem?_set_ne (by decide), List.getElem?_append_left (by omega), h1]
   have a2 : zae 7 ((ρ ++ List.replicate 1 none).set 7 (some f.e)) m' = .ok f.e m' := by
    unfold zae; rw [List.getElem?_set_self (by rw [List.length_append, List.length_replicate]; omega)]
   show (eFn zaC _ ((ρ ++ List.replicate 1 none).set 7 (some f.e)) m') = _
   unfold eFn zac eOp; rw [a1]; simp only [bind_ok]; rw [a2]
   rfl
  rw [eq]
  refine Run.mono (zgb hI (by omega) b1) ?_
  rintro a m3 ⟨v, rfl, v0, v1, hp3⟩
  exact ⟨⟨v, rfl, fun f' hf => by rw [e1] at hf; cases hf; exact ⟨v0, v1⟩⟩, (hI.via hp3).more (by omega)⟩
 ·rintro xs m' ⟨hlen, hP, hI⟩
  rw [List.length_map] at hlen hI
  obtain ⟨l, rfl, hl2⟩ := lift D.int (fun i v => ∀ f, fs[i]? = some f -> 0 <= v /\ v < 2 ^ f.b) xs 0 fun i x hx => by
   have hi : i < fs.length := by have := (List.getElem?_eq_some_iff.mp hx).1; omega
   rw [Nat.zero_add]
   exact hP i fs[i].e x (by rw [List.getElem?_map, List.getElem?_eq_getElem hi]; rfl) hx
  refine ⟨l, rfl, ⟨by simpa using hlen, fun i f v hf hv => ?_⟩, hI.more (by omega)⟩
  have := hl2 i v hv
  rw [Nat.zero_add] at this
  exact this f hf
end
theorem zgE {ns : List Int} (hn : ns.length <= 63) : Run (zhw [.scr (ns.map D.int)] []) fun a _ => a = .bl true := by
 unfold zhw zkf; walk_at "w"; refine Run.bind (zlb hn) ?_; rintro _ m1 ⟨p, q, rfl, hp1⟩; walk_at "w"; rw [zhg (by decide) (by decide)]; walk_at "w"; refine Run.bind (zc9 (fun k ρ m' => ∃ (x2 x3 x4 x5 x6 : Option D), ρ = [some (.scr (ns.map D.int)), some (.ob p), x2, x3, x4, x5, x6] /\ P3 m1 p q (600 * k) m') _ 0 ⟨_, _, _, _, _, rfl, hp1.re⟩ ?_) ?_
 ·rintro i d ρ m3 hd ⟨x2, x3, x4, x5, x6, rfl, hp3⟩
  have hi := (List.getElem?_eq_some_iff.mp hd).1
  rw [zaZ] at hi
  have hi : i < 8 := hi
  have := zgW hd
  subst this
  rw [Nat.zero_add] at hp3 ⊢
  walk_at "w"; refine Run.bind (zkW hp3 (by omega)) ?_; rintro _ m4 ⟨fs, n, rfl, n0, n1, f0, f1, hs, hp4⟩
  have hq4 := hp3.via hp4
  walk_at "w"; refine Run.bind (head53 (ρ := [some (.scr (ns.map D.int)), some (.ob p), some (.int (i : Nat)), some (shD fs n), x4, x5, x6]) hq4 (by omega) hs f1 rfl rfl rfl) ?_; rintro _ m5 ⟨hd, rfl, hh, hp5⟩
  have hq5 := hq4.via hp5
  have hv : ∀ v ∈ hd, v.natAbs < 10 ^ 15 := fun v h => (hd_b hs hh v h).2
  have hl := hh.len
  have hb : ∀ (i : Nat) (f : Fd), fs[i]? = some f -> f.b <= 40 := fun i f h => (hs.at' i f h).2.1
  have sh : ∀ m, zax [.tup (hd.map D.int)] m = .ok (.str (hS hd)) m := fun m => zdc hv (by omega)
  walk_at "w"; rw [sh]; walk_at "w"; rw [sh]; walk_at "w"; rw [zkY]; walk_at "w"
  have rd : puF zav [shD fs n, .str (hS hd)] m5 = .ok (.tup (hd.map D.int)) m5 := by
   unfold puF; rw [zd5 hb f1 (Nat.le_trans (zme hv (by omega)) (by decide)), due_hS hs f1 f0 hh, zjG hs f0 hh]
   rfl
  rw [rd]; walk_at "w"
  rw [show zaR [.tup (hd.map D.int), .tup (hd.map D.int)] m5 = .ok (.bl true) m5 from zex 11 _ (Sq.le (n := 1) (qq_t (by rw [List.length_map]; omega) fun x hx => by
   obtain ⟨v, _, rfl⟩ := List.mem_map.mp hx
   exact qq_i _ _) (by decide))]
  walk_at "w"; rw [zhT]; walk_at "w"; rw [zhg (by decide) (by decide)]; walk_at "w"; rw [zj4]; refine Run.bind (zcE (ds := zcA 0 (6 : Int).toNat) (fun k m' => P3 m1 p q (600 * i + 448 + 4 * k) m') (fun _ _ x => ∃ z : Str, x = .str z /\ z.length <= 2000) rfl (by rw [zaZ]; decide) (hq5.more (by omega)) ?_) ?_
  ·intro j d m6 hdj hI
   have hj := (List.getElem?_eq_some_iff.mp hdj).1
   rw [zaZ] at hj
   have hj : j < 6 := hj
   walk_at "w"
   refine Run.mono (zlN hI (by omega) hs f1 f0 hh) ?_
   rintro x m7 ⟨z, rfl, hz, hp7⟩
   exact ⟨⟨z, rfl, hz⟩, (hI.via hp7).more (by omega)⟩
  ·rintro xs m7 ⟨hlen, hP, hI⟩
   rw [zaZ] at hlen hI
   obtain ⟨zs, rfl, hz⟩ := lift D.str (fun _ z => z.length <= 2000) xs 0 fun j x hx => by
    have hj := (List.getElem?_eq_some_iff.mp hx).1
    exact hP j _ x (List.getElem?_eq_getElem (show j < (zcA 0 (6 : Int).toNat).length by rw [zaZ]; omega)) hx
   rw [List.length_map] at hlen
   walk_at "w"; rw [zhT]; walk_at "w"; rw [show lstF [.tup (hd.map D.int)] m7 = .ok (.lst (hd.map D.int)) m7 from rfl]; walk_at "w"; rw [zbK (by simp)]; walk_at "w"; rw [dict_0]; walk_at "w"; rw [zbK (by simp)]; walk_at "w"; rw [zen (by simp; omega)]; walk_at "w"; rw [zj4]
   have hd7 : (m7 ++ [MO.dct []])[m7.length]? = some (.dct []) := by simp
   have hp8 : P3 m1 p q (600 * i + 472) (m7 ++ [MO.dct []]) := (hI.more (by show _ <= _; omega)).app
   generalize m7 ++ [MO.dct []] = m8 at hd7 hp8 ⊢
   rw [za6 (fun _ => .bl true) (ds := zs.map D.str ++ [.non, .int 7, .bl true, .tup (hd.map D.int), .lst (hd.map D.int), .lst [.str "0"], .ob m7.length, .str ""]) rfl (by simp; omega) (by
    intro d hd'
    refine ⟨_, rfl, ?_⟩
    show zaU [shD fs n, d] m8 = .ok (.bl true) m8
    rcases List.mem_append.mp hd' with h | h
    ·obtain ⟨z, hz', rfl⟩ := List.mem_map.mp h
     obtain ⟨j, hj⟩ := List.mem_iff_getElem?.mp hz'
     exact zi6 hb f1 (Nat.le_trans (hz j z hj) (by decide))
    ·simp only [List.mem_cons, List.not_mem_nil, or_false] at h
     rcases h with rfl | rfl | rfl | rfl | rfl | rfl | rfl | rfl
     ·exact zbF rfl
     ·exact zbF rfl
     ·exact zbF rfl
     ·exact zbF rfl
     ·exact zbF rfl
     ·exact zbF rfl
     ·exact zbF (by simp [zbb, tyN, hd7, ziB])
     ·exact zi6 hb f1 (by decide))]
   walk_at "w"; rw [zf4]; walk_at "w"; exact Run.ok ⟨_, rfl, _, _, _, _, _, rfl, hp8.more (by omega)⟩
 ·rintro _ m3 ⟨ρ, rfl, x2, x3, x4, x5, x6, rfl, _⟩; walk_at "w"
  exact Run.ok rfl
end MD
set_option autoImplicit false
namespace K53
open PySem PyProof.Rows L2 MD
structure Txt (mg : Str -> Option Value) : Prop where
 ValueError : mg "ValueError" = none
 all : mg "all" = none
 tuple : mg "tuple" = none
 int : mg "int" = none
 isi : mg "isinstance" = none
 bool : mg "bool" = none
 any : mg "any" = none
 range : mg "range" = none
 str : mg "str" = none
 min : mg "min" = none
 list : mg "list" = none
 len : mg "len" = none
 abs : mg "abs" = none
 zip : mg "zip" = none
set_option maxHeartbeats 16000000
section
variable (P : Program) (w : World) {K : PySem.W.Frag} {mg : Str -> Option Value} (base : Heap) {cl : Str -> Addr} {f : Addr} {fd : FuncData}
theorem zfc : FnScope ["self", "row"] ["self", "row"] (zah zce) := sco
theorem zeM {f HE : Addr} {fd : FuncData} (F : Fun K "__init__" "NoText.__init__" zce f fd) (b : Binds K fd ["self", "row"] []) (EN : ExN K (cl "NoText") HE f) (mh : mg "HeadError" = some (.ref HE)) (T : Txt mg) (TX : TxE K cl ["HeadError", "NoHead", "NoLetter", "NoWord", "NoMore", "NoDeed", "NoPlace", "Beyond", "NoStream", "NoLine", "NoText"] []) (TN : TxN K cl) : FnN P w K mg base cl 1 :=
 FnN.mk' (cl := cl) (f2 := f2N) F b EN zfc rfl rfl (fun cdv A outer s H E hr => ⟨zk9 (cl := cl) rfl EN rfl mh rfl (.inl rfl) (zk5 (zaD zfq zjE (zab 1) zaX (zaw _)) zam (zmS (QJs.cons zam (QJs.cons (qe_fv (zab 1)) QJs.nil)))), ps_row EN rfl (.inl rfl) rfl (.inl rfl)⟩) f2N_ok
theorem zi0 : FnScope ["thing"] ["thing"] (zah zeD) := sco
theorem zif (F : Fun K "is_whole" "is_whole" zeD f fd) (b : Binds K fd ["thing"] []) (m : mg "is_whole" = some (.ref f)) (T : Txt mg) (TX : TxE K cl ["HeadError", "NoHead", "NoLetter", "NoWord", "NoMore", "NoDeed", "NoPlace", "Beyond", "NoStream", "NoLine", "NoText"] []) (TN : TxN K cl) : FnX P w K mg base cl "is_whole" 1 1 zaN :=
 have h := mkx P w base cl 0 F b m zi0 fun cdv A outer s H E hr =>
  (zaj (zar (zdr (zbo (n := "int") (by decide) (by rfl) T.isi (by rfl) T.int boot_int (zab 0)) (zd8 (zl4 (zbo (n := "bool") (by decide) (by rfl) T.isi (by rfl) T.bool boot_bool (zab 0)))))))
 h
theorem zgf : FnScope ["thing", "least", "most"] ["thing", "least", "most"] (zah zcH) := sco
theorem zfs (F : Fun K "is_between" "is_between" zcH f fd) (b : Binds K fd ["thing", "least", "most"] []) (m : mg "is_between" = some (.ref f)) (T : Txt mg) (TX : TxE K cl ["HeadError", "NoHead", "NoLetter", "NoWord", "NoMore", "NoDeed", "NoPlace", "Beyond", "NoStream", "NoLine", "NoText"] []) (TN : TxN K cl) (hIsWhole : FnX P w K mg base cl "is_whole" 1 1 zaN) : FnX P w K mg base cl "is_between" 2 3 za3 :=
 have h := mkx P w base cl 1 F b m zgf fun cdv A outer s H E hr =>
  (zaj (zar (zdr (qfn hIsWhole hr (zaa (zab 0) zad)) (zd8 (zeG zcU zfv zcU zfv (zab 1) (zab 0) (zab 2))))))
 h
theorem zi1 : FnScope ["thing", "breadth"] ["thing", "breadth"] (zah zeE) := sco
theorem zig (F : Fun K "is_value" "is_value" zeE f fd) (b : Binds K fd ["thing", "breadth"] []) (m : mg "is_value" = some (.ref f)) (T : Txt mg) (TX : TxE K cl ["HeadError", "NoHead", "NoLetter", "NoWord", "NoMore", "NoDeed", "NoPlace", "Beyond", "NoStream", "NoLine", "NoText"] []) (TN : TxN K cl) (hIsBetween : FnX P w K mg base cl "is_between" 2 3 za3) : FnX P w K mg base cl "is_value" 3 2 zbc :=
 have h := mkx P w base cl 2 F b m zi1 fun cdv A outer s H E hr =>
  (zaj (zar (qfn hIsBetween hr (zaa (zab 0) (zaa zaf (zaa (zao zea zeb (zao zfp zfu zaf (zab 1)) zaf) zad))))))
 h
theorem zmG : FnScope ["thing", "least", "most"] ["thing", "least", "most"] (zah zi3) := sco
theorem zlj (F : Fun K "is_row" "is_row" zi3 f fd) (b : Binds K fd ["thing", "least", "most"] []) (m : mg "is_row" = some (.ref f)) (T : Txt mg) (TX : TxE K cl ["HeadError", "NoHead", "NoLetter", "NoWord", "NoMore", "NoDeed", "NoPlace", "Beyond", "NoStream", "NoLine", "NoText"] []) (TN : TxN K cl) : FnX P w K mg base cl "is_row" 1 3 zfM :=
 have h := mkx P w base cl 0 F b m zmG fun cdv A outer s H E hr =>
  (zaj (zar (zdr (zbo (n := "tuple") (by decide) (by rfl) T.isi (by rfl) T.tuple boot_tuple (zab 0)) (zd8 (zeG zcU zfv zcU zfv (zab 1) (zat zaF zbq (by rfl) T.len PySem.boot_len (zaa (zab 0) zad)) (zab 2))))))
 h
theorem zh3 : FnScope ["shape"] ["shape"] (zah zdm) := sco
theorem zgx (F : Fun K "breadths" "breadths" zdm f fd) (b : Binds K fd ["shape"] []) (m : mg "breadths" = some (.ref f)) (T : Txt mg) (TX : TxE K cl ["HeadError", "NoHead", "NoLetter", "NoWord", "NoMore", "NoDeed", "NoPlace", "Beyond", "NoStream", "NoLine", "NoText"] []) (TN : TxN K cl) : FnX P w K mg base cl "breadths" 1 1 zbZ :=
 have h := mkx P w base cl 0 F b m zh3 fun cdv A outer s H E hr =>
  (zaj (zar (za7 rfl rfl (N0 := ["shape"]) (xs := ["field"]) ⟨(by with_unfolding_all rfl), rfl, rfl, rfl, (by repeat (first | exact trivial | refine ⟨rfl, ?_⟩)), rfl, .inl rfl⟩ (zbT (qxi hr (zab 0) zaf)) (fun _ _ _ _ => (zas (i := 1) (by decide +kernel : (["shape", "field"] : List Str).Nodup) rfl (Or.inl rfl))) (fun _ _ _ _ => zaS) (fun _ _ _ _ => (qxi hr (zab 1) zaf)))))
 h
theorem scIsHead : FnScope ["shape", "thing", "asked"] ["shape", "thing"] (zah zgh) := sco
theorem zjD (F : Fun K "is_head" "is_head" zgh f fd) (b : Binds K fd ["shape", "thing"] []) (m : mg "is_head" = some (.ref f)) (T : Txt mg) (TX : TxE K cl ["HeadError", "NoHead", "NoLetter", "NoWord", "NoMore", "NoDeed", "NoPlace", "Beyond", "NoStream", "NoLine", "NoText"] []) (TN : TxN K cl) (hBreadths : FnX P w K mg base cl "breadths" 1 1 zbZ) (hIsRow : FnX P w K mg base cl "is_row" 1 3 zfM) (hIsValue : FnX P w K mg base cl "is_value" 3 2 zbc) : FnX P w K mg base cl "is_head" 4 2 zcP :=
 have h := mkx P w base cl 3 F b m scIsHead fun cdv A outer s H E hr =>
  (zag (zaI (i := 2) scIsHead.nd rfl (Or.inl rfl) (qfn hBreadths hr (zaa (zab 0) zad)))
  (zag (zba (zb8 (zbH (qfn hIsRow hr (zaa (zab 1) (zaa (zat zaF zbq (by rfl) T.len PySem.boot_len (zaa (zab 2) zad)) (zaa (zat zaF zbq (by rfl) T.len PySem.boot_len (zaa (zab 2) zad)) zad))))))
  (zaj (zar zfj))
  zaz)
  (zaj (zar (zat (zcD rfl) zhD (by rfl) T.all boot_all (zaa (za7 rfl rfl (N0 := ["shape", "thing", "asked"]) (xs := ["value", "breadth"]) ⟨(by with_unfolding_all rfl), rfl, rfl, rfl, (by repeat (first | exact trivial | refine ⟨rfl, ?_⟩)), rfl, .inl rfl⟩ (qi_zip (by rfl) T.zip (zab 1) (zab 2)) (fun _ _ _ _ => (zdp (n := 2) rfl (zaL (zas (i := 3) (by decide +kernel : (["shape", "thing", "asked", "value", "breadth"] : List Str).Nodup) rfl (Or.inl rfl)) (zaL (zas (i := 4) (by decide +kernel : (["shape", "thing", "asked", "value", "breadth"] : List Str).Nodup) rfl (Or.inl rfl)) zcg)))) (fun _ _ _ _ => zaS) (fun _ _ _ _ => (qfn hIsValue hr (zaa (zab 3) (zaa (zab 4) zad))))) zad))))))
 h
theorem zh2 : FnScope ["head"] ["head"] (zah zdf) := sco
theorem zgq (F : Fun K "show_head" "show_head" zdf f fd) (b : Binds K fd ["head"] []) (m : mg "show_head" = some (.ref f)) (T : Txt mg) (TX : TxE K cl ["HeadError", "NoHead", "NoLetter", "NoWord", "NoMore", "NoDeed", "NoPlace", "Beyond", "NoStream", "NoLine", "NoText"] []) (TN : TxN K cl) : FnX P w K mg base cl "show_head" 1 1 zax :=
 have h := mkx P w base cl 0 F b m zh2 fun cdv A outer s H E hr =>
  (zaj (zar (zcs PySem.F.plainAttrs_str PySem.F.slot_str_join PySem.F.type_str_join zcK zcp zcL zam (zaa (za7 rfl rfl (N0 := ["head"]) (xs := ["value"]) ⟨(by with_unfolding_all rfl), rfl, rfl, rfl, (by repeat (first | exact trivial | refine ⟨rfl, ?_⟩)), rfl, .inl rfl⟩ (zbT (zab 0)) (fun _ _ _ _ => (zas (i := 1) (by decide +kernel : (["head", "value"] : List Str).Nodup) rfl (Or.inl rfl))) (fun _ _ _ _ => zaS) (fun _ _ _ _ => (zaE za5 zfP (by rfl) T.str boot_str (zaa (zab 1) zad)))) zad))))
 h
theorem scReadHead : FnScope ["shape", "text", "head"] ["shape", "text"] (zah zdg) := sco
theorem zgr (F : Fun K "read_head" "read_head" zdg f fd) (b : Binds K fd ["shape", "text"] []) (m : mg "read_head" = some (.ref f)) (T : Txt mg) (TX : TxE K cl ["HeadError", "NoHead", "NoLetter", "NoWord", "NoMore", "NoDeed", "NoPlace", "Beyond", "NoStream", "NoLine", "NoText"] []) (TN : TxN K cl) (hNotextInit : FnN P w K mg base cl 1) (hIsHead : FnX P w K mg base cl "is_head" 4 2 zcP) (hNumberRead : FnX P w K mg base cl "number_read" 1 1 zaO) : FnE P w K mg base cl "read_head" 5 2 zav :=
 have h := FnE.mk' (P := P) (w := w) (base := base) (cl := cl) (k := 4) F b m scReadHead rfl fun cdv A outer s H E hr =>
  (zeq (ys_if rfl (zb8 (zbH (zbo (n := "str") (by decide) (by rfl) T.isi (by rfl) T.str boot_str (zab 1))))
  (zf9 (YB.ys (ze3 rfl rfl hNotextInit TN.ns TN.kp (hr.mono (by decide)) rfl (zaa zaX zad))))
  ziF)
  (zeq (ys_pu rfl (zaI (i := 2) scReadHead.nd rfl (Or.inl rfl) (zaE (zb0 rfl) zfO (by rfl) T.tuple boot_tuple (zaa (za7 rfl rfl (N0 := ["shape", "text", "head"]) (xs := ["word"]) ⟨(by with_unfolding_all rfl), rfl, rfl, rfl, (by repeat (first | exact trivial | refine ⟨rfl, ?_⟩)), rfl, .inl rfl⟩ (zbT (zcs PySem.F.plainAttrs_str PySem.F.slot_str_split PySem.F.type_str_split zhm zcp zhn (zab 1) (zaa zam zad))) (fun _ _ _ _ => (zas (i := 3) (by decide +kernel : (["shape", "text", "head", "word"] : List Str).Nodup) rfl (Or.inl rfl))) (fun _ _ _ _ => zaS) (fun _ _ _ _ => (qfn hNumberRead hr (zaa (zab 3) zad)))) zad))))
  (zeq (ys_if rfl (zb8 (zbH (qfn hIsHead hr (zaa (zab 0) (zaa (zab 2) zad)))))
  (zf9 (YB.ys (ze3 rfl rfl hNotextInit TN.ns TN.kp (hr.mono (by decide)) rfl (zaa zaX zad))))
  ziF)
  (zf9 (ys_pu rfl (zar (zab 2)))))))
 h
theorem zfb : FnScope ["word"] ["word"] (zah zcd) := sco
theorem zeL (F : Fun K "number_read" "number_read" zcd f fd) (b : Binds K fd ["word"] []) (m : mg "number_read" = some (.ref f)) (T : Txt mg) (TX : TxE K cl ["HeadError", "NoHead", "NoLetter", "NoWord", "NoMore", "NoDeed", "NoPlace", "Beyond", "NoStream", "NoLine", "NoText"] []) (TN : TxN K cl) : FnX P w K mg base cl "number_read" 1 1 zaO :=
 have h := mkx P w base cl 0 F b m zfb fun cdv A outer s H E hr =>
  (zag (zba (zbs (zfh (zb8 (zk3 zcU zfv zcU zfv zaf (zat zaF zbq (by rfl) T.len PySem.boot_len (zaa (zab 0) zad)) zaf)) (zdo (zb8 (zbH (zat (zcD rfl) zhD (by rfl) T.all boot_all (zaa (za7 rfl rfl (N0 := ["word"]) (xs := ["sign"]) ⟨(by with_unfolding_all rfl), rfl, rfl, rfl, (by repeat (first | exact trivial | refine ⟨rfl, ?_⟩)), rfl, .inl rfl⟩ (zbT (zab 0)) (fun _ _ _ _ => (zas (i := 1) (by decide +kernel : (["word", "sign"] : List Str).Nodup) rfl (Or.inl rfl))) (fun _ _ _ _ => zaS) (fun _ _ _ _ => (zeG zcU zfv zcU zfv zam (zab 1) zam))) zad)))))))
  (zaj (zar zaX))
  zaz)
  (zag (zba (zbs (zjg (zaD (za8 hr.units) zb6 (qxi hr (zab 0) zaf) zam (zaw _)) (zgk (zaD (zcw hr.units) zeP (zab 0) zam (zaw _)))))
  (zaj (zar zaX))
  zaz)
  (zaj (zar (zaE zdK zkk (by rfl) T.int boot_int (zaa (zab 0) zad))))))
 h
theorem scLawPot : FnScope ["_law_script", "_law_far", "_law_seed", "_law_own", "_law_cell"] ["_law_script"] (zah zgg) := sco
theorem zjC (F : Fun K "_law_pot" "_law_pot" zgg f fd) (b : Binds K fd ["_law_script"] []) (m : mg "_law_pot" = some (.ref f)) (T : Txt mg) (TX : TxE K cl ["HeadError", "NoHead", "NoLetter", "NoWord", "NoMore", "NoDeed", "NoPlace", "Beyond", "NoStream", "NoLine", "NoText"] []) (TN : TxN K cl) : FnX P w K mg base cl "_law_pot" 1 1 zcB :=
 have h := mkx P w base cl 0 F b m scLawPot fun cdv A outer s H E hr =>
  (zag (zaI (i := 1) scLawPot.nd rfl (Or.inl rfl) (zao zeJ zeQ (zao zeJ zeQ (zao zeJ zeQ (zao zeJ zeQ (zao zcv zcx zaf zaf) (zao zcv zcx zaf zaf)) (zao zcv zcx zaf zaf)) (zao zcv zcx zaf zaf)) (zao zcv zcx zaf zaf)))
  (zag (zl3 (i := 2) (j := 3) rfl scLawPot.nd rfl rfl (by decide) rfl rfl (zaa zaf (zaa (zjk zad) zad)) rfl)
  (zag (zji PassesOwn.never rfl (zbT (zgn (zab 0) zbG (zbS zaf))) (zas (i := 4) scLawPot.nd rfl (Or.inl rfl))
  (zag (zaI (i := 2) scLawPot.nd rfl (Or.inl rfl) (zao zbI zbJ (zao zaq zau (zao zaq zau (zao zaY zbp (zab 2) zaf) (zao zbI zbJ (zab 4) (zao zcv zcx zaf zaf))) zaf) zaf))
  (zaj (zba (zaD op_ge od_ge (zat zhP zmf (by rfl) T.abs boot_abs (zaa (zab 4) zad)) (zao zcv zcx zaf zaf) (zaw _))
  (zaj (zgm (zcs PySem.F.plainAttrs_list PySem.F.slot_list_append PySem.F.type_list_append zfx ze5 zfC (zab 3) (zaa (zao zbI zbJ (zat zhP zmf (by rfl) T.abs boot_abs (zaa (zab 4) zad)) (zab 1)) zad))))
  zaz))))
  (zaj (zar (zmT (QPs.cons (zab 3) (QPs.cons (zab 2) (QPs.cons zaf QPs.nil))) (by simp) (by decide)))))))
 h
theorem scLawDraw : FnScope ["_law_pot_here", "_law_many", "_law_digit", "_law_turn", "_law_mixed"] ["_law_pot_here", "_law_many"] (zah zeB) := sco
theorem zid (F : Fun K "_law_draw" "_law_draw" zeB f fd) (b : Binds K fd ["_law_pot_here", "_law_many"] []) (m : mg "_law_draw" = some (.ref f)) (T : Txt mg) (TX : TxE K cl ["HeadError", "NoHead", "NoLetter", "NoWord", "NoMore", "NoDeed", "NoPlace", "Beyond", "NoStream", "NoLine", "NoText"] []) (TN : TxN K cl) : FnX P w K mg base cl "_law_draw" 1 2 zai :=
 have h := mkx P w base cl 0 F b m scLawDraw fun cdv A outer s H E hr =>
  (zag (zk4 (n := zkh) PassesOwn.never (zbs (zjg (zaD (zcw hr.units) zeP (qxi hr (zab 0) zam) (zaM zad) (zaw _)) (zgk (zaD (za8 hr.units) zb6 (qxi hr (qxi hr (zab 0) zam) zaf) zaf (zaw _)))))
  (zaj (zgm (zcs PySem.F.plainAttrs_list PySem.F.slot_list_pop PySem.F.type_list_pop zlp ze5 md_pop (qxi hr (zab 0) zam) (zaa zaf zad)))))
  (zag (zba (zaD (zcw hr.units) zeP (qxi hr (zab 0) zam) (zaM zad) (zaw _))
  (zag (zaI (i := 2) scLawDraw.nd rfl (Or.inl rfl) (zao zbI zbJ (qxi hr (qxi hr (zab 0) zam) zaf) (zab 1)))
  (zag (zfi (zao zeK zgy (qxi hr (qxi hr (zab 0) zam) zaf) (zab 1)) (zmO (qxi hr (zab 0) zam) zaf))
  (zaj (zar (zab 2)))))
  zaz)
  (zag (zmN (znJ hr) (zab 0) zam (zao zaq zau (qxi hr (zab 0) zam) zaf) rfl)
  (zag (zaI (i := 3) scLawDraw.nd rfl (Or.inl rfl) (qxi hr (zab 0) zam))
  (zag (zaI (i := 4) scLawDraw.nd rfl (Or.inl rfl) (zao zaq zau (zao zaq zau (qxi hr (zab 0) zam) (zao zaY zbp (zao zaY zbp (zab 3) (zab 3)) zaf)) (zao zaY zbp (zab 3) zaf)))
  (zag (zaI (i := 4) scLawDraw.nd rfl (Or.inl rfl) (zao zbI zbJ (zao zaY zbp (zab 4) zaf) zaf))
  (zag (zaI (i := 4) scLawDraw.nd rfl (Or.inl rfl) (zao zbI zbJ (zao zaY zbp (zab 4) (zao zaq zau (zao zbI zbJ (zab 4) zaf) zaf)) zaf))
  (zaj (zar (zao zbI zbJ (zao zaq zau (zao zeK zgy (zab 4) zaf) (zao zeK zgy (zab 4) zaf)) (zab 1)))))))))))
 h
theorem ziZ : FnScope ["_law_pot_here", "_law_some"] ["_law_pot_here", "_law_some"] (zah zhe) := sco
theorem zli (F : Fun K "_law_of" "_law_of" zhe f fd) (b : Binds K fd ["_law_pot_here", "_law_some"] []) (m : mg "_law_of" = some (.ref f)) (T : Txt mg) (TX : TxE K cl ["HeadError", "NoHead", "NoLetter", "NoWord", "NoMore", "NoDeed", "NoPlace", "Beyond", "NoStream", "NoLine", "NoText"] []) (TN : TxN K cl) (hLawDraw : FnX P w K mg base cl "_law_draw" 1 2 zai) : FnX P w K mg base cl "_law_of" 2 2 zbi :=
 have h := mkx P w base cl 1 F b m ziZ fun cdv A outer s H E hr =>
  (zaj (zar (qxi hr (zab 1) (qfn hLawDraw hr (zaa (zab 0) (zaa (zat zaF zbq (by rfl) T.len PySem.boot_len (zaa (zab 1) zad)) zad))))))
 h
theorem zlv {f : Addr} {fd : FuncData} (F : Fun K "_law_of" "_law_of" zhe f fd) (b : Binds K fd ["_law_pot_here", "_law_some"] []) (m : mg "_law_of" = some (.ref f)) (T : Txt mg) (TX : TxE K cl ["HeadError", "NoHead", "NoLetter", "NoWord", "NoMore", "NoDeed", "NoPlace", "Beyond", "NoStream", "NoLine", "NoText"] []) (TN : TxN K cl) (hLawDraw : FnX P w K mg base cl "_law_draw" 1 2 zai) : FnI P w K mg base cl "_law_of" 2 zbi :=
 have h := FnI.mk' (P := P) (w := w) (base := base) (cl := cl) (k := 1) F b m ziZ rfl rfl rfl rfl (.inl rfl) (fun _ _ => rfl) (by decide) (by decide) fun cdv A outer s H E hr =>
  (qfn hLawDraw hr (zaa (zab 0) (zaa (zat zaF zbq (by rfl) T.len PySem.boot_len (zaa (zab 1) zad)) zad)))
 h
theorem ziX : FnScope ["_law_pot_here", "_law_few", "_law_most"] ["_law_pot_here", "_law_few", "_law_most"] (zah zey) := sco
theorem zh9 (F : Fun K "_law_size" "_law_size" zey f fd) (b : Binds K fd ["_law_pot_here", "_law_few", "_law_most"] []) (m : mg "_law_size" = some (.ref f)) (T : Txt mg) (TX : TxE K cl ["HeadError", "NoHead", "NoLetter", "NoWord", "NoMore", "NoDeed", "NoPlace", "Beyond", "NoStream", "NoLine", "NoText"] []) (TN : TxN K cl) (hLawDraw : FnX P w K mg base cl "_law_draw" 1 2 zai) : FnX P w K mg base cl "_law_size" 2 3 zb3 :=
 have h := mkx P w base cl 1 F b m ziX fun cdv A outer s H E hr =>
  (zaj (zar (zao zaq zau zaf (qfn hLawDraw hr (zaa (zab 0) (zaa (qxi hr (zaM (zaa (zab 1) (zaa (zab 2) zad))) (zaE zdK zkk (by rfl) T.int boot_int (zaa (zdq (za8 hr.units) zb6 (qfn hLawDraw hr (zaa (zab 0) (zaa zaf zad))) zaf (zaw _)) zad))) zad))))))
 h
theorem scLawNames : FnScope ["_law_pot_here", "_law_many", "_law_letters", "_law_first", "_law_step"] ["_law_pot_here", "_law_many"] (zah zdk) := sco
theorem zgv (F : Fun K "_law_names" "_law_names" zdk f fd) (b : Binds K fd ["_law_pot_here", "_law_many"] []) (m : mg "_law_names" = some (.ref f)) (T : Txt mg) (TX : TxE K cl ["HeadError", "NoHead", "NoLetter", "NoWord", "NoMore", "NoDeed", "NoPlace", "Beyond", "NoStream", "NoLine", "NoText"] []) (TN : TxN K cl) (hLawDraw : FnX P w K mg base cl "_law_draw" 1 2 zai) (hLawOf : FnX P w K mg base cl "_law_of" 2 2 zbi) : FnX P w K mg base cl "_law_names" 3 2 zbe :=
 have h := mkx P w base cl 2 F b m scLawNames fun cdv A outer s H E hr =>
  (zag (zaI (i := 2) scLawNames.nd rfl (Or.inr rfl) zam)
  (zag (zfi (zbn (zaa (qfn hLawDraw hr (zaa (zab 0) (zaa zaf zad))) (zaa (qfn hLawOf hr (zaa (zab 0) (zaa (zaM (zaa zaf (zaa zaf (zaa zaf (zaa zaf (zaa zaf (zaa zaf zad))))))) zad))) zad))) (zdp (n := 2) rfl (zaL (zas (i := 3) scLawNames.nd rfl (Or.inr rfl)) (zaL (zas (i := 4) scLawNames.nd rfl (Or.inr rfl)) zcg))))
  (zaj (zar (za7 rfl rfl (N0 := ["_law_pot_here", "_law_many", "_law_letters", "_law_first", "_law_step"]) (xs := ["_law_k"]) ⟨(by with_unfolding_all rfl), rfl, rfl, rfl, (by repeat (first | exact trivial | refine ⟨rfl, ?_⟩)), rfl, .inl rfl⟩ (zeF (by rfl) T.range (zaa (zab 1) zad)) (fun _ _ _ _ => (zas (i := 5) (by decide +kernel : (["_law_pot_here", "_law_many", "_law_letters", "_law_first", "_law_step", "_law_k"] : List Str).Nodup) rfl (Or.inl rfl))) (fun _ _ _ _ => zaS) (fun _ _ _ _ => (zao zaY zbp (qxi hr (zab 2) (zao zbI zbJ (zao zaq zau (zab 3) (zao zaY zbp (zab 4) (zab 5))) zaf)) (zao zaq zau zaf (zao zbI zbJ (zao zaq zau (zab 3) (zao zaY zbp (zab 5) (zab 5))) zaf)))))))))
 h
theorem scLawValue : FnScope ["_law_pot_here", "_law_breadth", "_law_top", "_law_near"] ["_law_pot_here", "_law_breadth"] (zah zdh) := sco
theorem zgs (F : Fun K "_law_value" "_law_value" zdh f fd) (b : Binds K fd ["_law_pot_here", "_law_breadth"] []) (m : mg "_law_value" = some (.ref f)) (T : Txt mg) (TX : TxE K cl ["HeadError", "NoHead", "NoLetter", "NoWord", "NoMore", "NoDeed", "NoPlace", "Beyond", "NoStream", "NoLine", "NoText"] []) (TN : TxN K cl) (hLawDraw : FnX P w K mg base cl "_law_draw" 1 2 zai) : FnX P w K mg base cl "_law_value" 2 2 zaC :=
 have h := mkx P w base cl 1 F b m scLawValue fun cdv A outer s H E hr =>
  (zag (zaI (i := 2) scLawValue.nd rfl (Or.inl rfl) (zao zfp zfu zaf (zab 1)))
  (zag (zaI (i := 3) scLawValue.nd rfl (Or.inl rfl) (qfn hLawDraw hr (zaa (zab 0) (zaa (zat (zfT rfl) zkj (by rfl) T.min boot_min (zaa (zab 2) (zaa zaf zad))) zad))))
  (zaj (zar (qxi hr (zaM (zaa (qfn hLawDraw hr (zaa (zab 0) (zaa (zab 2) zad))) (zaa (zab 3) (zaa (zao zea zeb (zao zea zeb (zab 2) zaf) (zab 3)) (zaa (qfn hLawDraw hr (zaa (zab 0) (zaa (zab 2) zad))) zad))))) (qfn hLawDraw hr (zaa (zab 0) (zaa zaf zad))))))))
 h
theorem scLawKind : FnScope ["_law_pot_here", "_law_many", "_law_breadth", "_law_top", "_law_way", "_law_first", "_law_odd"] ["_law_pot_here", "_law_many", "_law_breadth"] (zah zeA) := sco
theorem zic (F : Fun K "_law_kind" "_law_kind" zeA f fd) (b : Binds K fd ["_law_pot_here", "_law_many", "_law_breadth"] []) (m : mg "_law_kind" = some (.ref f)) (T : Txt mg) (TX : TxE K cl ["HeadError", "NoHead", "NoLetter", "NoWord", "NoMore", "NoDeed", "NoPlace", "Beyond", "NoStream", "NoLine", "NoText"] []) (TN : TxN K cl) (hLawDraw : FnX P w K mg base cl "_law_draw" 1 2 zai) (hLawValue : FnX P w K mg base cl "_law_value" 2 2 zaC) : FnX P w K mg base cl "_law_kind" 3 3 zbz :=
 have h := mkx P w base cl 2 F b m scLawKind fun cdv A outer s H E hr =>
  (zag (zfi (zbn (zaa (zao zfp zfu zaf (zab 2)) (zaa (qfn hLawDraw hr (zaa (zab 0) (zaa zaf zad))) zad))) (zdp (n := 2) rfl (zaL (zas (i := 3) scLawKind.nd rfl (Or.inr rfl)) (zaL (zas (i := 4) scLawKind.nd rfl (Or.inl rfl)) zcg))))
  (zag (zba (zaD zl9 od_lt (zab 4) zaf (zaw _))
  (zaj (zar (zbn (zaa zam (zaa (zao zbI zbJ (qxi hr (zaM (zaa zaf (zaa (qfn hLawValue hr (zaa (zab 0) (zaa (zab 2) zad))) zad))) (qfn hLawDraw hr (zaa (zab 0) (zaa zaf zad)))) (zab 3)) zad)))))
  zaz)
  (zag (zba (zaD (za8 hr.units) zb6 (zab 4) zaf (zaw _))
  (zag (zfi (zbn (zaa (qfn hLawValue hr (zaa (zab 0) (zaa (zab 2) zad))) (zaa (zao zaq zau zaf (zao zaY zbp zaf (qfn hLawDraw hr (zaa (zab 0) (zaa zaf zad))))) zad))) (zdp (n := 2) rfl (zaL (zas (i := 5) scLawKind.nd rfl (Or.inr rfl)) (zaL (zas (i := 6) scLawKind.nd rfl (Or.inr rfl)) zcg))))
  (zaj (zar (zbn (zaa zam (zaa (zaE (zb0 rfl) zfO (by rfl) T.tuple boot_tuple (zaa (za7 rfl rfl (N0 := ["_law_pot_here", "_law_many", "_law_breadth", "_law_top", "_law_way", "_law_first", "_law_odd"]) (xs := ["_law_k"]) ⟨(by with_unfolding_all rfl), rfl, rfl, rfl, (by repeat (first | exact trivial | refine ⟨rfl, ?_⟩)), rfl, .inl rfl⟩ (zeF (by rfl) T.range (zaa (zat (zfT rfl) zkj (by rfl) T.min boot_min (zaa (zab 3) (zaa (zao zaq zau zaf (qfn hLawDraw hr (zaa (zab 0) (zaa zaf zad)))) zad))) zad)) (fun _ _ _ _ => (zas (i := 7) (by decide +kernel : (["_law_pot_here", "_law_many", "_law_breadth", "_law_top", "_law_way", "_law_first", "_law_odd", "_law_k"] : List Str).Nodup) rfl (Or.inl rfl))) (fun _ _ _ _ => zaS) (fun _ _ _ _ => (zao zbI zbJ (zao zaq zau (zab 5) (zao zaY zbp (zab 6) (zab 7))) (zab 3)))) zad)) zad))))))
  zaz)
  (zag (zba (zbs (zjg (zaD zl9 od_lt (zab 4) zaf (zaw _)) (zgk (zaD op_gt od_gt (zab 1) zaf (zaw _)))))
  (zaj (zar (zbn (zaa zam (zaa (qfn hLawDraw hr (zaa (zab 0) (zaa (zab 1) zad))) (zaa (qxi hr (zaM (zaa zaf (zaa (qe_un zlS zlT zaf) (zaa (zao zea zeb (qfn hLawDraw hr (zaa (zab 0) (zaa zaf zad))) zaf) zad)))) (qfn hLawDraw hr (zaa (zab 0) (zaa zaf zad)))) zad))))))
  zaz)
  (zaj (zar (qxi hr (zaM (zaa (zbn (zaa zam zad)) (zaa (zbn (zaa zam zad)) zad))) (qfn hLawDraw hr (zaa (zab 0) (zaa zaf zad))))))))))
 h
theorem scLawShape : FnScope ["_law_pot_here", "_law_fields", "_law_name", "_law_breadth"] ["_law_pot_here"] (zah zdi) := sco
theorem zgt (F : Fun K "_law_shape" "_law_shape" zdi f fd) (b : Binds K fd ["_law_pot_here"] []) (m : mg "_law_shape" = some (.ref f)) (T : Txt mg) (TX : TxE K cl ["HeadError", "NoHead", "NoLetter", "NoWord", "NoMore", "NoDeed", "NoPlace", "Beyond", "NoStream", "NoLine", "NoText"] []) (TN : TxN K cl) (hLawDraw : FnX P w K mg base cl "_law_draw" 1 2 zai) (hLawKind : FnX P w K mg base cl "_law_kind" 3 3 zbz) (hLawNames : FnX P w K mg base cl "_law_names" 3 2 zbe) (hLawSize : FnX P w K mg base cl "_law_size" 2 3 zb3) : FnX P w K mg base cl "_law_shape" 4 1 zby :=
 have h := mkx P w base cl 3 F b m scLawShape fun cdv A outer s H E hr =>
  (zag (zaI (i := 1) scLawShape.nd rfl (Or.inl rfl) (zjk zad))
  (zag (zji PassesOwn.never rfl (zbT (qfn hLawNames hr (zaa (zab 0) (zaa (qfn hLawSize hr (zaa (zab 0) (zaa zaf (zaa zaf zad)))) zad)))) (zas (i := 2) scLawShape.nd rfl (Or.inl rfl))
  (zag (zaI (i := 3) scLawShape.nd rfl (Or.inl rfl) (qxi hr (zaM (zaa (zao zaq zau zaf (qfn hLawDraw hr (zaa (zab 0) (zaa zaf zad)))) (zaa (zao zaq zau zaf (qfn hLawDraw hr (zaa (zab 0) (zaa zaf zad)))) (zaa zaf (zaa (zao zaq zau zaf (qfn hLawDraw hr (zaa (zab 0) (zaa zaf zad)))) (zaa zaf zad)))))) (qfn hLawDraw hr (zaa (zab 0) (zaa zaf zad)))))
  (zaj (zgm (zcs PySem.F.plainAttrs_list PySem.F.slot_list_append PySem.F.type_list_append zfx ze5 zfC (zab 1) (zaa (zbn (zaa (zab 2) (zaa (zab 3) (zaa (qfn hLawKind hr (zaa (zab 0) (zaa (zat zaF zbq (by rfl) T.len PySem.boot_len (zaa (zab 1) zad)) (zaa (zab 3) zad)))) zad)))) zad))))))
  (zaj (zar (zbn (zaa (zaE (zb0 rfl) zfO (by rfl) T.tuple boot_tuple (zaa (zab 1) zad)) (zaa (qxi hr (zaM (zaa zaf (zaa zaf (zaa zaf (zaa zaf (zaa (zao zcv zcx zaf zaf) (zaa (zao zaq zau zaf (qfn hLawDraw hr (zaa (zab 0) (zaa (zao zcv zcx zaf zaf) zad)))) zad))))))) (qfn hLawDraw hr (zaa (zab 0) (zaa zaf zad)))) zad)))))))
 h
theorem zew : FnScope ["_law_head"] ["_law_head"] (zah zbQ) := sco
theorem zdS (F : Fun K "_law_head_text" "_law_head_text" zbQ f fd) (b : Binds K fd ["_law_head"] []) (m : mg "_law_head_text" = some (.ref f)) (T : Txt mg) (TX : TxE K cl ["HeadError", "NoHead", "NoLetter", "NoWord", "NoMore", "NoDeed", "NoPlace", "Beyond", "NoStream", "NoLine", "NoText"] []) (TN : TxN K cl) : FnX P w K mg base cl "_law_head_text" 1 1 zax :=
 have h := mkx P w base cl 0 F b m zew fun cdv A outer s H E hr =>
  (zaj (zar (zcs PySem.F.plainAttrs_str PySem.F.slot_str_join PySem.F.type_str_join zcK zcp zcL zam (zaa (za7 rfl rfl (N0 := ["_law_head"]) (xs := ["_law_value_here"]) ⟨(by with_unfolding_all rfl), rfl, rfl, rfl, (by repeat (first | exact trivial | refine ⟨rfl, ?_⟩)), rfl, .inl rfl⟩ (zbT (zab 0)) (fun _ _ _ _ => (zas (i := 1) (by decide +kernel : (["_law_head", "_law_value_here"] : List Str).Nodup) rfl (Or.inl rfl))) (fun _ _ _ _ => zaS) (fun _ _ _ _ => (zaE za5 zfP (by rfl) T.str boot_str (zaa (zab 1) zad)))) zad))))
 h
theorem ziY : FnScope ["_law_found_here", "_law_due"] ["_law_found_here", "_law_due"] (zah zc8) := sco
theorem zdw (F : Fun K "_law_same" "_law_same" zc8 f fd) (b : Binds K fd ["_law_found_here", "_law_due"] []) (m : mg "_law_same" = some (.ref f)) (T : Txt mg) (TX : TxE K cl ["HeadError", "NoHead", "NoLetter", "NoWord", "NoMore", "NoDeed", "NoPlace", "Beyond", "NoStream", "NoLine", "NoText"] []) (TN : TxN K cl) : ∀ n, FnX P w K mg base cl "_law_same" (0 + n) 2 (zaB n)
 | 0 => FnX.none F b m
 | n + 1 => by
  have hLawSame := zdw F b m T TX TN  n
  have h := mkx P w base cl (0 + n) F b m ziY fun cdv A outer s H E hr =>
   (zag (zba (zbH (zmR (n := "tuple") (n' := "list") (by decide) (by decide) (by rfl) T.isi (by rfl) T.tuple boot_tuple (by rfl) T.list boot_list (zab 1)))
   (zag (zba (zbs (zfh (zaD (zcw hr.units) zeP (zbo (n := "tuple") (by decide) (by rfl) T.isi (by rfl) T.tuple boot_tuple (zab 0)) (zbo (n := "tuple") (by decide) (by rfl) T.isi (by rfl) T.tuple boot_tuple (zab 1)) (zaw _)) (zdo (zaD (zcw hr.units) zeP (zbo (n := "list") (by decide) (by rfl) T.isi (by rfl) T.list boot_list (zab 0)) (zbo (n := "list") (by decide) (by rfl) T.isi (by rfl) T.list boot_list (zab 1)) (zaw _)))))
   (zaj (zar zfj))
   zaz)
   (zaj (zar (zdr (zdq (za8 hr.units) zb6 (zat zaF zbq (by rfl) T.len PySem.boot_len (zaa (zab 0) zad)) (zat zaF zbq (by rfl) T.len PySem.boot_len (zaa (zab 1) zad)) (zaw _)) (zd8 (zat (zcD rfl) zhD (by rfl) T.all boot_all (zaa (za7 rfl rfl (N0 := ["_law_found_here", "_law_due"]) (xs := ["_law_one", "_law_other"]) ⟨(by with_unfolding_all rfl), rfl, rfl, rfl, (by repeat (first | exact trivial | refine ⟨rfl, ?_⟩)), rfl, .inl rfl⟩ (zjj (by rfl) T.zip (zab 0) (zab 1)) (fun _ _ _ _ => (zdp (n := 2) rfl (zaL (zas (i := 2) (by decide +kernel : (["_law_found_here", "_law_due", "_law_one", "_law_other"] : List Str).Nodup) rfl (Or.inl rfl)) (zaL (zas (i := 3) (by decide +kernel : (["_law_found_here", "_law_due", "_law_one", "_law_other"] : List Str).Nodup) rfl (Or.inl rfl)) zcg)))) (fun _ _ _ _ => zaS) (fun _ _ _ _ => (qe_fn hLawSame rfl (hr.mono (Nat.le_refl _)) rfl (zaa (zab 2) (zaa (zab 3) zad)) (aCons_len (aCons_len aNil_len))))) zad)))))))
   zaz)
   (zag (zba (zaD zfq zjE (zab 1) zaX (zaw _))
   (zaj (zar (zdq zfq zjE (zab 0) zaX (zaw _))))
   zaz)
   (zag (zba (zbH (zbo (n := "bool") (by decide) (by rfl) T.isi (by rfl) T.bool boot_bool (zab 1)))
   (zaj (zar (zdr (zbo (n := "bool") (by decide) (by rfl) T.isi (by rfl) T.bool boot_bool (zab 0)) (zd8 (zdq (za8 hr.units) zb6 (zab 0) (zab 1) (zaw _))))))
   zaz)
   (zaj (zar (zdr (zdq (za8 hr.units) zb6 (zbo (n := "str") (by decide) (by rfl) T.isi (by rfl) T.str boot_str (zab 0)) (zbo (n := "str") (by decide) (by rfl) T.isi (by rfl) T.str boot_str (zab 1)) (zaw _)) (zdr (zl4 (zbo (n := "bool") (by decide) (by rfl) T.isi (by rfl) T.bool boot_bool (zab 0))) (zd8 (zdq (za8 hr.units) zb6 (zab 0) (zab 1) (zaw _))))))))))
  exact h
theorem zia (F : Fun K "_law_same" "_law_same" zc8 f fd) (b : Binds K fd ["_law_found_here", "_law_due"] []) (m : mg "_law_same" = some (.ref f)) (T : Txt mg) (TX : TxE K cl ["HeadError", "NoHead", "NoLetter", "NoWord", "NoMore", "NoDeed", "NoPlace", "Beyond", "NoStream", "NoLine", "NoText"] []) (TN : TxN K cl) : FnX P w K mg base cl "_law_same" 12 2 zaR := zdw P w base F b m T TX TN  12
theorem scLawClassOf : FnScope ["_law_error", "_law_words", "_law_marks"] ["_law_error"] (zah zcf) := sco
theorem zeN (F : Fun K "_law_class_of" "_law_class_of" zcf f fd) (b : Binds K fd ["_law_error"] []) (m : mg "_law_class_of" = some (.ref f)) (T : Txt mg) (TX : TxE K cl ["HeadError", "NoHead", "NoLetter", "NoWord", "NoMore", "NoDeed", "NoPlace", "Beyond", "NoStream", "NoLine", "NoText"] []) (TN : TxN K cl) : FnX P w K mg base cl "_law_class_of" 1 1 zbl :=
 have h := mkx P w base cl 0 F b m scLawClassOf fun cdv A outer s H E hr =>
  (zag (zaI (i := 1) scLawClassOf.nd rfl (Or.inl rfl) (zaM (zaa zam (zaa zam (zaa zam (zaa zam (zaa zam (zaa zam (zaa zam (zaa zam (zaa zam (zaa zam zad))))))))))))
  (zag (zaI (i := 2) scLawClassOf.nd rfl (Or.inl rfl) (zaM (zaa (zbt TX (.tail _ (.head _)) (by rfl) T.isi (by rfl) (zab 0)) (zaa (zbt TX (.tail _ (.tail _ (.head _))) (by rfl) T.isi (by rfl) (zab 0)) (zaa (zbt TX (.tail _ (.tail _ (.tail _ (.head _)))) (by rfl) T.isi (by rfl) (zab 0)) zad)))))
  (zag (zaI (i := 2) scLawClassOf.nd rfl (Or.inl rfl) (zao zaq zau (zab 2) (zaM (zaa (zbt TX (.tail _ (.tail _ (.tail _ (.tail _ (.head _))))) (by rfl) T.isi (by rfl) (zab 0)) (zaa (zbt TX (.tail _ (.tail _ (.tail _ (.tail _ (.tail _ (.head _)))))) (by rfl) T.isi (by rfl) (zab 0)) (zaa (zbt TX (.tail _ (.tail _ (.tail _ (.tail _ (.tail _ (.tail _ (.head _))))))) (by rfl) T.isi (by rfl) (zab 0)) zad))))))
  (zag (zaI (i := 2) scLawClassOf.nd rfl (Or.inl rfl) (zao zaq zau (zab 2) (zaM (zaa (zbt TX (.tail _ (.tail _ (.tail _ (.tail _ (.tail _ (.tail _ (.tail _ (.head _)))))))) (by rfl) T.isi (by rfl) (zab 0)) (zaa (zbt TX (.tail _ (.tail _ (.tail _ (.tail _ (.tail _ (.tail _ (.tail _ (.tail _ (.head _))))))))) (by rfl) T.isi (by rfl) (zab 0)) (zaa (zbt TX (.tail _ (.tail _ (.tail _ (.tail _ (.tail _ (.tail _ (.tail _ (.tail _ (.tail _ (.head _)))))))))) (by rfl) T.isi (by rfl) (zab 0)) zad))))))
  (zag (zaI (i := 2) scLawClassOf.nd rfl (Or.inl rfl) (zao zaq zau (zab 2) (zaM (zaa (zbt TX (.tail _ (.tail _ (.tail _ (.tail _ (.tail _ (.tail _ (.tail _ (.tail _ (.tail _ (.tail _ (.head _))))))))))) (by rfl) T.isi (by rfl) (zab 0)) zad))))
  (zag (zba (zbs (zfh (zaD (zcw hr.units) zeP (zcs PySem.F.plainAttrs_list PySem.F.slot_list_count PySem.F.type_list_count zjM ze5 zjQ (zab 2) (zaa zfj zad)) zaf (zaw _)) (zdo (zb8 (zbH (zmQ TX (by rfl) T.isi (by rfl) T.ValueError (zab 0)))))))
  (zaj (zar (zbn (zaa zam (zaa zam zad)))))
  zaz)
  (zaj (zar (zbn (zaa zam (zaa (qxi hr (zab 1) (zcs PySem.F.plainAttrs_list PySem.F.slot_list_index PySem.F.type_list_index znv ze5 znw (zab 2) (zaa zfj zad))) zad)))))))))))
 h
theorem zge : FnScope ["_law_word"] ["_law_word"] (zah zcG) := sco
theorem zfr (F : Fun K "_law_number" "_law_number" zcG f fd) (b : Binds K fd ["_law_word"] []) (m : mg "_law_number" = some (.ref f)) (T : Txt mg) (TX : TxE K cl ["HeadError", "NoHead", "NoLetter", "NoWord", "NoMore", "NoDeed", "NoPlace", "Beyond", "NoStream", "NoLine", "NoText"] []) (TN : TxN K cl) : FnX P w K mg base cl "_law_number" 1 1 zbj :=
 have h := mkx P w base cl 0 F b m zge fun cdv A outer s H E hr =>
  (zag (zba (zbs (zfh (zaD (za8 hr.units) zb6 (zab 0) zam (zaw _)) (zfh (zaD op_gt od_gt (zat zaF zbq (by rfl) T.len PySem.boot_len (zaa (zab 0) zad)) zaf (zaw _)) (zdo (zaD (zcw hr.units) zeP (zcs PySem.F.plainAttrs_str PySem.F.slot_str_strip PySem.F.type_str_strip zlo zcp zlq (zab 0) (zaa zam zad)) zam (zaw _))))))
  (zaj (zar zaX))
  zaz)
  (zaj (zar (zk5 (zbs (zfh (zaD (za8 hr.units) zb6 (zab 0) zam (zaw _)) (zdo (zaD (zcw hr.units) zeP (qxi hr (zab 0) zaf) zam (zaw _))))) (zaE zdK zkk (by rfl) T.int boot_int (zaa (zab 0) zad)) zaX))))
 h
theorem scLawRead : FnScope ["_law_shape_here", "_law_text", "_law_numbers"] ["_law_shape_here", "_law_text"] (zah zez) := sco
theorem zib (F : Fun K "_law_read" "_law_read" zez f fd) (b : Binds K fd ["_law_shape_here", "_law_text"] []) (m : mg "_law_read" = some (.ref f)) (T : Txt mg) (TX : TxE K cl ["HeadError", "NoHead", "NoLetter", "NoWord", "NoMore", "NoDeed", "NoPlace", "Beyond", "NoStream", "NoLine", "NoText"] []) (TN : TxN K cl) (hLawNumber : FnX P w K mg base cl "_law_number" 1 1 zbj) : FnX P w K mg base cl "_law_read" 2 2 zbh :=
 have h := mkx P w base cl 1 F b m scLawRead fun cdv A outer s H E hr =>
  (zag (zba (zb8 (zbH (zbo (n := "str") (by decide) (by rfl) T.isi (by rfl) T.str boot_str (zab 1))))
  (zaj (zar zaX))
  zaz)
  (zag (zgl (i := 2) rfl rfl scLawRead.nd rfl rfl (N0 := ["_law_shape_here", "_law_text", "_law_numbers"]) (xs := ["_law_word"]) ⟨(by with_unfolding_all rfl), rfl, rfl, rfl, (by repeat (first | exact trivial | refine ⟨rfl, ?_⟩)), rfl, .inl rfl⟩ (zbT (zcs PySem.F.plainAttrs_str PySem.F.slot_str_split PySem.F.type_str_split zhm zcp zhn (zab 1) (zaa zam zad))) (fun _ _ _ _ => (zas (i := 3) (by decide +kernel : (["_law_shape_here", "_law_text", "_law_numbers", "_law_word"] : List Str).Nodup) rfl (Or.inl rfl))) (fun _ _ _ _ => zaS) (fun _ _ _ _ => (qfn hLawNumber hr (zaa (zab 3) zad))))
  (zag (zba (zbs (zfh (zaD (op_inA hr) od_in zaX (zab 2) rfl) (zdo (zaD (zcw hr.units) zeP (zat zaF zbq (by rfl) T.len PySem.boot_len (zaa (zab 2) zad)) (zat zaF zbq (by rfl) T.len PySem.boot_len (zaa (qxi hr (zab 0) zaf) zad)) (zaw _)))))
  (zaj (zar zaX))
  zaz)
  (zag (zba (zbH (zat (zkE rfl) fd_any (by rfl) T.any boot_any (zaa (za7 rfl rfl (N0 := ["_law_shape_here", "_law_text", "_law_numbers"]) (xs := ["_law_number_here", "_law_field"]) ⟨(by with_unfolding_all rfl), rfl, rfl, rfl, (by repeat (first | exact trivial | refine ⟨rfl, ?_⟩)), rfl, .inl rfl⟩ (zjj (by rfl) T.zip (zab 2) (qxi hr (zab 0) zaf)) (fun _ _ _ _ => (zdp (n := 2) rfl (zaL (zas (i := 3) (by decide +kernel : (["_law_shape_here", "_law_text", "_law_numbers", "_law_number_here", "_law_field"] : List Str).Nodup) rfl (Or.inl rfl)) (zaL (zas (i := 4) (by decide +kernel : (["_law_shape_here", "_law_text", "_law_numbers", "_law_number_here", "_law_field"] : List Str).Nodup) rfl (Or.inl rfl)) zcg)))) (fun _ _ _ _ => zaS) (fun _ _ _ _ => (zdq op_ge od_ge (zab 3) (zao zfp zfu zaf (qxi hr (zab 4) zaf)) (zaw _)))) zad)))
  (zaj (zar zaX))
  zaz)
  (zaj (zar (zaE (zb0 rfl) zfO (by rfl) T.tuple boot_tuple (zaa (zab 2) zad))))))))
 h
theorem scLawBent : FnScope ["_law_pot_here", "_law_shape_here", "_law_head", "_law_words", "_law_at", "_law_way", "_law_top", "_law_some"] ["_law_pot_here", "_law_shape_here", "_law_head"] (zah zeC) := sco
theorem zie (F : Fun K "_law_bent" "_law_bent" zeC f fd) (b : Binds K fd ["_law_pot_here", "_law_shape_here", "_law_head"] []) (m : mg "_law_bent" = some (.ref f)) (T : Txt mg) (TX : TxE K cl ["HeadError", "NoHead", "NoLetter", "NoWord", "NoMore", "NoDeed", "NoPlace", "Beyond", "NoStream", "NoLine", "NoText"] []) (TN : TxN K cl) (hLawDraw : FnX P w K mg base cl "_law_draw" 1 2 zai) (hLawHeadText : FnX P w K mg base cl "_law_head_text" 1 1 zax) (hLawOf : FnX P w K mg base cl "_law_of" 2 2 zbi) (iLawOf : FnI P w K mg base cl "_law_of" 2 zbi) : FnX P w K mg base cl "_law_bent" 3 3 zbY :=
 have h := mkx P w base cl 2 F b m scLawBent fun cdv A outer s H E hr =>
  (zag (zgl (i := 3) rfl rfl scLawBent.nd rfl rfl (N0 := ["_law_pot_here", "_law_shape_here", "_law_head", "_law_words", "_law_at", "_law_way", "_law_top", "_law_some"]) (xs := ["_law_value_here"]) ⟨(by with_unfolding_all rfl), rfl, rfl, rfl, (by repeat (first | exact trivial | refine ⟨rfl, ?_⟩)), rfl, .inl rfl⟩ (zbT (zab 2)) (fun _ _ _ _ => (zas (i := 8) (by decide +kernel : (["_law_pot_here", "_law_shape_here", "_law_head", "_law_words", "_law_at", "_law_way", "_law_top", "_law_some", "_law_value_here"] : List Str).Nodup) rfl (Or.inl rfl))) (fun _ _ _ _ => zaS) (fun _ _ _ _ => (zaE za5 zfP (by rfl) T.str boot_str (zaa (zab 8) zad))))
  (zag (zl3 (i := 4) (j := 5) rfl scLawBent.nd rfl rfl (by decide) rfl rfl (zaa (qfn hLawDraw hr (zaa (zab 0) (zaa (zat zaF zbq (by rfl) T.len PySem.boot_len (zaa (zab 3) zad)) zad))) (zaa (qfn hLawDraw hr (zaa (zab 0) (zaa zaf zad))) zad)) rfl)
  (zag (zaI (i := 6) scLawBent.nd rfl (Or.inl rfl) (zao zfp zfu zaf (qxi hr (qxi hr (qxi hr (zab 1) zaf) (zab 4)) zaf)))
  (zag (zba (zaD (za8 hr.units) zb6 (zab 5) zaf (zaw _))
  (zaj (zar (zcs PySem.F.plainAttrs_str PySem.F.slot_str_join PySem.F.type_str_join zcK zcp zcL zam (zaa (zao zaq zau (zgn (zab 3) zbG (zbS (zab 4))) (zgn (zab 3) (zbS (zao zaq zau (zab 4) zaf)) zbG)) zad))))
  zaz)
  (zag (zba (zaD (za8 hr.units) zb6 (zab 5) zaf (zaw _))
  (zaj (zar (zcs PySem.F.plainAttrs_str PySem.F.slot_str_join PySem.F.type_str_join zcK zcp zcL zam (zaa (zao zaq zau (zao zaq zau (zgn (zab 3) zbG (zbS (zab 4))) (zaM (zaa (qxi hr (zab 3) (zab 4)) zad))) (zgn (zab 3) (zbS (zab 4)) zbG)) zad))))
  zaz)
  (zag (zba (zaD (za8 hr.units) zb6 (zab 5) zaf (zaw _))
  (zaj (zar (zcs PySem.F.plainAttrs_str PySem.F.slot_str_join PySem.F.type_str_join zcK zcp zcL zam (zaa (zmP (zab 3) zbG zbG (zbS (qe_un zlS zlT zaf))) zad))))
  zaz)
  (zag (zba (zaD (za8 hr.units) zb6 (zab 5) zaf (zaw _))
  (zaj (zar (qfn hLawOf hr (zaa (zab 0) (zaa (zaM (zaa (zao zaq zau zam (qfn hLawHeadText hr (zaa (zab 2) zad))) (zaa (zao zaq zau (qfn hLawHeadText hr (zaa (zab 2) zad)) zam) (zaa (zao zaq zau (qfn hLawHeadText hr (zaa (zab 2) zad)) zam) zad)))) zad)))))
  zaz)
  (zag (qs_if0 (za8 hr.units) zb6 (zab 5)
  (zjh (qfn hLawHeadText hr (zaa (zab 2) zad)) (qet_of iLawOf (hr.mono (by decide)) (by rfl) (zab 0) (StrCs.cons (StrCs.cons (StrCs.cons (StrCs.cons (StrCs.cons StrCs.nil))))) (by decide)))
  zaz)
  (zag (zaI (i := 7) scLawBent.nd rfl (Or.inl rfl) (zaM (zaa (zaE za5 zfP (by rfl) T.str boot_str (zaa (zab 6) zad)) (zaa (zaE za5 zfP (by rfl) T.str boot_str (zaa (zao zea zeb (zab 6) zaf) zad)) (zaa (zao zaq zau zam (qxi hr (zab 3) (zab 4))) (zaa (zao zaq zau zam (qxi hr (zab 3) (zab 4))) (zaa (zao zaq zau (qxi hr (zab 3) (zab 4)) zam) (zaa (zao zaq zau zam (qxi hr (zab 3) (zab 4))) (zaa zam (zaa zam zad))))))))))
  (zag (zaI (i := 7) scLawBent.nd rfl (Or.inl rfl) (zao zaq zau (zab 7) (zaM (zaa (zao zaq zau (zao zaY zbp zam (zao zea zeb zaf (zat zaF zbq (by rfl) T.len PySem.boot_len (zaa (qxi hr (zab 3) (zab 4)) zad)))) (qxi hr (zab 3) (zab 4))) (zaa (zao zaY zbp zam zaf) (zaa (zao zaY zbp zam zaf) (zaa (zao zaq zau (qxi hr (zab 3) (zab 4)) zam) (zaa zam (zaa zam zad)))))))))
  (zaj (zar (zcs PySem.F.plainAttrs_str PySem.F.slot_str_join PySem.F.type_str_join zcK zcp zcL zam (zaa (zao zaq zau (zao zaq zau (zgn (zab 3) zbG (zbS (zab 4))) (zaM (zaa (qfn hLawOf hr (zaa (zab 0) (zaa (zab 7) zad))) zad))) (zgn (zab 3) (zbS (zao zaq zau (zab 4) zaf)) zbG)) zad))))))))))))))
 h
theorem scLawFound : FnScope ["_law_shape_here", "_law_text", "_law_found_here", "_law_caught", "_law_error"] ["_law_shape_here", "_law_text"] (zah zdl) := sco
theorem zgw (F : Fun K "_law_found" "_law_found" zdl f fd) (b : Binds K fd ["_law_shape_here", "_law_text"] []) (m : mg "_law_found" = some (.ref f)) (T : Txt mg) (TX : TxE K cl ["HeadError", "NoHead", "NoLetter", "NoWord", "NoMore", "NoDeed", "NoPlace", "Beyond", "NoStream", "NoLine", "NoText"] []) (TN : TxN K cl) (hLawClassOf : FnX P w K mg base cl "_law_class_of" 1 1 zbl) (hReadHead : FnE P w K mg base cl "read_head" 5 2 zav) : FnX P w K mg base cl "_law_found" 6 2 zbk :=
 have h := mkx P w base cl 5 F b m scLawFound fun cdv A outer s H E hr =>
  (zag (zfi (zbn (zaa zaX (zaa zaX zad))) (zdp (n := 2) rfl (zaL (zas (i := 2) scLawFound.nd rfl (Or.inl rfl)) (zaL (zas (i := 3) scLawFound.nd rfl (Or.inl rfl)) zcg))))
  (zag (qs_try (i := 4) rfl rfl TX (.head _) rfl scLawFound.nd rfl rfl (yb_set (i := 2) scLawFound.nd rfl (Or.inl rfl) (ye_fn rfl hReadHead rfl (hr.mono (by decide)) rfl (zaa (zab 0) (zaa (zab 1) zad)) (aCons_len (aCons_len aNil_len)))) (fun _ => (zaj (zaI (i := 3) scLawFound.nd rfl (Or.inl rfl) (zab 4)))))
  (zag (zba (zaD zfq zjE (zab 3) zaX (zaw _))
  (zaj (zar (zab 2)))
  zaz)
  (zaj (zar (zk5 (zaD (za8 hr.units) zb6 (qfn hLawClassOf hr (zaa (zab 3) zad)) (zbn (zaa zam (zaa zam zad))) (zaw _)) (zaM (zaa (qe_row TX (.tail _ (.tail _ (.tail _ (.tail _ (.tail _ (.tail _ (.tail _ (.tail _ (.tail _ (.tail _ (.head _))))))))))) TN.hd TN.row (zab 3)) zad)) zam))))))
 h
theorem scLawRight : FnScope ["_law_shape_here", "_law_text", "_law_due"] ["_law_shape_here", "_law_text"] (zah zdj) := sco
theorem zgu (F : Fun K "_law_right" "_law_right" zdj f fd) (b : Binds K fd ["_law_shape_here", "_law_text"] []) (m : mg "_law_right" = some (.ref f)) (T : Txt mg) (TX : TxE K cl ["HeadError", "NoHead", "NoLetter", "NoWord", "NoMore", "NoDeed", "NoPlace", "Beyond", "NoStream", "NoLine", "NoText"] []) (TN : TxN K cl) (hLawFound : FnX P w K mg base cl "_law_found" 6 2 zbk) (hLawRead : FnX P w K mg base cl "_law_read" 2 2 zbh) (hLawSame : FnX P w K mg base cl "_law_same" 12 2 zaR) : FnX P w K mg base cl "_law_right" 13 2 zaU :=
 have h := mkx P w base cl 12 F b m scLawRight fun cdv A outer s H E hr =>
  (zag (zaI (i := 2) scLawRight.nd rfl (Or.inl rfl) (qfn hLawRead hr (zaa (zab 0) (zaa (zab 1) zad))))
  (zaj (zar (qfn hLawSame hr (zaa (qfn hLawFound hr (zaa (zab 0) (zaa (zab 1) zad))) (zaa (zk5 (zaD zfq zjE (zab 2) zaX (zaw _)) (zaM (zaa zaX zad)) (zab 2)) zad))))))
 h
theorem scLaw : FnScope ["_law_script", "_law_pot_here", "_law_turn", "_law_shape_here", "_law_head", "_law_text", "_law_bent_here"] ["_law_script"] (zah sLaw) := sco
theorem ok_Law (F : Fun K "law" "law" sLaw f fd) (b : Binds K fd ["_law_script"] []) (m : mg "law" = some (.ref f)) (T : Txt mg) (TX : TxE K cl ["HeadError", "NoHead", "NoLetter", "NoWord", "NoMore", "NoDeed", "NoPlace", "Beyond", "NoStream", "NoLine", "NoText"] []) (TN : TxN K cl) (hLawBent : FnX P w K mg base cl "_law_bent" 3 3 zbY) (hLawHeadText : FnX P w K mg base cl "_law_head_text" 1 1 zax) (hLawPot : FnX P w K mg base cl "_law_pot" 1 1 zcB) (hLawRight : FnX P w K mg base cl "_law_right" 13 2 zaU) (hLawSame : FnX P w K mg base cl "_law_same" 12 2 zaR) (hLawShape : FnX P w K mg base cl "_law_shape" 4 1 zby) (hLawValue : FnX P w K mg base cl "_law_value" 2 2 zaC) (hReadHead : FnE P w K mg base cl "read_head" 5 2 zav) (hShowHead : FnX P w K mg base cl "show_head" 1 1 zax) : FnOk P w K mg base CX0 14 f fd ["_law_script"] (spD K cl X0 1 zhw) :=
 have h := fnO (P := P) (w := w) (mg := mg) (base := base) (cl := cl) (k := 13) F scLaw rfl fun cdv A outer s H E hr =>
  (zag (zaI (i := 1) scLaw.nd rfl (Or.inr rfl) (qfn hLawPot hr (zaa (zab 0) zad)))
  (zag (zji PassesOwn.never rfl (zeF (by rfl) T.range (zaa zaf zad)) (zas (i := 2) scLaw.nd rfl (Or.inl rfl))
  (zag (zaI (i := 3) scLaw.nd rfl (Or.inr rfl) (qfn hLawShape hr (zaa (zab 1) zad)))
  (zag (zaI (i := 4) scLaw.nd rfl (Or.inr rfl) (zaE (zb0 rfl) zfO (by rfl) T.tuple boot_tuple (zaa (za7 rfl rfl (N0 := ["_law_script", "_law_pot_here", "_law_turn", "_law_shape_here", "_law_head", "_law_text", "_law_bent_here"]) (xs := ["_law_field"]) ⟨(by with_unfolding_all rfl), rfl, rfl, rfl, (by repeat (first | exact trivial | refine ⟨rfl, ?_⟩)), rfl, .inl rfl⟩ (zbT (qxi hr (zab 3) zaf)) (fun _ _ _ _ => (zas (i := 7) (by decide +kernel : (["_law_script", "_law_pot_here", "_law_turn", "_law_shape_here", "_law_head", "_law_text", "_law_bent_here", "_law_field"] : List Str).Nodup) rfl (Or.inl rfl))) (fun _ _ _ _ => zaS) (fun _ _ _ _ => (qfn hLawValue hr (zaa (zab 1) (zaa (qxi hr (zab 7) zaf) zad))))) zad)))
  (zag (zaI (i := 5) scLaw.nd rfl (Or.inl rfl) (qfn hLawHeadText hr (zaa (zab 4) zad)))
  (zag (zba (zbs (zfh (zb8 (zbH (qfn hLawSame hr (zaa (qfn hShowHead hr (zaa (zab 4) zad)) (zaa (zab 5) zad))))) (zdo (zb8 (zbH (qfn hLawSame hr (zaa (qfn hReadHead.pure hr (zaa (zab 3) (zaa (zab 5) zad))) (zaa (zab 4) zad))))))))
  (zaj (zar zfj))
  zaz)
  (zag (zgl (i := 6) rfl rfl scLaw.nd rfl rfl (N0 := ["_law_script", "_law_pot_here", "_law_turn", "_law_shape_here", "_law_head", "_law_text", "_law_bent_here"]) (xs := ["_law_k"]) ⟨(by with_unfolding_all rfl), rfl, rfl, rfl, (by repeat (first | exact trivial | refine ⟨rfl, ?_⟩)), rfl, .inl rfl⟩ (zeF (by rfl) T.range (zaa zaf zad)) (fun _ _ _ _ => (zas (i := 7) (by decide +kernel : (["_law_script", "_law_pot_here", "_law_turn", "_law_shape_here", "_law_head", "_law_text", "_law_bent_here", "_law_k"] : List Str).Nodup) rfl (Or.inl rfl))) (fun _ _ _ _ => zaS) (fun _ _ _ _ => (qfn hLawBent hr (zaa (zab 1) (zaa (zab 3) (zaa (zab 4) zad))))))
  (zaj (zba (zb8 (zbH (zat (zcD rfl) zhD (by rfl) T.all boot_all (zaa (za7 rfl rfl (N0 := ["_law_script", "_law_pot_here", "_law_turn", "_law_shape_here", "_law_head", "_law_text", "_law_bent_here"]) (xs := ["_law_thing"]) ⟨(by with_unfolding_all rfl), rfl, rfl, rfl, (by repeat (first | exact trivial | refine ⟨rfl, ?_⟩)), rfl, .inl rfl⟩ (zbT (zao zaq zau (zab 6) (zaM (zaa zaX (zaa zaf (zaa zfj (zaa (zab 4) (zaa (zaE zfU fd_lst (by rfl) T.list boot_list (zaa (zab 4) zad)) (zaa (zaM (zaa zam zad)) (zaa zk6 (zaa zam zad))))))))))) (fun _ _ _ _ => (zas (i := 7) (by decide +kernel : (["_law_script", "_law_pot_here", "_law_turn", "_law_shape_here", "_law_head", "_law_text", "_law_bent_here", "_law_thing"] : List Str).Nodup) rfl (Or.inl rfl))) (fun _ _ _ _ => zaS) (fun _ _ _ _ => (qfn hLawRight hr (zaa (zab 3) (zaa (zab 7) zad))))) zad))))
  (zaj (zar zfj))
  zaz))))))))
  (zaj (zar zfj))))
 h
end
end K53
set_option autoImplicit false
namespace K53
open PySem L2 MD
theorem zjW {ns : List Int} (h : ns.length <= 63) : ∃ a m, zhw [.scr (ns.map D.int)] [] = .ok a m /\ a = .bl true := zgE h
end K53
set_option autoImplicit false
namespace K53
open PySem PyProof.Rows L2 MD PySem.W.Fast
theorem trH {α β γ δ : Type} {f f' g g' : α -> β -> γ -> δ} (a : f = f') (c : g = g') {x : α} {y : β} {w : γ} (b : f' x y w = g' x y w) : f x y w = g x y w := by rw [a, c]; exact b
theorem trL {α β γ δ : Type} {f f' g : α -> β -> γ -> δ} (a : f = f') {x : α} {y : β} {w : γ} (b : f' x y w = g x y w) : f x y w = g x y w := by rw [a]; exact b
theorem hm8 (w : World) : hl8 nms pw w = hr8 nms pw w := trL te6122217650703275299 (hlq8 w)
theorem hm9 (w : World) : hl9 f9 pw w = hr9 f9 pw w := trL te1607676813601109627 (hlq9 w)
theorem hm10 (w : World) : hl10 rw0 pw w = hr10 rw0 pw w := trL te14901537797703024588 (hlq10 w)
theorem hm11 (w : World) : hl11 rw0 pw w = hr11 rw0 pw w := trL te579312512792291306 (hlq11 w)
theorem hm12 (w : World) : hl12 rw0 pw w = hr12 rw0 pw w := trL te163579757382990779 (hlq12 w)
theorem hm13 (w : World) : hl13 rw0 pw w = hr13 rw0 pw w := trL te7533988528007689428 (hlq13 w)
theorem hm14 (w : World) : hl14 rw0 pw w = hr14 rw0 pw w := trL te4857224765029012611 (hlq14 w)
theorem hm15 (w : World) : hl15 rw0 pw w = hr15 rw0 pw w := trL te13959285882962685665 (hlq15 w)
theorem hl : PySem.W.LeftO pw vw [] xt (fun s => obs (Kof 313 s.heap)) (fun _ => expd) 6408 := fun w => zkp (f := fun s => PySem.W.openSeen vw [] (importedModules pw.main.body) xt true s) (g := obs) (n := 313) (both (parts4 18 (trH te1917563412400616460 te442095879121321045 (hlq0 w)) (trH te18260765727614834627 te7194645342805293105 (hlq1 w)) (trH te4079013452271798434 te17485833956240765442 (hlq2 w)) (trH te7236975247363155290 te14069132705648416181 (hlq3 w)) (trH te13765598474515908275 te15033859772150066466 (hlq4 w)) (trH te2903299454584443690 te18335841628365256829 (hlq5 w)) (trH te10898720501173352396 te196769508550681650 (hlq6 w)) (trH te2259758372884667032 te17097896974269231947 (hlq7 w))) (both4 (hm8 w) (hm9 w) (zj6 (zj6 (zj6 (zj6 (zj6 (hm10 w) (hm11 w)) (hm12 w)) (hm13 w)) (hm14 w)) (hm15 w))))
theorem all_mk {l : PySem.W.OpenLaw} {w : World} {K : PySem.W.Frag} {h : Heap} {mg : Str -> Option Value} {fa : Addr} (y : obs K = expd) (X : K.In h) (G : h.Ns mainGlobals mg) (hfa : mg "law" = some (.ref fa)) :
  ∃ fd : FuncData, (∀ (s : Shared) (v : Value), BindsTo s fd ⟨[v], []⟩ [("_law_script", v)]) /\ ∀ base : Heap, K.In base -> base.Ns mainGlobals mg -> FnOk l.prog w K mg base CX0 14 fa fd ["_law_script"] (spLaw K) := by
 have y1 : nms.map (PySem.W.nsIn K mainGlobals) = nmsE := congrArg (fun x => x.1) y
 have y2 : fnd.map (fun p => PySem.W.findIn K (.ref p.1) p.2) = fndE := congrArg (fun x => x.2.1) y
 have y3 : fns.map (fnV K) = fnsE := congrArg (fun x => x.2.2.1) y
 have y4 : bls K = blsE := congrArg (fun x => x.2.2.2) y
 have n : ∀ (i : Nat) {x : Str} {v : Value}, nms[i]? = some x -> nmsE[i]? = some (some (some v)) -> mg x = some v := fun i _ _ a b => PySem.W.mg_of X G (zgo y1 i a b)
 have o : ∀ (i : Nat) {x : Str}, nms[i]? = some x -> nmsE[i]? = some (some none) -> mg x = none := fun i _ a b => PySem.W.mg_none_of X G (zgo y1 i a b)
 have u : ∀ (st : Stmt) (i : Nat) {a : Addr} {x q : Str}, fns[i]? = some a -> fnsE[i]? = some (fnE x q st) -> ∃ fd, Fun K x q st a fd := fun st i _ _ _ a b => fun_of (st := st) (zgo y3 i a b)
 have e := hfa.symm.trans (n 25 rfl rfl)
 cases e
 have T : Txt mg := ⟨o 37 rfl rfl, o 38 rfl rfl, o 39 rfl rfl, o 40 rfl rfl, o 41 rfl rfl, o 42 rfl rfl, o 43 rfl rfl, o 44 rfl rfl, o 45 rfl rfl, o 46 rfl rfl, o 47 rfl rfl, o 48 rfl rfl, o 49 rfl rfl, o 50 rfl rfl⟩
 obtain ⟨cl, eHeadError, eNoHead, eNoLetter, eNoWord, eNoMore, eNoDeed, eNoPlace, eBeyond, eNoStream, eNoLine, eNoText⟩ : ∃ cl : Str -> Addr, cl "HeadError" = 24 /\ cl "NoHead" = 37 /\ cl "NoLetter" = 49 /\ cl "NoWord" = 61 /\ cl "NoMore" = 73 /\ cl "NoDeed" = 85 /\ cl "NoPlace" = 97 /\ cl "Beyond" = 109 /\ cl "NoStream" = 121 /\ cl "NoLine" = 133 /\ cl "NoText" = 152 := ⟨fun x => if x = "HeadError" then 24 else if x = "NoHead" then 37 else if x = "NoLetter" then 49 else if x = "NoWord" then 61 else if x = "NoMore" then 73 else if x = "NoDeed" then 85 else if x = "NoPlace" then 97 else if x = "Beyond" then 109 else if x = "NoStream" then 121 else if x = "NoLine" then 133 else if x = "NoText" then 152 else 0, if_pos rfl, (if_neg (by decide)).trans (if_pos rfl), (if_neg (by decide)).trans ((if_neg (by decide)).trans (if_pos rfl)), (if_neg (by decide)).trans ((if_neg (by decide)).trans ((if_neg (by decide)).trans (if_pos rfl))), (if_neg (by decide)).trans ((if_neg (by decide)).trans ((if_neg (by decide)).trans ((if_neg (by decide)).trans (if_pos rfl)))), (if_neg (by decide)).trans ((if_neg (by decide)).trans ((if_neg (by decide)).trans ((if_neg (by decide)).trans ((if_neg (by decide)).trans (if_pos rfl))))), (if_neg (by decide)).trans ((if_neg (by decide)).trans ((if_neg (by decide)).trans ((if_neg (by decide)).trans ((if_neg (by decide)).trans ((if_neg (by decide)).trans (if_pos rfl)))))), (if_neg (by decide)).trans ((if_neg (by decide)).trans ((if_neg (by decide)).trans ((if_neg (by decide)).trans ((if_neg (by decide)).trans ((if_neg (by decide)).trans ((if_neg (by decide)).trans (if_pos rfl))))))), (if_neg (by decide)).trans ((if_neg (by decide)).trans ((if_neg (by decide)).trans ((if_neg (by decide)).trans ((if_neg (by decide)).trans ((if_neg (by decide)).trans ((if_neg (by decide)).trans ((if_neg (by decide)).trans (if_pos rfl)))))))), (if_neg (by decide)).trans ((if_neg (by decide)).trans ((if_neg (by decide)).trans ((if_neg (by decide)).trans ((if_neg (by decide)).trans ((if_neg (by decide)).trans ((if_neg (by decide)).trans ((if_neg (by decide)).trans ((if_neg (by decide)).trans (if_pos rfl))))))))), (if_neg (by decide)).trans ((if_neg (by decide)).trans ((if_neg (by decide)).trans ((if_neg (by decide)).trans ((if_neg (by decide)).trans ((if_neg (by decide)).trans ((if_neg (by decide)).trans ((if_neg (by decide)).trans ((if_neg (by decide)).trans ((if_neg (by decide)).trans (if_pos rfl))))))))))⟩
 have ly : ∀ (i : Nat) (b : Bool), (bls K)[i]? = some b -> b = true := fun i b hb => by
  rw [y4] at hb
  exact List.mem_replicate.mp (List.mem_of_getElem? (show (List.replicate 4 true)[i]? = some b from hb)) |>.2
 have TX : TxE K cl ["HeadError", "NoHead", "NoLetter", "NoWord", "NoMore", "NoDeed", "NoPlace", "Beyond", "NoStream", "NoLine", "NoText"] [] := ⟨(zaP (by rw [eHeadError]; exact (zgo y1 26 rfl rfl)) (zaP (by rw [eNoHead]; exact (zgo y1 27 rfl rfl)) (zaP (by rw [eNoLetter]; exact (zgo y1 28 rfl rfl)) (zaP (by rw [eNoWord]; exact (zgo y1 29 rfl rfl)) (zaP (by rw [eNoMore]; exact (zgo y1 30 rfl rfl)) (zaP (by rw [eNoDeed]; exact (zgo y1 31 rfl rfl)) (zaP (by rw [eNoPlace]; exact (zgo y1 32 rfl rfl)) (zaP (by rw [eBeyond]; exact (zgo y1 33 rfl rfl)) (zaP (by rw [eNoStream]; exact (zgo y1 34 rfl rfl)) (zaP (by rw [eNoLine]; exact (zgo y1 35 rfl rfl)) (zaP (by rw [eNoText]; exact (zgo y1 36 rfl rfl)) zhS))))))))))), ly 2 _ rfl, ly 3 _ rfl, zhS⟩
 obtain ⟨EN, kpN, hdN, rwN⟩ := exn_of (ly 1 _ rfl)
 have TN : TxN K cl := ⟨by rw [eNoText]; exact (zgo y1 36 rfl rfl), by rw [eNoText]; exact kpN, by rw [eNoText]; exact hdN, by rw [eNoText]; exact rwN⟩
 have ⟨_, F26⟩ := u sLaw 26 rfl rfl
 have Fx := F26
 obtain ⟨oc, od, kV, doc, pm, an, cdv, ct, osl, rfl, lk, hcd⟩ := Fx.ex
 refine ⟨PySem.W.fnOf "law" "law" (zcQ sLaw) (za0 sLaw) (zah sLaw) .none kV doc pm an cdv ct, fun s v => .of_eq rfl, fun base _ _ => ?_⟩
 have ⟨_, F11⟩ := u zeB 11 rfl rfl
 have g11 := zid l.prog w base F11 F11.bindA (n 10 rfl rfl) T TX TN
 have ⟨_, F18⟩ := u zbQ 18 rfl rfl
 have g18 := zdS l.prog w base F18 F18.bindA (n 17 rfl rfl) T TX TN
 have ⟨_, F12⟩ := u zhe 12 rfl rfl
 have g12 := zli l.prog w base F12 F12.bindA (n 11 rfl rfl) T TX TN g11
 have i12 := zlv l.prog w base F12 F12.bindA (n 11 rfl rfl) T TX TN g11
 have ⟨_, F23⟩ := u zeC 23 rfl rfl
 have g23 := zie l.prog w base F23 F23.bindA (n 22 rfl rfl) T TX TN g11 g18 g12 i12
 have ⟨_, F10⟩ := u zgg 10 rfl rfl
 have g10 := zjC l.prog w base F10 F10.bindA (n 9 rfl rfl) T TX TN
 have ⟨_, F20⟩ := u zcf 20 rfl rfl
 have g20 := zeN l.prog w base F20 F20.bindA (n 19 rfl rfl) T TX TN
 have ⟨_, F0⟩ := u zce 0 rfl rfl
 have g0 := zeM l.prog w base F0 F0.bindA (by rw [eNoText]; exact EN) (n 26 rfl rfl) T TX TN
 have ⟨_, F5⟩ := u zdm 5 rfl rfl
 have g5 := zgx l.prog w base F5 F5.bindA (n 4 rfl rfl) T TX TN
 have ⟨_, F4⟩ := u zi3 4 rfl rfl
 have g4 := zlj l.prog w base F4 F4.bindA (n 3 rfl rfl) T TX TN
 have ⟨_, F1⟩ := u zeD 1 rfl rfl
 have g1 := zif l.prog w base F1 F1.bindA (n 0 rfl rfl) T TX TN
 have ⟨_, F2⟩ := u zcH 2 rfl rfl
 have g2 := zfs l.prog w base F2 F2.bindA (n 1 rfl rfl) T TX TN g1
 have ⟨_, F3⟩ := u zeE 3 rfl rfl
 have g3 := zig l.prog w base F3 F3.bindA (n 2 rfl rfl) T TX TN g2
 have ⟨_, F6⟩ := u zgh 6 rfl rfl
 have g6 := zjD l.prog w base F6 F6.bindA (n 5 rfl rfl) T TX TN g5 g4 g3
 have ⟨_, F9⟩ := u zcd 9 rfl rfl
 have g9 := zeL l.prog w base F9 F9.bindA (n 8 rfl rfl) T TX TN
 have ⟨_, F8⟩ := u zdg 8 rfl rfl
 have g8 := zgr l.prog w base F8 F8.bindA (n 7 rfl rfl) T TX TN g0 g6 g9
 have ⟨_, F24⟩ := u zdl 24 rfl rfl
 have g24 := zgw l.prog w base F24 F24.bindA (n 23 rfl rfl) T TX TN g20 g8
 have ⟨_, F21⟩ := u zcG 21 rfl rfl
 have g21 := zfr l.prog w base F21 F21.bindA (n 20 rfl rfl) T TX TN
 have ⟨_, F22⟩ := u zez 22 rfl rfl
 have g22 := zib l.prog w base F22 F22.bindA (n 21 rfl rfl) T TX TN g21
 have ⟨_, F19⟩ := u zc8 19 rfl rfl
 have g19 := zia l.prog w base F19 F19.bindA (n 18 rfl rfl) T TX TN
 have ⟨_, F25⟩ := u zdj 25 rfl rfl
 have g25 := zgu l.prog w base F25 F25.bindA (n 24 rfl rfl) T TX TN g24 g22 g19
 have ⟨_, F15⟩ := u zdh 15 rfl rfl
 have g15 := zgs l.prog w base F15 F15.bindA (n 14 rfl rfl) T TX TN g11
 have ⟨_, F16⟩ := u zeA 16 rfl rfl
 have g16 := zic l.prog w base F16 F16.bindA (n 15 rfl rfl) T TX TN g11 g15
 have ⟨_, F14⟩ := u zdk 14 rfl rfl
 have g14 := zgv l.prog w base F14 F14.bindA (n 13 rfl rfl) T TX TN g11 g12
 have ⟨_, F13⟩ := u zey 13 rfl rfl
 have g13 := zh9 l.prog w base F13 F13.bindA (n 12 rfl rfl) T TX TN g11
 have ⟨_, F17⟩ := u zdi 17 rfl rfl
 have g17 := zgt l.prog w base F17 F17.bindA (n 16 rfl rfl) T TX TN g11 g16 g14 g13
 have ⟨_, F7⟩ := u zdf 7 rfl rfl
 have g7 := zgq l.prog w base F7 F7.bindA (n 6 rfl rfl) T TX TN
 have g26 := ok_Law l.prog w base F26 F26.bindA (n 25 rfl rfl) T TX TN g23 g18 g10 g25 g19 g17 g15 g8 g7
 exact MD.law_fn g26 fun _ h => zjW h
theorem ws : PySem.W.OpenLaw.wellSaid PySem.Challenge.rw_shorthead_k53_heads_written = true := by
 delta PySem.W.OpenLaw.wellSaid
 repeat' (first | with_reducible refine PySem.W.look_both ?_ ?_ | delta PySem.W.OpenRow.wellSaid | delta PySem.W.OpenRow.partSaid | delta PySem.W.looksOpen)
 all_goals decide +kernel
end K53
open PySem PySem.W PyProof.Rows
set_option maxRecDepth 100000 in
theorem PySem.Challenge.cw_shorthead_k53_heads_written_holds : PySem.Challenge.rw_shorthead_k53_heads_written.Holds := by
 w_on
 refine PySem.W.holds_law K53.ws fun said => ?_
 refine PySem.W.holds_openX (q := K53.vw) (loose := []) (Xt := K53.xt) (XP := PySem.W.XL K53.vw []) (Yf := fun s => K53.obs (MD.Kof 313 s.heap)) (Ya := fun _ => K53.expd) (N := 6408) K53.hl (fun s e => PySem.W.xl_of s (Bool.and_eq_true_iff.mp e).1) PySem.W.XL.keeps (by rfl) (by rfl) (by rfl) (fun s e => PySem.W.recFacts_of (Bool.and_eq_true_iff.mp e).2) (by rfl) (by first | assumption | decide +kernel) (by decide +kernel) ⟨rfl, rfl, rfl, rfl, rfl, by decide +kernel⟩ ?hw ?hc
 case hw => w_witness2
 case hc => exact MD.walk_ofY (l := PySem.Challenge.rw_shorthead_k53_heads_written) (n := 63) (k := 14) (x := "_law_script") (CX := L2.CX0) (sp := MD.spLaw) rfl (by decide) rfl ⟨rfl, by decide, by decide, rfl⟩ (fun K y w mg fa h X G hmg => K53.all_mk y X G hmg) (fun _ _ a ns hl _ hS => ⟨a, ns, rfl, hS, hl, fun _ => rfl⟩) fun _ _ _ _ z => z
