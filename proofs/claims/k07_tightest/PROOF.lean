import PyProof.Rows.All
import Wide.All
import OpenK.AllK
import Wide.FinOn
import Lean
import PyProof.EqAt
import PyProof.EqKinds
import PyProof.TupleCall
import PySem.Challenge.RW_shorthead_k07_tightest
set_option maxHeartbeats 16000000
noncomputable section
set_option Elab.async false
set_option linter.all false
set_option maxRecDepth 100000
namespace AutoP
theorem a0 (h : True := by first | exact .inl rfl | exact .inr rfl | assumption) : True := h
theorem a1 (h : True := by decide) : True := h
theorem a2 (h : True := by intro _; rfl) : True := h
theorem a3 (h : True := by rfl) : True := h
theorem a4 (h : True := by with_unfolding_all rfl) : True := h
theorem a5 (h : True := by intro _ _ z; simp [*] at z) : True := h
theorem a6 (h : True := by decide +kernel) : True := h
theorem a7 (h : True := by intro _ _; rfl) : True := h
theorem a8 (h : True := by repeat first | exact aNil_len | refine aCons_len ?_) : True := h
end AutoP
namespace L2
open PySem PySem.Spec PyProof.Rows
abbrev Key := Sum Int Str
def keyIs : Key -> Value -> Bool
 | .inl k, v => Value.isInt k v
 | .inr x, v => Value.isStrOf x v
def keyH (w : World) : Key -> Int
 | .inl k => hashInt k
 | .inr x => hashStr w x
theorem keyIs_shape : ∀ {k : Key} {v : Value}, keyIs k v = true -> (∃ i t, k = Sum.inl i /\ v = Value.int i t) ∨ (∃ x t, k = Sum.inr x /\ v = Value.str x t)
 | .inl i, v, h => by
  obtain ⟨t, e⟩ := Value.isInt_shape (k := i) (v := v) h
  exact .inl ⟨i, t, rfl, e⟩
 | .inr x, v, h => by
  obtain ⟨t, e⟩ := Value.isStrOf_shape (x := x) (v := v) h
  exact .inr ⟨x, t, rfl, e⟩
theorem keyIs_int (i : Int) (t : Tok) : keyIs (.inl i) (.int i t) = true := by simp [keyIs, Value.isInt]
theorem keyIs_str (x : Str) (t : Tok) : keyIs (.inr x) (.str x t) = true := by simp [keyIs, Value.isStrOf]
theorem key_ll (a b : Int) : decide ((Sum.inl a : Key) = Sum.inl b) = (a == b) := by
 by_cases e : a = b
 ·subst e; simp
 ·have h : ¬ (Sum.inl a : Key) = Sum.inl b := fun q => e (Sum.inl.inj q)
  rw [decide_eq_false h]
  exact (beq_eq_false_iff_ne.mpr e).symm
theorem key_rr (a b : Str) : decide ((Sum.inr a : Key) = Sum.inr b) = decide (a = b) := by
 by_cases e : a = b
 ·subst e; simp
 ·have h : ¬ (Sum.inr a : Key) = Sum.inr b := fun q => e (Sum.inr.inj q)
  rw [decide_eq_false h, decide_eq_false e]
theorem key_lr (a : Int) (b : Str) : decide ((Sum.inl a : Key) = Sum.inr b) = false := decide_eq_false (fun q => nomatch q)
theorem key_rl (a : Str) (b : Int) : decide ((Sum.inr a : Key) = Sum.inl b) = false := decide_eq_false (fun q => nomatch q)
def mixKind (prog : Program) (w : World) : PySem.KeyKind prog w Key where
 is := keyIs
 hash := keyH w
 inj := fun v a b ha hb => by
  rcases keyIs_shape ha with ⟨i, t, rfl, rfl⟩ | ⟨x, t, rfl, rfl⟩
  ·rcases keyIs_shape hb with ⟨j, u, rfl, e⟩ | ⟨y, u, rfl, e⟩
   ·injection e with e1 _; rw [e1]
   ·exact nomatch e
  ·rcases keyIs_shape hb with ⟨j, u, rfl, e⟩ | ⟨y, u, rfl, e⟩
   ·exact nomatch e
   ·injection e with e1 _; rw [e1]
 byValue := fun k v h => by
  rcases keyIs_shape h with ⟨i, t, rfl, rfl⟩ | ⟨x, t, rfl, rfl⟩ <;> rfl
 pyHash := fun hv h => by
  rcases keyIs_shape hv with ⟨i, t, rfl, rfl⟩ | ⟨x, t, rfl, rfl⟩
  ·exact wpAny_pyHash_int h
  ·exact wpAny_pyHash_str h
 eqBool := fun hu hv h => by
  rcases keyIs_shape hu with ⟨i, t, rfl, rfl⟩ | ⟨x, t, rfl, rfl⟩
  ·rcases keyIs_shape hv with ⟨j, u, rfl, rfl⟩ | ⟨y, u, rfl, rfl⟩
   ·rw [key_ll] at h; exact wpAny_eqBool_int h
   ·rw [key_lr] at h; exact SeqAt.EqAt.int_str i t y u _ _ _ _ h
  ·rcases keyIs_shape hv with ⟨j, u, rfl, rfl⟩ | ⟨y, u, rfl, rfl⟩
   ·rw [key_rl] at h; exact SeqAt.EqAt.str_int x t j u _ _ _ _ h
   ·rw [key_rr] at h; exact wpAny_eqBool_str h
 «strs» := fun k x t v h => by
  rcases keyIs_shape h with ⟨i, u, rfl, e⟩ | ⟨y, u, rfl, e⟩
  ·exact nomatch e
  ·injection e with e1 _
   subst e1
   cases v <;> rfl
theorem mixKind_int (prog : Program) (w : World) (i : Int) (t : Tok) : (mixKind prog w).is (.inl i) (.int i t) = true := keyIs_int i t
theorem mixKind_str (prog : Program) (w : World) (x : Str) (t : Tok) : (mixKind prog w).is (.inr x) (.str x t) = true := keyIs_str x t
inductive V where
 | non | bl (b : Bool) | int (i : Int) | str (x : Str) | byt (b : Array UInt8) | flt (b : UInt64) | ref (a : Addr) | ty (n : String)
 deriving DecidableEq
def RelV : V -> Value -> Prop
 | .non, u => u = Value.none
 | .bl b, u => u = Value.bool b
 | .int i, u => ∃ t, u = Value.int i t
 | .str x, u => ∃ t, u = Value.str x t
 | .byt b, u => ∃ t, u = Value.bytes b t
 | .flt b, u => ∃ t, u = Value.float b t
 | .ref a, u => u = Value.ref a
 | .ty n, u => u = Value.type n
abbrev Vals : List V -> List Value -> Prop := Paired RelV
theorem Vals.length {xs : List V} {us : List Value} (r : Vals xs us) : xs.length = us.length := Paired.length r
theorem Vals.get : ∀ {xs : List V} {us : List Value} {i : Nat} {x : V}, Vals xs us -> xs[i]? = some x -> ∃ u, us[i]? = some u /\ RelV x u
 | _, _, _, _, .nil, e => by simp at e
 | _, _, 0, _, .cons r _, e => by simp at e; subst e; exact ⟨_, rfl, r⟩
 | _, _, i + 1, x, .cons _ t, e => by
  obtain ⟨u, h1, h2⟩ := Vals.get (i := i) (x := x) t (by simpa using e)
  exact ⟨u, by simpa using h1, h2⟩
theorem Vals.set {x : V} {u : Value} (r : RelV x u) : ∀ {xs : List V} {us : List Value} (i : Nat), Vals xs us -> Vals (xs.set i x) (us.set i u)
 | _, _, _, .nil => .nil
 | _, _, 0, .cons _ t => .cons r t
 | _, _, i + 1, .cons q t => .cons q (Vals.set r i t)
theorem Vals.append : ∀ {xs ys : List V} {us ws : List Value}, Vals xs us -> Vals ys ws -> Vals (xs ++ ys) (us ++ ws)
 | _, _, _, _, .nil, s => s
 | _, _, _, _, .cons r t, s => .cons r (Vals.append t s)
def RelO : Option V -> Option Value -> Prop
 | some v, some u => RelV v u
 | none, none => True
 | _, _ => False
def KV {κ : Type} : List (κ × V) -> List (κ × Value) -> Prop := Paired fun (p : κ × V) (q : κ × Value) => p.1 = q.1 /\ RelV p.2 q.2
def kV : Key -> V
 | .inl i => .int i
 | .inr x => .str x
inductive HO where
 | lst (xs : List V)
 | tup (xs : List V)
 | dK (kvs : List (Key × V)) | dT (kvs : List (List Key × V))
 | set (S : Int -> Bool) (n : Nat)
 | ins (C dx : Addr) (fs : List (Str × V))
 | own (x : Addr)
 | xd (fs : List (Str × V))
 | met (f x : Addr)
 | rng (lo hi : Int)
 | frz (o : Obj) (u : HO)
 | tbl (ps : Array Value)
 | ext (φ : Heap -> Prop)
abbrev Hp := Addr -> Option HO
def upd (H : Hp) (a : Addr) (o : HO) : Hp := fun b => if b = a then some o else H b
theorem upd_same {H : Hp} {a : Addr} {o : HO} : upd H a o a = some o := by unfold upd; rw [if_pos rfl]
theorem upd_ne {H : Hp} {a b : Addr} {o : HO} (h : b ≠ a) : upd H a o b = H b := by unfold upd; rw [if_neg h]
theorem ne_of_none {H : Hp} {a b : Addr} {o : HO} (h : H a = some o) (h' : H b = none) : a ≠ b := by
 intro e; subst e; rw [h] at h'; cases h'
section
variable (P : Program) (w : World)
def NoD (h : Heap) (a : Addr) : Prop := ∃ o, h.get? a = some o /\ o.dict = none
def ObjOk (H : Hp) (h : Heap) (a : Addr) : HO -> Prop
 | .lst xs => xs.length <= sizeLine /\ ∃ (its : List Value) (n : Nat), Vals xs its /\ h.get? a = some { cls := .type "list", data := .seq its.toArray n }
 | .tup xs => xs.length <= sizeLine /\ ∃ its : List Value, Vals xs its /\ IsTup h a its.toArray /\ NoD h a
 | .dK kvs => kvs.length <= sizeLine /\ (a == sysModules) = false /\ ∃ vs, KV kvs vs /\ h.DictOf (mixKind P w) a vs
 | .dT kvs => kvs.length <= sizeLine /\ (a == sysModules) = false /\ ∃ xs : List (List Key × Addr × Value),
   Paired (fun (p : List Key × V) (q : List Key × Addr × Value) => p.1 = q.1 /\ H q.2.1 = some (.tup (p.1.map kV)) /\ RelV p.2 q.2.2) kvs xs ∧
   ∃ o es ep, h.get? a = some o /\ o.ExactDict /\ o.data = .dict es ep /\ es.toList = xs.map (entryOfKey (tupleKind (mixKind P w))) /\ (xs.map (·.1)).Nodup
 | .set S n => h.SetOf (intKind P w) a S n
 | .ins C dx fs => H dx = some (.own a) /\ fs.length <= 1000 /\ dx ≠ a /\ h.get? a = some (PySem.W.instObj C dx) ∧
   ∃ mA, h.Ns1 dx mA /\ (∀ f, RelO (fs.lookup f) (mA f)) /\ PySem.Within mA (fs.map (·.1))
 | .own _ => ∃ o, h.get? a = some o
 | .xd fs => ∃ mA, h.Ns1 a mA /\ ∀ f, RelO (fs.lookup f) (mA f)
 | .rng lo hi => ∃ t u v, h.get? a = some { cls := .type "range", data := .fields #[.int lo t, .int hi u, .int 1 v] }
 | .frz o u => h.get? a = some o /\ ObjOk H h a u
 | .tbl ps => h.get? a = some { cls := .none, data := .fields ps }
 | .met f x => h.get? a = some (PySem.W.methodObj (.ref f) (.ref x))
 | .ext φ => φ h /\ (∃ o, h.get? a = some o) /\ ∀ h1 h2 : Heap, φ h1 -> (∀ o, h1.get? a = some o -> h2.get? a = some o) -> φ h2
def HOk (H : Hp) (h : Heap) : Prop := ∀ a o, H a = some o -> ObjOk P w H h a o
end
section
variable {P : Program} {w : World} {H H' : Hp} {h h' : Heap} {a : Addr} {o : HO}
theorem ObjOk.lt (x : ObjOk P w H h a o) : a < h.objs.size := by
 cases o with
 | lst xs => obtain ⟨_, _, _, _, e⟩ := x; exact Heap.lt_size e
 | tup xs => obtain ⟨_, _, _, p, _⟩ := x; exact p.lt
 | dK kvs => obtain ⟨_, _, _, _, o, _, _, e, _⟩ := x; exact Heap.lt_size e
 | dT kvs => obtain ⟨_, _, _, _, o, _, _, e, _⟩ := x; exact Heap.lt_size e
 | set S n => obtain ⟨o, _, _, _, e, _⟩ := x; exact Heap.lt_size e
 | ins C dx fs => obtain ⟨_, _, _, e, _⟩ := x; exact Heap.lt_size e
 | own y => obtain ⟨_, e⟩ := x; exact Heap.lt_size e
 | xd fs => obtain ⟨_, ⟨_, _, _, e, _⟩, _⟩ := x; exact Heap.lt_size e
 | rng lo hi => obtain ⟨_, _, _, e⟩ := x; exact Heap.lt_size e
 | frz ob u => obtain ⟨e, _⟩ := x; exact Heap.lt_size e
 | tbl ps => exact Heap.lt_size (show h.get? a = some _ from x)
 | met f y => exact Heap.lt_size (show h.get? a = some _ from x)
 | ext φ => obtain ⟨_, ⟨_, e⟩, _⟩ := x; exact Heap.lt_size e
theorem Paired.mapP {α β : Type} {F G : α -> β -> Prop} : ∀ {l₁ : List α} {l₂ : List β}, Paired F l₁ l₂ -> (∀ a b, F a b -> G a b) -> Paired G l₁ l₂
 | _, _, .nil, _ => .nil
 | _, _, .cons r t, f => .cons (f _ _ r) (Paired.mapP t f)
theorem ObjOk.stay (x : ObjOk P w H h a o) (k : ∀ b u, (b = a ∨ H b = some (.own a)) -> h.get? b = some u -> h'.get? b = some u)
  (ho : ∀ b, H b = some (.own a) -> H' b = some (.own a)) (ht : ∀ b xs, H b = some (.tup xs) -> H' b = some (.tup xs)) : ObjOk P w H' h' a o := by
 induction o with
 | lst xs => obtain ⟨z, its, n, r, e⟩ := x; exact ⟨z, its, n, r, k _ _ (.inl rfl) e⟩
 | tup xs => obtain ⟨z, its, r, ⟨ob, e, c⟩, od, ed, dn⟩ := x; exact ⟨z, its, r, ⟨ob, k _ _ (.inl rfl) e, c⟩, od, k _ _ (.inl rfl) ed, dn⟩
 | dK kvs => obtain ⟨z, y, vs, r, ob, es, ep, e, c⟩ := x; exact ⟨z, y, vs, r, ob, es, ep, k _ _ (.inl rfl) e, c⟩
 | dT kvs =>
  obtain ⟨z, y, xs, r, ob, es, ep, e, c⟩ := x
  exact ⟨z, y, xs, Paired.mapP r fun p q z => ⟨z.1, ht _ _ z.2.1, z.2.2⟩, ob, es, ep, k _ _ (.inl rfl) e, c⟩
 | set S n => obtain ⟨ob, es, ep, t, e, c⟩ := x; exact ⟨ob, es, ep, t, k _ _ (.inl rfl) e, c⟩
 | ins C dx fs =>
  obtain ⟨d, z, ne, e, mA, ⟨od, es, ep, e2, c⟩, r⟩ := x
  exact ⟨ho _ d, z, ne, k _ _ (.inl rfl) e, mA, ⟨od, es, ep, k _ _ (.inr d) e2, c⟩, r⟩
 | own y => obtain ⟨ob, e⟩ := x; exact ⟨ob, k _ _ (.inl rfl) e⟩
 | xd fs => obtain ⟨mA, ⟨od, es, ep, e, c⟩, r⟩ := x; exact ⟨mA, ⟨od, es, ep, k _ _ (.inl rfl) e, c⟩, r⟩
 | rng lo hi => obtain ⟨t, u, v, e⟩ := x; exact ⟨t, u, v, k _ _ (.inl rfl) e⟩
 | frz ob u ih => obtain ⟨e, q⟩ := x; exact ⟨k _ _ (.inl rfl) e, ih q⟩
 | tbl ps =>
  have e : h.get? a = some { cls := .none, data := .fields ps } := x
  show h'.get? a = some { cls := .none, data := .fields ps }
  exact k a _ (.inl rfl) e
 | met f y =>
  have e : h.get? a = some (PySem.W.methodObj (.ref f) (.ref y)) := x
  show h'.get? a = some (PySem.W.methodObj (.ref f) (.ref y))
  exact k a _ (.inl rfl) e
 | ext φ => obtain ⟨p, ⟨o, e⟩, st⟩ := x; exact ⟨st _ _ p fun o q => k _ _ (.inl rfl) q, ⟨o, k _ _ (.inl rfl) e⟩, st⟩
theorem HOk.lt (x : HOk P w H h) (e : H a = some o) : a < h.objs.size := (x a o e).lt
theorem HOk.fresh (x : HOk P w H h) (e : h.objs.size <= a) : H a = none := by
 cases q : H a with
 | none => rfl
 | some u => exact absurd (Nat.lt_of_lt_of_le (x.lt q) e) (Nat.lt_irrefl _)
theorem HOk.kept (x : HOk P w H h) (k : ∀ b u, h.get? b = some u -> h'.get? b = some u) : HOk P w H h' := fun a o e =>
 (x a o e).stay (fun b u _ q => k b u q) (fun _ q => q) fun _ _ q => q
theorem HOk.laid (x : HOk P w H h) (k : ∀ b u, h.get? b = some u -> h'.get? b = some u) (hp : h.objs.size <= a) (new : ObjOk P w (upd H a o) h' a o) : HOk P w (upd H a o) h' := fun b u e => by
 have hn := x.fresh hp
 by_cases hb : b = a
 ·subst hb; rw [upd_same] at e; cases e; exact new
 ·rw [upd_ne hb] at e
  exact (x b u e).stay (fun c v _ q => k c v q) (fun c q => by rw [upd_ne (ne_of_none q hn)]; exact q) fun c xs q => by rw [upd_ne (ne_of_none q hn)]; exact q
end
def Rd (H : Hp) (a : Addr) (u : HO) : Prop := H a = some u ∨ ∃ o, H a = some (.frz o u)
theorem Rd.ok {P : Program} {w : World} {H : Hp} {h : Heap} {a : Addr} {u : HO} (r : Rd H a u) (x : HOk P w H h) : ObjOk P w H h a u := by
 rcases r with r | ⟨o, r⟩
 ·exact x a u r
 ·obtain ⟨_, q⟩ := x a _ r
  exact q
def Mut : Option HO -> Prop
 | some (.lst _) => True
 | some (.dK _) => True
 | some (.dT _) => True
 | some (.set _ _) => True
 | some (.ins _ _ _) => True
 | some (.ext _) => True
 | _ => False
section
variable {P : Program} {w : World} {H : Hp} {h h' : Heap} {x e : Addr} {o' : HO}
theorem HOk.write (ok : HOk P w H h) (mu : Mut (H x)) (he : e = x ∨ H e = some (.own x)) (k : ∀ b u, b ≠ e -> h.get? b = some u -> h'.get? b = some u) (heo : ∃ u, h'.get? e = some u)
  (new : ObjOk P w (upd H x o') h' x o') : HOk P w (upd H x o') h' := fun b u q => by
 have nown : ∀ c y, H c = some (.own y) -> c ≠ x := fun c y r z => by subst z; rw [r] at mu; exact mu
 have ntup : ∀ c xs, H c = some (.tup xs) -> c ≠ x := fun c xs r z => by subst z; rw [r] at mu; exact mu
 by_cases hb : b = x
 ·subst hb; rw [upd_same] at q; cases q; exact new
 ·rw [upd_ne hb] at q
  by_cases hbe : b = e
  ·have q' : H b = some (.own x) := by
    rcases he with z | z
    ·exact absurd (hbe.trans z) hb
    ·rw [hbe]; exact z
   rw [q] at q'; cases q'
   obtain ⟨v, hv⟩ := heo
   exact ⟨v, by rw [hbe]; exact hv⟩
  ·refine (ok b u q).stay (fun c v hc r => k c v ?_ r) (fun c r => by rw [upd_ne (nown c b r)]; exact r) fun c xs r => by rw [upd_ne (ntup c xs r)]; exact r
   rcases hc with rfl | hc
   ·exact hbe
   ·rintro rfl
    rcases he with z | z
    ·exact nown c b hc z
    ·rw [hc] at z; cases z; exact hb rfl
end
structure Un (fs ex : List Addr) (H H' : Hp) (h h' : Heap) : Prop where
 keep : ∀ b o, h.get? b = some o -> H b = none -> b ∉ fs -> b ∉ ex -> h'.get? b = some o
 slot : ∀ b o, h.get? b = some o -> H b = none -> b ∈ fs -> b ∉ ex -> ∃ sl, h'.get? b = some { o with slots := sl }
 free : ∀ b o, h.get? b = some o -> H b = none -> b ∉ ex -> H' b = none
 there : ∀ b o, h.get? b = some o -> b ∉ ex -> ∃ o', h'.get? b = some o'
 tups : ∀ b xs, H b = some (.tup xs) -> H' b = some (.tup xs)
 frzs : ∀ b o u, H b = some (.frz o u) -> H' b = some (.frz o u)
 tbls : ∀ b ps, H b = some (.tbl ps) -> ∃ more, H' b = some (.tbl (ps ++ more))
section
variable {fs fs' ex ex' : List Addr} {H H1 H2 : Hp} {h h1 h2 h' : Heap} {a x e : Addr} {o : HO}
theorem Un.any (u : Un fs ex H H1 h h1) {b : Addr} {ob : Obj} (q : h.get? b = some ob) (n : H b = none) (hx : b ∉ ex) : ∃ sl, h1.get? b = some { ob with slots := sl } := by
 by_cases hb : b ∈ fs
 ·exact u.slot b ob q n hb hx
 ·exact ⟨ob.slots, u.keep b ob q n hb hx⟩
theorem Un.kept (k : ∀ b u, h.get? b = some u -> h'.get? b = some u) : Un fs ex H H h h' :=
 ⟨fun b ob q _ _ _ => k b ob q, fun b ob q _ _ _ => ⟨ob.slots, k b ob q⟩, fun _ _ _ n _ => n, fun b ob q _ => ⟨ob, k b ob q⟩, fun _ _ q => q, fun _ _ _ q => q, fun _ ps q => ⟨#[], by rw [q]; simp⟩⟩
theorem Un.refl : Un fs ex H H h h := Un.kept fun _ _ q => q
theorem Un.laid (k : ∀ b u, h.get? b = some u -> h'.get? b = some u) (hp : h.objs.size <= a) (hn : H a = none) : Un fs ex H (upd H a o) h h' where
 keep := fun b u q _ _ _ => k b u q
 slot := fun b u q _ _ _ => ⟨u.slots, k b u q⟩
 free := fun b u q n _ => by rw [upd_ne (Nat.ne_of_lt (Nat.lt_of_lt_of_le (Heap.lt_size q) hp))]; exact n
 there := fun b u q _ => ⟨u, k b u q⟩
 tups := fun b xs q => by rw [upd_ne (ne_of_none q hn)]; exact q
 frzs := fun b u xs q => by rw [upd_ne (ne_of_none q hn)]; exact q
 tbls := fun b ps q => ⟨#[], by rw [upd_ne (ne_of_none q hn), q]; simp⟩
theorem Un.write (mu : Mut (H x)) (he : e = x ∨ H e = some (.own x)) (k : ∀ b u, b ≠ e -> h.get? b = some u -> h'.get? b = some u) (heo : ∃ u, h'.get? e = some u) : Un fs ex H (upd H x o) h h' := by
 have hx : ∀ b, H b = none -> b ≠ x := fun b n z => by subst z; rw [n] at mu; exact mu
 have hb : ∀ b, H b = none -> b ≠ e := fun b n z => by
  subst z
  rcases he with r | r
  ·exact hx b n r
  ·rw [n] at r; cases r
 have hm : ∀ b u, H b = some u -> ¬ Mut (some u) -> b ≠ x := fun b u q nm z => by subst z; rw [q] at mu; exact nm mu
 refine ⟨fun b u q n _ _ => k b u (hb b n) q, fun b u q n _ _ => ⟨u.slots, k b u (hb b n) q⟩, fun b u q n _ => by rw [upd_ne (hx b n)]; exact n, fun b u q _ => ?_,
  fun b xs q => by rw [upd_ne (hm b _ q fun z => z)]; exact q, fun b u xs q => by rw [upd_ne (hm b _ q fun z => z)]; exact q, fun b ps q => ⟨#[], by rw [upd_ne (hm b _ q fun z => z), q]; simp⟩⟩
 by_cases hbe : b = e
 ·subst hbe; exact heo
 ·exact ⟨u, k b u hbe q⟩
end
def trk (h : Heap) (H : Hp) : List Addr := (List.range h.objs.size).filter fun a => (H a).isSome
def hidT (h : Heap) (H : Hp) : Heap := PySem.W.hideAll h (trk h H)
theorem hidT_size (h : Heap) (H : Hp) : (hidT h H).objs.size = h.objs.size := PySem.W.hideAll_size _ _
theorem hidT_get {h : Heap} {H : Hp} {b : Addr} {o : Obj} (e : h.get? b = some o) (n : H b = none) : (hidT h H).get? b = some o :=
 PySem.W.hideAll_get _ e fun hm => by
  have q : (H b).isSome = true := (List.mem_filter.mp hm).2
  rw [n] at q; simp at q
theorem of_hidT {h : Heap} {H : Hp} {b : Addr} {o : Obj} (e : (hidT h H).get? b = some o) : h.get? b = some o /\ H b = none := by
 have e' : h.get? b = some o := PySem.W.of_hideAll (trk h H) e
 refine ⟨e', ?_⟩
 cases q : H b with
 | none => rfl
 | some x =>
  have hm : b ∈ trk h H := List.mem_filter.mpr ⟨List.mem_range.mpr (Heap.lt_size e'), by simp [q]⟩
  have z : (hidT h H).get? b = none := PySem.W.hideAll_none (trk h H) hm
  rw [z] at e; cases e
structure Mod (K : PySem.W.Frag) (mg : Str -> Option Value) (base : Heap) : Prop where
 kin : K.In base
 glob : base.Ns mainGlobals mg
 blt : ∃ mb, base.Ns builtinsNs mb /\ ∀ x : Str, x ≠ "__name__" -> mb x = bootBuiltins x
 nolimit : base.NoLimit
structure Cx where
 prog : Program
 w : World
 K : PySem.W.Frag
 mg : Str -> Option Value
 base : Heap
 A : Around
 N : List Str
 s₀ : Shared
 H₀ : Hp
 env : Env
 outer : List Env
 stack : List Env
 ex : List Addr
 fn : Str -> Bool
 calm : Bool
 pn : List (Addr × Obj)
 xe : Value -> Shared -> Prop
def frs (l : List Env) : List Addr := l.filterMap (·.frame)
abbrev Cx.fs (X : Cx) : List Addr := frs X.outer
def Vis (sc : Scope) (x : Str) : Prop := sc.names.lookup x = some .local ∨ sc.names.lookup x = some .cell ∨ sc.names.lookup x = some .free
def Loc (sc : Scope) (x : Str) : Prop := sc.names.lookup x = some .local ∨ sc.names.lookup x = some .cell
def Look (env : Env) (h : Heap) (m : Str -> Option Value) (x : Str) (u : Value) : Prop :=
 (env.kindOf x = some .local /\ m x = some u) ∨ ((env.kindOf x = some .cell ∨ env.kindOf x = some .free) /\ ∃ c, env.cells.lookup x = some c /\ h.IsCell c (some u))
structure Cx.Ok (X : Cx) : Prop where
 mod : Mod X.K X.mg X.base
 kind : X.env.scope.kind = .function
 glob : X.env.globals = mainGlobals
 blt : X.env.builtins = builtinsNs
 above : X.s₀.heap.objs.size <= X.env.locals
 inj : ∀ x y c, X.env.cells.lookup x = some c -> X.env.cells.lookup y = some c -> x = y
 has : ∀ x, (X.env.kindOf x = some .cell ∨ X.env.kindOf x = some .free) -> ∃ c, X.env.cells.lookup x = some c
 cab : ∀ x c, X.fn x = true -> X.env.cells.lookup x = some c -> X.s₀.heap.objs.size <= c
 hd : X.calm = true -> X.A.handled = none
 frames : X.A.frames = some X.stack
 stk : X.stack = X.outer ∨ (X.stack = X.env :: X.outer /\ X.env.frame = some X.env.locals)
 exf : ∀ b ∈ X.ex, b ≠ X.env.locals /\ ∀ x c, X.env.cells.lookup x = some c -> c ≠ b
 bs : ∀ b o, X.base.get? b = some o -> X.s₀.heap.get? b = some o /\ X.H₀ b = none
 bsz : X.base.objs.size <= X.s₀.heap.objs.size
 noex : ∀ b o, X.base.get? b = some o -> b ∉ X.ex
 exfs : ∀ b ∈ X.ex, b ∉ X.fs
 funs : X.s₀.heap.FunFrames X.base X.outer
 frf : ∀ b ∈ X.fs, X.H₀ b = none
structure Inv (X : Cx) (pins : List (Addr × Obj)) (σ : List (Option V)) (H : Hp) (s : Shared) : Prop where
 ok : X.Ok
 os : s.os = X.s₀.os
 bare : AllBare s.gens
 base : Un X.fs X.ex X.H₀ H X.s₀.heap s.heap
 loc : ∃ m, s.heap.Ns X.env.locals m /\ ∀ (i : Nat) (x : Str) (v : V), X.N[i]? = some x -> σ[i]? = some (some v) -> Vis X.env.scope x -> ∃ u, RelV v u /\ Look X.env s.heap m x u
 cell : ∀ x c, X.env.cells.lookup x = some c -> ∃ v, s.heap.IsCell c v
 free : H X.env.locals = none
 freeC : ∀ x c, X.env.cells.lookup x = some c -> H c = none
 pin : ∀ p ∈ X.pn ++ pins, s.heap.get? p.1 = some p.2 /\ H p.1 = none /\ p.1 ≠ X.env.locals /\ p.1 ∉ X.fs /\ ∀ v, p.2.data ≠ .cell v
 hok : HOk X.prog X.w H s.heap
 len : σ.length = X.N.length
section
variable {X : Cx} {pins : List (Addr × Obj)} {σ : List (Option V)} {H H' : Hp} {s : Shared} {h' : Heap}
theorem Cx.Ok.nofr (ok : X.Ok) {b : Addr} {o : Obj} (e : X.base.get? b = some o) : b ∉ X.fs := fun hb => by
 have := (ok.funs.mem hb).1
 rw [e] at this; cases this
theorem Inv.bs (I : Inv X pins σ H s) : ∀ b o, X.base.get? b = some o -> s.heap.get? b = some o /\ H b = none := fun b o e =>
 ⟨I.base.keep b o (I.ok.bs b o e).1 (I.ok.bs b o e).2 (I.ok.nofr e) (I.ok.noex b o e), I.base.free b o (I.ok.bs b o e).1 (I.ok.bs b o e).2 (I.ok.noex b o e)⟩
theorem Inv.bk (I : Inv X pins σ H s) : ∀ b o, X.base.get? b = some o -> s.heap.get? b = some o := fun b o e => (I.bs b o e).1
theorem Inv.mod (I : Inv X pins σ H s) : Mod X.K X.mg X.base := I.ok.mod
theorem Inv.kIn (I : Inv X pins σ H s) : X.K.In s.heap := I.ok.mod.kin.keeps I.bk
theorem Inv.lt (I : Inv X pins σ H s) : X.env.locals < s.heap.objs.size := let ⟨_, hn, _⟩ := I.loc; hn.lt
theorem Inv.sz (I : Inv X pins σ H s) : X.s₀.heap.objs.size <= s.heap.objs.size := Nat.le_trans I.ok.above (Nat.le_of_lt I.lt)
theorem Inv.nofs (I : Inv X pins σ H s) {a : Addr} (h : s.heap.objs.size <= a) : a ∉ X.fs := fun hb => by
 obtain ⟨_, o, ho, _⟩ := I.ok.funs.mem hb
 exact absurd (Nat.lt_of_lt_of_le (Heap.lt_size ho) (Nat.le_trans I.sz h)) (Nat.lt_irrefl _)
theorem Inv.cne (I : Inv X pins σ H s) : ∀ x c, X.env.cells.lookup x = some c -> c ≠ X.env.locals := fun x c e z => by
 obtain ⟨v, o, ho, hd⟩ := I.cell x c e
 obtain ⟨m, ⟨o', es, ep, ho', hd', _⟩, _⟩ := I.loc
 rw [z, ho'] at ho; cases ho; rw [hd'] at hd; cases hd
theorem Inv.funs (I : Inv X pins σ H s) : s.heap.FunFrames X.base X.outer := by
 have all : ∀ (l : List Env), (∀ b ∈ frs l, b ∈ X.fs) -> X.s₀.heap.FunFrames X.base l -> s.heap.FunFrames X.base l := by
  intro l
  induction l with
  | nil => intro _ _; trivial
  | cons env r ih =>
   intro hs hl
   obtain ⟨hk, ⟨L, o, hf, hn, ho, hd⟩, hr⟩ := hl
   have hL : L ∈ X.fs := hs L (by unfold frs; rw [List.filterMap_cons, hf]; exact List.mem_cons_self)
   obtain ⟨sl, e⟩ := I.base.slot L o ho (I.ok.frf L hL) hL fun z => I.ok.exfs L z hL
   exact ⟨hk, ⟨L, _, hf, hn, e, hd⟩, ih (fun b hb => hs b (by unfold frs; rw [List.filterMap_cons, hf]; exact List.mem_cons_of_mem _ hb)) hr⟩
 exact all X.outer (fun _ hb => hb) I.ok.funs
theorem Inv.stack (I : Inv X pins σ H s) : s.heap.FunFrames X.base X.stack := by
 rcases I.ok.stk with e | ⟨e, hf⟩
 ·rw [e]; exact I.funs
 ·rw [e]
  obtain ⟨m, hn, _⟩ := I.loc
  refine .cons (by rw [I.ok.kind]; decide) hf hn ?_ I.funs
  exact Heap.get?_none_of_le (Nat.le_trans I.ok.bsz I.ok.above)
theorem Inv.stkSub (I : Inv X pins σ H s) : ∀ b ∈ frs X.stack, b ∈ X.env.locals :: X.fs := fun b hb => by
 rcases I.ok.stk with e | ⟨e, hf⟩
 ·rw [e] at hb; exact List.mem_cons_of_mem _ hb
 ·rw [e] at hb
  unfold frs at hb
  rw [List.filterMap_cons, hf] at hb
  exact hb
theorem Inv.stkFree (I : Inv X pins σ H s) : ∀ b ∈ frs X.stack, H b = none := fun b hb => by
 rcases List.mem_cons.mp (I.stkSub b hb) with e | hb
 ·rw [e]; exact I.free
 ·obtain ⟨_, o, ho, _⟩ := I.ok.funs.mem hb
  exact I.base.free b o ho (I.ok.frf b hb) fun z => I.ok.exfs b z hb
theorem Inv.step {g' : Array GenState} {t' : Nat} {d' : Drawn} {ch : List Addr} (I : Inv X pins σ H s)
  (hch : ∀ b ∈ ch, (b ∈ X.ex ∨ X.s₀.heap.objs.size <= b) /\ b ≠ X.env.locals /\ (∀ x c, X.env.cells.lookup x = some c -> c ≠ b) /\ ∀ p ∈ X.pn ++ pins, p.1 ≠ b)
  (keep : ∀ b o, b ≠ X.env.locals -> b ∉ X.fs -> b ∉ ch -> s.heap.get? b = some o -> H b = none -> h'.get? b = some o)
  (slot : ∀ b o, b ≠ X.env.locals -> b ∈ X.fs -> b ∉ ch -> s.heap.get? b = some o -> H b = none -> ∃ sl, h'.get? b = some { o with slots := sl }) (free : ∀ b o, b ∉ ch -> s.heap.get? b = some o -> H b = none -> H' b = none)
  (there : ∀ b o, b ∉ ch -> s.heap.get? b = some o -> ∃ o', h'.get? b = some o')
  (tups : ∀ b xs, H b = some (.tup xs) -> H' b = some (.tup xs)) (frzs : ∀ b o u, H b = some (.frz o u) -> H' b = some (.frz o u)) (tbls : ∀ b ps, H b = some (.tbl ps) -> ∃ more, H' b = some (.tbl (ps ++ more)))
  (ns : ∀ m, s.heap.Ns X.env.locals m -> h'.Ns X.env.locals m) (hok : HOk X.prog X.w H' h') (hg : AllBare g') :
  Inv X pins σ H' { s with heap := h', gens := g', drawn := d', toks := t' } := by
 have neL : ∀ b o, X.s₀.heap.get? b = some o -> b ≠ X.env.locals := fun b o e => Nat.ne_of_lt (Nat.lt_of_lt_of_le (Heap.lt_size e) I.ok.above)
 have neC : ∀ b o, X.s₀.heap.get? b = some o -> b ∉ X.ex -> b ∉ ch := fun b o e hx hb => by
  rcases (hch b hb).1 with z | z
  ·exact hx z
  ·exact absurd (Nat.lt_of_lt_of_le (Heap.lt_size e) z) (Nat.lt_irrefl _)
 have cellK : ∀ x c, X.env.cells.lookup x = some c -> ∀ v, s.heap.IsCell c v -> h'.IsCell c v := fun x c e v ⟨o, ho, hd⟩ => by
  have nch : c ∉ ch := fun z => (hch c z).2.2.1 x c e rfl
  by_cases hc : c ∈ X.fs
  ·obtain ⟨sl, q⟩ := slot c o (I.cne x c e) hc nch ho (I.freeC x c e)
   exact ⟨_, q, hd⟩
  ·exact ⟨o, keep c o (I.cne x c e) hc nch ho (I.freeC x c e), hd⟩
 refine ⟨I.ok, I.os, hg, ⟨fun b o e n hb hx => ?_, fun b o e n hb hx => ?_, fun b o e n hx => ?_, fun b o e hx => ?_, fun b xs e => tups b xs (I.base.tups b xs e), fun b o xs e => frzs b o xs (I.base.frzs b o xs e), fun b ps e => ?_⟩, ?_, fun x c e => ?_, ?_, fun x c e => ?_, fun p hp => ?_, hok, I.len⟩
 ·exact keep b o (neL b o e) hb (neC b o e hx) (I.base.keep b o e n hb hx) (I.base.free b o e n hx)
 ·obtain ⟨sl, e1⟩ := I.base.slot b o e n hb hx
  obtain ⟨sl', e2⟩ := slot b _ (neL b o e) hb (neC b o e hx) e1 (I.base.free b o e n hx)
  exact ⟨sl', e2⟩
 ·obtain ⟨o', e1⟩ := I.base.there b o e hx
  exact free b o' (neC b o e hx) e1 (I.base.free b o e n hx)
 ·obtain ⟨o', e1⟩ := I.base.there b o e hx
  exact there b o' (neC b o e hx) e1
 ·obtain ⟨m1, e1⟩ := I.base.tbls b ps e
  obtain ⟨m2, e2⟩ := tbls b _ e1
  exact ⟨m1 ++ m2, by rw [e2, Array.append_assoc]⟩
 ·obtain ⟨m, hn, hl⟩ := I.loc
  refine ⟨m, ns m hn, fun i x v e1 e2 e3 => ?_⟩
  obtain ⟨u, r, l⟩ := hl i x v e1 e2 e3
  refine ⟨u, r, ?_⟩
  rcases l with l | ⟨k, c, e, z⟩
  ·exact .inl l
  ·exact .inr ⟨k, c, e, cellK x c e _ z⟩
 ·obtain ⟨v, z⟩ := I.cell x c e
  exact ⟨v, cellK x c e v z⟩
 ·obtain ⟨m, ⟨o, _, _, ho, _⟩, _⟩ := I.loc
  exact free _ o (fun z => (hch _ z).2.1 rfl) ho I.free
 ·obtain ⟨v, o, ho, hd⟩ := I.cell x c e
  exact free c o (fun z => (hch c z).2.2.1 x c e rfl) ho (I.freeC x c e)
 ·obtain ⟨e, n, ne, nf, d⟩ := I.pin p hp
  have nch : p.1 ∉ ch := fun z => (hch p.1 z).2.2.2 p hp rfl
  exact ⟨keep p.1 p.2 ne nf nch e n, free p.1 p.2 nch e n, ne, nf, d⟩
theorem Inv.un {t' : Nat} (I : Inv X pins σ H s) (u : Un X.fs [] H H' s.heap h') (hok : HOk X.prog X.w H' h') : Inv X pins σ H' { s with heap := h', toks := t' } := by
 obtain ⟨m, ⟨o, es, ep, ho, r⟩, _⟩ := id I.loc
 obtain ⟨sl, hL⟩ := u.any ho I.free (by simp)
 exact I.step (g' := s.gens) (d' := s.drawn) (ch := []) (fun _ z => nomatch z) (fun b o _ hb _ e n => u.keep b o e n hb (by simp)) (fun b o _ hb _ e n => u.slot b o e n hb (by simp)) (fun b o _ e n => u.free b o e n (by simp)) (fun b o _ e => u.there b o e (by simp)) u.tups u.frzs u.tbls (fun m' hm => by
  obtain ⟨o', es', ep', ho', r'⟩ := hm
  rw [ho] at ho'; cases ho'
  exact ⟨_, es', ep', hL, r'⟩) hok I.bare
theorem Inv.call {g' : Array GenState} {t' : Nat} {d' : Drawn} {ch : List Addr} (I : Inv X pins σ H s) (u : Un (frs X.stack) ch H H' s.heap h') (hok : HOk X.prog X.w H' h') (hg : AllBare g')
  (hch : ∀ b ∈ ch, (b ∈ X.ex ∨ X.s₀.heap.objs.size <= b) /\ b ≠ X.env.locals /\ (∀ x c, X.env.cells.lookup x = some c -> c ≠ b) /\ ∀ p ∈ X.pn ++ pins, p.1 ≠ b) :
  Inv X pins σ H' { s with heap := h', gens := g', drawn := d', toks := t' } := by
 obtain ⟨m, ⟨o, es, ep, ho, r⟩, _⟩ := id I.loc
 obtain ⟨sl, hL⟩ := u.any ho I.free fun z => (hch _ z).2.1 rfl
 exact I.step (ch := ch) hch (fun b o hL hb hc e n => u.keep b o e n (fun z => (List.mem_cons.mp (I.stkSub b z)).elim hL hb) hc) (fun b o _ _ hc e n => u.any e n hc) (fun b o hc e n => u.free b o e n hc) (fun b o hc e => u.there b o e hc) u.tups u.frzs u.tbls (fun m' hm => by
  obtain ⟨o', es', ep', ho', r'⟩ := hm
  rw [ho] at ho'; cases ho'
  exact ⟨_, es', ep', hL, r'⟩) hok hg
theorem Inv.turned {t' : Nat} {it : Addr} (I : Inv X pins σ H s) (k : ∀ b o, b ≠ it -> s.heap.get? b = some o -> h'.get? b = some o) (hn : H it = none) (hL : it ≠ X.env.locals)
  (h1 : it ∈ X.ex ∨ X.s₀.heap.objs.size <= it) (h2 : ∀ x c, X.env.cells.lookup x = some c -> c ≠ it) (h3 : ∀ p ∈ X.pn ++ pins, p.1 ≠ it) : Inv X pins σ H { s with heap := h', toks := t' } := by
 have nit : ∀ b u, H b = some u -> b ≠ it := fun b u e z => by rw [z, hn] at e; cases e
 refine I.step (g' := s.gens) (d' := s.drawn) (ch := [it]) (fun b hb => ?_) (fun b o _ _ hc e _ => k b o (fun z => hc (by simp [z])) e) (fun b o _ _ hc e _ => ⟨o.slots, k b o (fun z => hc (by simp [z])) e⟩) (fun _ _ _ _ n => n)
  (fun b o hc e => ⟨o, k b o (fun z => hc (by simp [z])) e⟩) (fun _ _ e => e) (fun _ _ _ e => e) (fun b ps e => ⟨#[], by rw [e]; simp⟩) (fun m hm => ?_) (fun b u e => ?_) I.bare
 ·have e : b = it := by simpa using hb
  subst e
  exact ⟨h1, hL, h2, h3⟩
 ·obtain ⟨o, es, ep, ho, r⟩ := hm
  exact ⟨o, es, ep, k _ o (Ne.symm hL) ho, r⟩
 ·refine (I.hok b u e).stay (fun c v hc q => k c v ?_ q) (fun _ q => q) fun _ _ q => q
  rcases hc with z | z
  ·rw [z]; exact nit b u e
  ·exact nit c _ z
theorem Inv.tok (I : Inv X pins σ H s) (t : Nat) : Inv X pins σ H { s with toks := t } := I.un (h' := s.heap) (t' := t) Un.refl I.hok
theorem Inv.kept {t' : Nat} (I : Inv X pins σ H s) (k : ∀ b u, s.heap.get? b = some u -> h'.get? b = some u) : Inv X pins σ H { s with heap := h', toks := t' } := I.un (Un.kept k) (I.hok.kept k)
theorem Inv.laid {a : Addr} {o : HO} {t' : Nat} (I : Inv X pins σ H s) (k : ∀ b u, s.heap.get? b = some u -> h'.get? b = some u) (hp : s.heap.objs.size <= a) (new : ObjOk X.prog X.w (upd H a o) h' a o) :
  Inv X pins σ (upd H a o) { s with heap := h', toks := t' } := I.un (Un.laid k hp (I.hok.fresh hp)) (I.hok.laid k hp new)
theorem Inv.write {x e : Addr} {o : HO} {t' : Nat} (I : Inv X pins σ H s) (mu : Mut (H x)) (he : e = x ∨ H e = some (.own x)) (k : ∀ b u, b ≠ e -> s.heap.get? b = some u -> h'.get? b = some u) (heo : ∃ u, h'.get? e = some u)
  (new : ObjOk X.prog X.w (upd H x o) h' x o) : Inv X pins σ (upd H x o) { s with heap := h', toks := t' } := I.un (Un.write mu he k heo) (I.hok.write mu he k heo new)
theorem Inv.pins_of {pins' : List (Addr × Obj)} (I : Inv X pins σ H s) (h : ∀ p ∈ pins', s.heap.get? p.1 = some p.2 /\ H p.1 = none /\ p.1 ≠ X.env.locals /\ p.1 ∉ X.fs /\ ∀ v, p.2.data ≠ .cell v) : Inv X pins' σ H s :=
 ⟨I.ok, I.os, I.bare, I.base, I.loc, I.cell, I.free, I.freeC, fun p hp => (List.mem_append.mp hp).elim (fun z => I.pin p (List.mem_append_left _ z)) (h p), I.hok, I.len⟩
theorem nodup_ix {N : List Str} (hN : N.Nodup) {i j : Nat} {x : Str} (a : N[i]? = some x) (b : N[j]? = some x) : i = j := by
 obtain ⟨h1, e1⟩ := List.getElem?_eq_some_iff.mp a
 obtain ⟨h2, e2⟩ := List.getElem?_eq_some_iff.mp b
 exact (List.getElem_inj hN).mp (e1.trans e2.symm)
theorem store_ok2 {M : Model} {A : Around} {E : Value -> Shared -> Prop} {i : Nat} {x : Str} {v : V} {u : Value} {Q : Unit -> Shared -> Prop} (I : Inv X pins σ H s) (hN : X.N.Nodup) (hi : X.N[i]? = some x) (hx : Loc X.env.scope x) (r : RelV v u)
  (h : ∀ s', Inv X pins (σ.set i (some v)) H s' -> (∃ a, Heap.SameBut a s.heap s'.heap /\ (a = X.env.locals ∨ X.env.cells.lookup x = some a)) -> Q () s') (hf : autoParam (X.fn x = true ∨ X.env.scope.names.lookup x = some .local) AutoP.a0._auto_1) : wpAny M A (storeName X.env x u) Q E s := by
 obtain ⟨m, hn, hl⟩ := id I.loc
 have hcls : (X.env.scope.kind == .class || (X.env.scope.kind == .module && X.env.locals != X.env.globals)) = false := by rw [I.ok.kind]; rfl
 have hiσ : i < σ.length := by rw [I.len]; exact (List.getElem?_eq_some_iff.mp hi).1
 have cne := I.cne
 have tracked : ∀ {a : Addr} {h' : Heap}, (∃ o, s.heap.get? a = some o /\ H a = none) -> Heap.SameBut a s.heap h' -> HOk X.prog X.w H h' := fun {a h'} ha hs b ob e => by
  obtain ⟨_, _, hfree⟩ := ha
  refine (I.hok b ob e).stay (fun c w' hc q => (hs.2 c ?_).trans q) (fun _ q => q) fun _ _ q => q
  rintro rfl
  rcases hc with rfl | hc
  ·rw [hfree] at e; cases e
  ·rw [hfree] at hc; cases hc
 rcases hx with hk | hk
 ·refine wpAny_storeName_local hk hn (fun h' hn' hs => ?_) hcls
  obtain ⟨oL, _, _, hoL, _⟩ := id hn
  refine h _ ⟨I.ok, I.os, I.bare, ⟨fun b o e n hb hx => ?_, fun b o e n hb hx => ?_, I.base.free, fun b o e hx => ?_, I.base.tups, I.base.frzs, I.base.tbls⟩, ⟨_, hn', fun j y v' e1 e2 e3 => ?_⟩, fun y c e => ?_, I.free, I.freeC, fun p hp => ?_, tracked ⟨oL, hoL, I.free⟩ hs, by simpa using I.len⟩ ⟨_, hs, .inl rfl⟩
  ·exact (hs.2 b (Nat.ne_of_lt (Nat.lt_of_lt_of_le (Heap.lt_size e) I.ok.above))).trans (I.base.keep b o e n hb hx)
  ·obtain ⟨sl, e1⟩ := I.base.slot b o e n hb hx
   exact ⟨sl, (hs.2 b (Nat.ne_of_lt (Nat.lt_of_lt_of_le (Heap.lt_size e) I.ok.above))).trans e1⟩
  ·obtain ⟨o', e1⟩ := I.base.there b o e hx
   exact ⟨o', (hs.2 b (Nat.ne_of_lt (Nat.lt_of_lt_of_le (Heap.lt_size e) I.ok.above))).trans e1⟩
  ·by_cases hj : j = i
   ·subst hj
    rw [hi] at e1; cases e1
    rw [List.getElem?_set_self hiσ] at e2
    cases e2
    exact ⟨u, r, .inl ⟨hk, by simp⟩⟩
   ·rw [List.getElem?_set_ne (Ne.symm hj)] at e2
    obtain ⟨u', r', q⟩ := hl j y v' e1 e2 e3
    refine ⟨u', r', ?_⟩
    rcases q with ⟨k, e⟩ | ⟨k, c, e, z⟩
    ·refine .inl ⟨k, ?_⟩
     have : y ≠ x := fun e => hj (nodup_ix hN e1 (e ▸ hi))
     simp [this, e]
    ·exact .inr ⟨k, c, e, z.sameBut hs (cne y c e)⟩
  ·obtain ⟨w', z⟩ := I.cell y c e
   exact ⟨w', z.sameBut hs (cne y c e)⟩
  ·obtain ⟨e, n, ne, nf, d⟩ := I.pin p hp
   exact ⟨(hs.2 p.1 ne).trans e, n, ne, nf, d⟩
 ·have hfn : X.fn x = true := by
   rcases hf with z | z
   ·exact z
   ·rw [z] at hk; cases hk
  obtain ⟨c, hc⟩ := I.ok.has x (.inl hk)
  obtain ⟨w', z⟩ := I.cell x c hc
  refine wpAny_storeName_cell I.ok.kind hk hc z (fun h' hc' hs => ?_)
  obtain ⟨oc, hoc, hocd⟩ := id z
  refine h { s with heap := h' } ⟨I.ok, I.os, I.bare, ⟨fun b o e n hb hx => ?_, fun b o e n hb hx => ?_, I.base.free, fun b o e hx => ?_, I.base.tups, I.base.frzs, I.base.tbls⟩, ⟨m, hn.sameBut hs (Ne.symm (cne x c hc)), fun j y v' e1 e2 e3 => ?_⟩, fun y c' e => ?_, I.free, I.freeC, fun p hp => ?_, tracked ⟨oc, hoc, I.freeC x c hc⟩ hs, by simpa using I.len⟩ ⟨c, hs, .inr hc⟩
  ·exact (hs.2 b (Nat.ne_of_lt (Nat.lt_of_lt_of_le (Heap.lt_size e) (I.ok.cab x c hfn hc)))).trans (I.base.keep b o e n hb hx)
  ·obtain ⟨sl, e1⟩ := I.base.slot b o e n hb hx
   exact ⟨sl, (hs.2 b (Nat.ne_of_lt (Nat.lt_of_lt_of_le (Heap.lt_size e) (I.ok.cab x c hfn hc)))).trans e1⟩
  ·obtain ⟨o', e1⟩ := I.base.there b o e hx
   exact ⟨o', (hs.2 b (Nat.ne_of_lt (Nat.lt_of_lt_of_le (Heap.lt_size e) (I.ok.cab x c hfn hc)))).trans e1⟩
  ·by_cases hj : j = i
   ·subst hj
    rw [hi] at e1; cases e1
    rw [List.getElem?_set_self hiσ] at e2
    cases e2
    exact ⟨u, r, .inr ⟨.inl hk, c, hc, hc'⟩⟩
   ·rw [List.getElem?_set_ne (Ne.symm hj)] at e2
    obtain ⟨u', r', q⟩ := hl j y v' e1 e2 e3
    refine ⟨u', r', ?_⟩
    rcases q with q | ⟨k, c', e, z'⟩
    ·exact .inl q
    ·refine .inr ⟨k, c', e, z'.sameBut hs ?_⟩
     rintro rfl
     exact hj (nodup_ix hN e1 (I.ok.inj _ _ _ e hc ▸ hi))
  ·by_cases hcc : c' = c
   ·subst hcc; exact ⟨_, hc'⟩
   ·obtain ⟨w2, z2⟩ := I.cell y c' e
    exact ⟨w2, z2.sameBut hs hcc⟩
  ·obtain ⟨e, n, ne, nf, d⟩ := I.pin p hp
   refine ⟨(hs.2 p.1 ?_).trans e, n, ne, nf, d⟩
   intro q
   rw [q, hoc] at e
   have q' : oc = p.2 := Option.some.inj e
   exact d w' (by rw [<- q']; exact hocd)
theorem store_ok {M : Model} {A : Around} {E : Value -> Shared -> Prop} {i : Nat} {x : Str} {v : V} {u : Value} {Q : Unit -> Shared -> Prop} (I : Inv X pins σ H s) (hN : X.N.Nodup) (hi : X.N[i]? = some x) (hx : Loc X.env.scope x) (r : RelV v u)
  (h : ∀ s', Inv X pins (σ.set i (some v)) H s' -> Q () s') (hf : autoParam (X.fn x = true ∨ X.env.scope.names.lookup x = some .local) AutoP.a0._auto_1) : wpAny M A (storeName X.env x u) Q E s :=
 store_ok2 I hN hi hx r (fun s' I' _ => h s' I') hf
theorem Inv.call' {s' : Shared} {ch : List Addr} (I : Inv X pins σ H s) (ho : s'.os = s.os) (u : Un (frs X.stack) ch H H' s.heap s'.heap) (hok : HOk X.prog X.w H' s'.heap) (hg : AllBare s'.gens)
  (hch : ∀ b ∈ ch, (b ∈ X.ex ∨ X.s₀.heap.objs.size <= b) /\ b ≠ X.env.locals /\ (∀ x c, X.env.cells.lookup x = some c -> c ≠ b) /\ ∀ p ∈ X.pn ++ pins, p.1 ≠ b) : Inv X pins σ H' s' := by
 obtain ⟨h', g', d', t', o'⟩ := s'
 have e : o' = s.os := ho
 subst e
 exact I.call (g' := g') (t' := t') (d' := d') u hok hg hch
end
abbrev XK := Value -> Option Addr -> Hp -> Prop
abbrev St := List (Option V)
abbrev VK := V -> Hp -> Prop
abbrev TE := St -> Hp -> VK -> Prop
abbrev TT := St -> Hp -> (Bool -> Hp -> Prop) -> Prop
abbrev TA := St -> Hp -> (List V -> Hp -> Prop) -> Prop
structure Ends where
 nx : St -> Hp -> Prop
 rt : VK
 bk : St -> Hp -> Prop := fun _ _ => False
 ct : St -> Hp -> Prop := fun _ _ => False
abbrev TS := Ends -> St -> Hp -> Prop
def EP (X : Cx) (pins : List (Addr × Obj)) (σ : St) (Q : VK) (u : Value) (s' : Shared) : Prop := ∃ v H', Inv X pins σ H' s' /\ RelV v u /\ Q v H'
def TP (X : Cx) (pins : List (Addr × Obj)) (σ : St) (Q : Bool -> Hp -> Prop) (b : Bool) (s' : Shared) : Prop := ∃ H', Inv X pins σ H' s' /\ Q b H'
def AP (X : Cx) (pins : List (Addr × Obj)) (σ : St) (Q : List V -> Hp -> Prop) (us : List Value) (s' : Shared) : Prop := ∃ vs H', Inv X pins σ H' s' /\ Vals vs us /\ Q vs H'
def SP (X : Cx) (pins : List (Addr × Obj)) (D : Ends) (f : Flow) (s' : Shared) : Prop :=
 match f with
 | .next => ∃ σ' H', Inv X pins σ' H' s' /\ D.nx σ' H'
 | .brk => ∃ σ' H', Inv X pins σ' H' s' /\ D.bk σ' H'
 | .cont => ∃ σ' H', Inv X pins σ' H' s' /\ D.ct σ' H'
 | .ret u => ∃ v σ' H', Inv X pins σ' H' s' /\ RelV v u /\ D.rt v H'
def PE (X : Cx) (e : Expr) (t : TE) : Prop :=
 ∀ (pins : List (Addr × Obj)) (s : Shared) (σ : St) (H : Hp) (Q : VK), Inv X pins σ H s -> t σ H Q -> wpAny (model X.prog X.w) X.A (eval e X.env) (EP X pins σ Q) X.xe s
def PT (X : Cx) (e : Expr) (t : TT) : Prop :=
 ∀ (pins : List (Addr × Obj)) (s : Shared) (σ : St) (H : Hp) (Q : Bool -> Hp -> Prop), Inv X pins σ H s -> t σ H Q -> wpAny (model X.prog X.w) X.A (isTrue e X.env (eval e X.env)) (TP X pins σ Q) X.xe s
def PW (X : Cx) (e : Expr) (t : TT) : Prop :=
 ∀ (whole : Sem Value) (pins : List (Addr × Obj)) (s : Shared) (σ : St) (H : Hp) (Q : Bool -> Hp -> Prop), Inv X pins σ H s -> t σ H Q -> wpAny (model X.prog X.w) X.A (isTrue e X.env whole) (TP X pins σ Q) X.xe s
theorem PW.pt {X : Cx} {e : Expr} {t : TT} (h : PW X e t) : PT X e t := h _
def PA (X : Cx) (es : List Expr) (t : TA) : Prop :=
 ∀ (pos : Pos) (pins : List (Addr × Obj)) (s : Shared) (σ : St) (H : Hp) (Q : List V -> Hp -> Prop), Inv X pins σ H s -> t σ H Q -> wpAny (model X.prog X.w) X.A (spliced (backTo pos (starEach es X.env))) (AP X pins σ Q) X.xe s
def PS (X : Cx) (st : Stmt) (t : TS) : Prop :=
 ∀ (pins : List (Addr × Obj)) (s : Shared) (σ : St) (H : Hp) (D : Ends), Inv X pins σ H s -> t D σ H -> wpAny (model X.prog X.w) X.A (exec st X.env) (SP X pins D) X.xe s
def PSs (X : Cx) (st : List Stmt) (t : TS) : Prop :=
 ∀ (pins : List (Addr × Obj)) (s : Shared) (σ : St) (H : Hp) (D : Ends), Inv X pins σ H s -> t D σ H -> wpAny (model X.prog X.w) X.A (execs st X.env) (SP X pins D) X.xe s
theorem thn {α : Type} {t : Sem α} {Q Q' : α -> Shared -> Prop} {M : Model} {A : Around} {E : Value -> Shared -> Prop} {s : Shared} (h : wpAny M A t Q E s) (hQ : ∀ a s, Q a s -> Q' a s) : wpAny M A t Q' E s := wpAny_mono h hQ fun _ _ x => x
section
variable {X : Cx}
def tVar (i : Nat) : TE := fun σ H Q => ∃ v, σ[i]? = some (some v) /\ Q v H
def tC (v : V) : TE := fun _ H Q => Q v H
theorem pe_var {i : Nat} {x : Str} {pos : Pos} (hN : X.N[i]? = some x) (hv : Vis X.env.scope x) (hd : autoParam ((x == ("__debug__" : Str)) = false) AutoP.a1._auto_1) (hcd : autoParam ((x == ("__classdict__" : Str)) = false) AutoP.a1._auto_1) : PE X (.Name x pos) (tVar i) := by
 intro pins s σ H Q I h
 obtain ⟨v, e, h⟩ := h
 obtain ⟨m, hn, hl⟩ := I.loc
 obtain ⟨u, r, l⟩ := hl i x v hN e hv
 have fin : EP X pins σ Q u s := ⟨v, H, I, r, h⟩
 rcases l with ⟨hk, hm⟩ | ⟨hk, c, hc, hcell⟩
 ·exact wpAny_Name (wpAny_loadName_local I.ok.kind hk hn hm fin) hd
 ·rcases hk with hk | hk
  ·exact wpAny_Name (wpAny_loadName_cell I.ok.kind hk hc hcell fin) hd
  ·exact wpAny_Name (wpAny_loadName_free I.ok.kind hk hc hcell fin hcd) hd
theorem pe_int {i j pos} : PE X (.Constant (.int i) j pos) (tC (.int i)) := fun _ _ _ H _ I h => wpAny_Constant_int ⟨.int i, H, I.tok _, ⟨_, rfl⟩, h⟩
theorem pe_bl {b j pos} : PE X (.Constant (.bool b) j pos) (tC (.bl b)) := fun _ _ _ H _ I h => Constant_bool ⟨.bl b, H, I, rfl, h⟩
theorem pe_non {j pos} : PE X (.Constant .none j pos) (tC .non) := fun _ _ _ H _ I h => Constant_none ⟨.non, H, I, rfl, h⟩
theorem pe_str {x j pos} : PE X (.Constant (.str x) j pos) (tC (.str x)) := fun _ _ _ H _ I h => Calls.Constant_str ⟨.str x, H, I.tok _, ⟨_, rfl⟩, h⟩
def Gl (X : Cx) (x : Str) : Prop := X.env.kindOf x = some .globalImplicit
theorem ld_glob {E : Value -> Shared -> Prop} {pins : List (Addr × Obj)} {s : Shared} {σ : St} {H : Hp} {x : Str} {u : Value} {pos : Pos} {Q : Value -> Shared -> Prop} (I : Inv X pins σ H s) (hg : Gl X x) (hm : X.mg x = some u) (h : Q u s)
  (hd : autoParam ((x == ("__debug__" : Str)) = false) AutoP.a1._auto_1) : wpAny (model X.prog X.w) X.A (eval (.Name x pos) X.env) Q E s :=
 Calls.Name_function_global I.ok.kind hg (Calls.loadGlobal_global (by rw [I.ok.glob]; exact I.mod.glob.keeps I.bk) hm h) hd
theorem ld_blt {E : Value -> Shared -> Prop} {pins : List (Addr × Obj)} {s : Shared} {σ : St} {H : Hp} {x : Str} {u : Value} {pos : Pos} {Q : Value -> Shared -> Prop} (I : Inv X pins σ H s) (hg : Gl X x) (hm : X.mg x = none) (hv : bootBuiltins x = some u) (h : Q u s)
  (hn : autoParam (x ≠ "__name__") AutoP.a1._auto_1) (hd : autoParam ((x == ("__debug__" : Str)) = false) AutoP.a1._auto_1) : wpAny (model X.prog X.w) X.A (eval (.Name x pos) X.env) Q E s := by
 obtain ⟨mb, h1, h2⟩ := I.mod.blt
 exact Calls.Name_function_global I.ok.kind hg (Calls.loadGlobal_builtin (by rw [I.ok.glob]; exact I.mod.glob.keeps I.bk) hm (by rw [I.ok.blt]; exact h1.keeps I.bk) ((h2 x hn).trans hv) h) hd
theorem pe_bltn {x : Str} {v : V} {u : Value} {pos : Pos} (hg : Gl X x) (hm : X.mg x = none) (hv : bootBuiltins x = some u) (r : RelV v u) (hn : autoParam (x ≠ "__name__") AutoP.a1._auto_1) (hd : autoParam ((x == ("__debug__" : Str)) = false) AutoP.a1._auto_1) : PE X (.Name x pos) (tC v) :=
 fun _ _ _ H _ I h => ld_blt I hg hm hv ⟨v, H, I, r, h⟩ hn hd
variable {a b : Expr} {ta tb : TE} {pos : Pos}
def tB (t : TE) : TT := fun σ H Q => t σ H fun x H1 => ∃ c, x = .bl c /\ Q c H1
theorem pt_val {e : Expr} {t : TE} (h : PE X e t) (he : autoParam (∀ whole, isTrue e X.env whole = (do let v <- whole; standAt e.pos; holding [v] (truthy v))) AutoP.a2._auto_1) : PT X e (tB t) := by
 intro pins s σ H Q I hw
 refine isTrue_plain (thn (h pins s σ H _ I hw) fun v s1 ⟨x, H1, I1, r1, q1⟩ => ?_) (he _)
 obtain ⟨d, rfl, q⟩ := q1
 cases r1
 exact wpAny_truthy_bool ⟨H1, I1, q⟩
variable {tA tB' : TT} {rest : List Expr}
def tOr (t u : TT) : TT := fun σ H Q => t σ H fun c H1 => if c = true then Q true H1 else u σ H1 Q
def tNot (t : TT) : TT := fun σ H Q => t σ H fun c H1 => Q (!c) H1
theorem pw_or1 (ha : PT X a tA) : PW X (.BoolOp .Or [a] pos) tA := by
 intro wh pins s σ H Q I h
 refine isTrue_or (thn (ha pins s σ H Q I h) fun c s1 e => ?_)
 cases c with
 | false => exact isTrue_or_nil e
 | true => exact e
theorem pw_or (ha : PT X a tA) (hb : PW X (.BoolOp .Or (b :: rest) pos) tB') : PW X (.BoolOp .Or (a :: b :: rest) pos) (tOr tA tB') := by
 intro wh pins s σ H Q I h
 refine isTrue_or (thn (ha pins s σ H _ I h) fun c s1 ⟨H1, I1, q1⟩ => ?_)
 cases c with
 | true => exact ⟨H1, I1, q1⟩
 | false => exact hb wh pins s1 σ H1 Q I1 q1
theorem pt_not (ha : PT X a tA) : PT X (.UnaryOp .Not a pos) (tNot tA) := by
 intro pins s σ H Q I h
 exact isTrue_not (ha pins s σ H (fun c H1 => Q (!c) H1) I h)
def tAndV (ta tb : TE) : TE := fun σ H Q => ta σ H fun x H1 => ∃ c, x = .bl c /\ if c = true then tb σ H1 Q else Q (.bl false) H1
def tNotV (ta : TE) : TE := fun σ H Q => ta σ H fun x H1 => ∃ c, x = .bl c /\ Q (.bl (!c)) H1
theorem pe_one {op} {t : TE} (h : PE X a t) : PE X (.BoolOp op [a] pos) t := fun pins s σ H Q I hw => BoolOp_one (h pins s σ H Q I hw)
theorem pe_and (ha : PE X a ta) (hb : PE X (.BoolOp .And (b :: rest) pos) tb) : PE X (.BoolOp .And (a :: b :: rest) pos) (tAndV ta tb) := by
 intro pins s σ H Q I h
 refine BoolOp_and (thn (ha pins s σ H _ I h) fun v s1 ⟨x, H1, I1, r1, q1⟩ => ?_)
 obtain ⟨c, rfl, q1⟩ := q1
 cases r1
 refine wpAny_truthy_bool ?_
 cases c with
 | true => exact hb pins s1 σ H1 Q I1 q1
 | false => exact ⟨.bl false, H1, I1, rfl, q1⟩
theorem pe_not (ha : PE X a ta) : PE X (.UnaryOp .Not a pos) (tNotV ta) := by
 intro pins s σ H Q I h
 refine UnaryOp_ (thn (ha pins s σ H _ I h) fun v s1 ⟨x, H1, I1, r1, q1⟩ => ?_)
 obtain ⟨c, rfl, q1⟩ := q1
 cases r1
 exact not_of (wpAny_truthy_bool ⟨.bl (!c), H1, I1, rfl, q1⟩)
def tIf (t : TT) (ta tb : TE) : TE := fun σ H Q => t σ H fun c H1 => if c = true then ta σ H1 Q else tb σ H1 Q
theorem pe_ifExp {c : Expr} (hc : PT X c tA) (ha : PE X a ta) (hb : PE X b tb) : PE X (.IfExp c a b pos) (tIf tA ta tb) := by
 intro pins s σ H Q I h
 refine wpAny_IfExp (thn (hc pins s σ H _ I h) fun d s1 ⟨H1, I1, q1⟩ => ?_)
 cases d with
 | true => exact ha pins s1 σ H1 Q I1 q1
 | false => exact hb pins s1 σ H1 Q I1 q1
end
def SqL (K : PySem.W.Frag) (H : Hp) (a : Addr) (xs : List V) : Prop :=
 Rd H a (.lst xs) ∨
  ∃ (o : Obj) (its : Array Value) (n : Nat), K.lookup a = some o /\ o.cls = .type "list" /\ o.dict = none /\ o.data = .seq its n /\ its.size <= sizeLine /\ Vals xs its.toList
def SqT (K : PySem.W.Frag) (H : Hp) (a : Addr) (xs : List V) : Prop :=
 Rd H a (.tup xs) ∨
  ∃ (o : Obj) (its : Array Value) (n : Nat), K.lookup a = some o /\ o.cls = .type "tuple" /\ o.data = .seq its n /\ its.size <= sizeLine /\ Vals xs its.toList
def absV : Value -> Option V
 | .none => some .non
 | .bool b => some (.bl b)
 | .int i _ => some (.int i)
 | .str x _ => some (.str x)
 | .bytes b _ => some (.byt b)
 | .float b _ => some (.flt b)
 | .ref a => some (.ref a)
 | .type n => some (.ty n)
 | _ => none
theorem RelV.abs {x : V} {u : Value} (r : RelV x u) : absV u = some x := by
 cases x with
 | non => cases r; rfl
 | bl _ => cases r; rfl
 | int _ => obtain ⟨t, rfl⟩ := r; rfl
 | str _ => obtain ⟨t, rfl⟩ := r; rfl
 | byt _ => obtain ⟨t, rfl⟩ := r; rfl
 | flt _ => obtain ⟨t, rfl⟩ := r; rfl
 | ref _ => cases r; rfl
 | ty _ => cases r; rfl
theorem RelV.inj {x y : V} {u : Value} (r : RelV x u) (q : RelV y u) : x = y := Option.some.inj (r.abs.symm.trans q.abs)
theorem Vals.inj : ∀ {xs ys : List V} {us : List Value}, Vals xs us -> Vals ys us -> xs = ys
 | _, _, _, .nil, .nil => rfl
 | _, _, _, .cons r t, .cons r' t' => by rw [r.inj r', Vals.inj t t']
section
variable {X : Cx} {pins : List (Addr × Obj)} {σ : St} {H : Hp} {s : Shared} {a : Addr} {xs ys : List V}
theorem SqL.of {K : PySem.W.Frag} (h : H a = some (.lst xs)) : SqL K H a xs := .inl (.inl h)
theorem Inv.list (I : Inv X pins σ H s) (h : SqL X.K H a xs) : ∃ its : List Value, Vals xs its /\ PlainL s.heap a its.toArray /\ xs.length <= sizeLine := by
 rcases h with h | ⟨o, its, n, hk, hc, hd, hs, hz, r⟩
 ·obtain ⟨z, its, n, r, e⟩ := h.ok I.hok
  exact ⟨its, r, ⟨_, n, e, rfl, rfl, rfl⟩, z⟩
 ·refine ⟨its.toList, r, ⟨o, n, I.kIn a o hk, hc, hd, by simpa using hs⟩, ?_⟩
  have e := r.length
  simp only [Array.length_toList] at e
  omega
theorem Inv.tuple (I : Inv X pins σ H s) (h : SqT X.K H a xs) : ∃ its : List Value, Vals xs its /\ IsTup s.heap a its.toArray /\ xs.length <= sizeLine := by
 rcases h with h | ⟨o, its, n, hk, hc, hs, hz, r⟩
 ·obtain ⟨z, its, r, p, _⟩ := h.ok I.hok
  exact ⟨its, r, p, z⟩
 ·refine ⟨its.toList, r, ⟨o, I.kIn a o hk, hc, n, by simpa using hs⟩, ?_⟩
  have e := r.length
  simp only [Array.length_toList] at e
  omega
theorem Inv.list_inj (I : Inv X pins σ H s) (h : SqL X.K H a xs) (h' : SqL X.K H a ys) : xs = ys := by
 obtain ⟨its, r, ⟨o, n, e, _, _, d⟩, _⟩ := I.list h
 obtain ⟨its', r', ⟨o', n', e', _, _, d'⟩, _⟩ := I.list h'
 rw [e] at e'; cases e'
 rw [d] at d'
 injection d' with d1 _
 have : its = its' := by simpa using congrArg Array.toList d1
 subst this
 exact r.inj r'
theorem Inv.tuple_inj (I : Inv X pins σ H s) (h : SqT X.K H a xs) (h' : SqT X.K H a ys) : xs = ys := by
 obtain ⟨its, r, ⟨o, e, _, n, d⟩, _⟩ := I.tuple h
 obtain ⟨its', r', ⟨o', e', _, n', d'⟩, _⟩ := I.tuple h'
 rw [e] at e'; cases e'
 rw [d] at d'
 injection d' with d1 _
 have : its = its' := by simpa using congrArg Array.toList d1
 subst this
 exact r.inj r'
end
abbrev Cx.wish (X : Cx) (E : Value -> Shared -> Prop) : Cx := { X with xe := E }
abbrev Cx.nox (X : Cx) : Cx := X.wish fun _ _ => False
theorem Cx.Ok.wish {X : Cx} (ok : X.Ok) (E : Value -> Shared -> Prop) : (X.wish E).Ok :=
 ⟨ok.mod, ok.kind, ok.glob, ok.blt, ok.above, ok.inj, ok.has, ok.cab, ok.hd, ok.frames, ok.stk, ok.exf, ok.bs, ok.bsz, ok.noex, ok.exfs, ok.funs, ok.frf⟩
theorem Cx.Ok.unwish {X : Cx} {E : Value -> Shared -> Prop} (ok : (X.wish E).Ok) : X.Ok :=
 ⟨ok.mod, ok.kind, ok.glob, ok.blt, ok.above, ok.inj, ok.has, ok.cab, ok.hd, ok.frames, ok.stk, ok.exf, ok.bs, ok.bsz, ok.noex, ok.exfs, ok.funs, ok.frf⟩
section
variable {X : Cx} {pins : List (Addr × Obj)} {σ : St} {H : Hp} {s : Shared} {E : Value -> Shared -> Prop}
theorem Inv.wish (I : Inv X pins σ H s) (E : Value -> Shared -> Prop) : Inv (X.wish E) pins σ H s := ⟨I.ok.wish E, I.os, I.bare, I.base, I.loc, I.cell, I.free, I.freeC, I.pin, I.hok, I.len⟩
theorem Inv.unwish (I : Inv (X.wish E) pins σ H s) : Inv X pins σ H s := ⟨I.ok.unwish, I.os, I.bare, I.base, I.loc, I.cell, I.free, I.freeC, I.pin, I.hok, I.len⟩
theorem SP.unwish {D : Ends} {f : Flow} {s' : Shared} (h : SP (X.wish E) pins D f s') : SP X pins D f s' := by
 cases f with
 | next => obtain ⟨σ', H', I, q⟩ := h; exact ⟨σ', H', I.unwish, q⟩
 | brk => obtain ⟨σ', H', I, q⟩ := h; exact ⟨σ', H', I.unwish, q⟩
 | cont => obtain ⟨σ', H', I, q⟩ := h; exact ⟨σ', H', I.unwish, q⟩
 | ret u => obtain ⟨v, σ', H', I, r, q⟩ := h; exact ⟨v, σ', H', I.unwish, r, q⟩
theorem PSs.nox {st : List Stmt} {t : TS} (h : PSs X.nox st t) : PSs X st t := fun pins s σ H D I hw =>
 wpAny_mono (h pins s σ H D (I.wish _) hw) (fun _ _ q => q.unwish) fun _ _ z => False.elim z
end
section
variable {X : Cx} {st : Stmt} {rest : List Stmt} {t u : TS} {e : Expr} {te : TE} {pos : Pos}
def tNext : TS := fun D σ H => D.nx σ H
def tSeq (t u : TS) : TS := fun D σ H => t { D with nx := u D } σ H
theorem pss_nil : PSs X [] tNext := fun _ _ σ H _ I h => wpAny_execs_nil ⟨σ, H, I, h⟩
theorem pss_cons (h1 : PS X st t) (h2 : PSs X rest u) : PSs X (st :: rest) (tSeq t u) := by
 intro pins s σ H D I h
 refine wpAny_execs_cons (thn (h1 pins s σ H { D with nx := u D } I h) fun f s1 q => ?_)
 cases f with
 | next =>
  obtain ⟨σ', H', I', q⟩ := q
  exact h2 pins s1 σ' H' D I' q
 | ret v => exact q
 | brk => exact q
 | cont => exact q
theorem pss_one (h1 : PS X st t) : PSs X [st] t := by
 intro pins s σ H D I h
 refine wpAny_execs_cons (thn (h1 pins s σ H D I h) fun f s1 q => ?_)
 cases f with
 | next => exact wpAny_execs_nil q
 | ret v => exact q
 | brk => exact q
 | cont => exact q
def tRet (te : TE) : TS := fun D σ H => te σ H D.rt
theorem ps_ret (he : PE X e te) : PS X (.Return (some e) pos) (tRet te) := by
 intro pins s σ H D I h
 exact wpAny_Return_some (thn (he pins s σ H _ I h) fun v s1 ⟨x, H1, I1, r1, q1⟩ => ⟨x, σ, H1, I1, r1, q1⟩)
def tIfS (c : TT) (t u : TS) : TS := fun D σ H => c σ H fun b H1 => if b = true then t D σ H1 else u D σ H1
theorem ps_if {c : Expr} {a b : List Stmt} {tc : TT} (hc : PT X c tc) (ha : PSs X a t) (hb : PSs X b u) : PS X (.If c a b pos) (tIfS tc t u) := by
 intro pins s σ H D I h
 refine wpAny_If (thn (hc pins s σ H _ I h) fun d s1 ⟨H1, I1, q1⟩ => ?_)
 cases d with
 | true => exact ha pins s1 σ H1 D I1 q1
 | false => exact hb pins s1 σ H1 D I1 q1
end
abbrev TG := V -> St -> Hp -> (St -> Hp -> Prop) -> Prop
abbrev TGs := List V -> St -> Hp -> (St -> Hp -> Prop) -> Prop
def PG (X : Cx) (target : Expr) (t : TG) : Prop :=
 ∀ (pins : List (Addr × Obj)) (s : Shared) (σ : St) (H : Hp) (v : V) (u : Value) (Q : St -> Hp -> Prop), Inv X pins σ H s -> RelV v u -> t v σ H Q →
  wpAny (model X.prog X.w) X.A (assign target X.env u) (fun _ s' => ∃ σ' H', Inv X pins σ' H' s' /\ Q σ' H') X.xe s
def PGs (X : Cx) (ts : List Expr) (t : TGs) : Prop :=
 ∀ (pins : List (Addr × Obj)) (s : Shared) (σ : St) (H : Hp) (vs : List V) (us : List Value) (Q : St -> Hp -> Prop), Inv X pins σ H s -> Vals vs us -> t vs σ H Q →
  wpAny (model X.prog X.w) X.A (assignInOrder ((assignEach ts X.env).map (·.2)) us) (fun _ s' => ∃ σ' H', Inv X pins σ' H' s' /\ Q σ' H') X.xe s
abbrev TSet := V -> V -> V -> Hp -> (Hp -> Prop) -> Prop
def PSet (X : Cx) (t : TSet) : Prop :=
 ∀ (pins : List (Addr × Obj)) (s : Shared) (σ : St) (H : Hp) (o i v : V) (ov iv u : Value) (Q : Hp -> Prop), Inv X pins σ H s -> RelV o ov -> RelV i iv -> RelV v u -> t o i v H Q →
  wpAny (model X.prog X.w) X.A (setItem ov iv u) (fun _ s' => ∃ H', Inv X pins σ H' s' /\ Q H') X.xe s
section
variable {X : Cx} {pos : Pos}
def gName (i : Nat) : TG := fun v σ H Q => Q (σ.set i (some v)) H
theorem pg_name {i : Nat} {x : Str} (hN : X.N.Nodup) (hi : X.N[i]? = some x) (hx : Loc X.env.scope x) (hf : autoParam (X.fn x = true ∨ X.env.scope.names.lookup x = some .local) AutoP.a0._auto_1) : PG X (.Name x pos) (gName i) := by
 intro pins s σ H v u Q I r h
 exact wpAny_assign_Name (store_ok I hN hi hx r (fun s' I' => ⟨_, H, I', h⟩) hf)
def gNil : TGs := fun vs σ H Q => vs = [] /\ Q σ H
def gCons (t : TG) (u : TGs) : TGs := fun vs σ H Q => ∃ v r, vs = v :: r /\ t v σ H fun σ' H' => u r σ' H' Q
theorem pgs_nil : PGs X [] gNil := by
 intro pins s σ H vs us Q I r h
 obtain ⟨e, h⟩ := h
 subst e
 cases r
 exact assignInOrder_nil ⟨σ, H, I, h⟩
theorem pgs_cons {e : Expr} {es : List Expr} {t : TG} {u : TGs} (h1 : PG X e t) (h2 : PGs X es u)
  (hs : autoParam ((assignEach (e :: es) X.env).map (·.2) = assign e X.env :: (assignEach es X.env).map (·.2)) AutoP.a3._auto_1) : PGs X (e :: es) (gCons t u) := by
 intro pins s σ H vs us Q I r h
 obtain ⟨v, vr, e1, h⟩ := h
 subst e1
 cases r with
 | cons r rr =>
  rw [hs]
  refine assignInOrder_cons (thn (h1 pins s σ H _ _ _ I r h) fun _ s1 ⟨σ1, H1, I1, q1⟩ => ?_)
  exact h2 pins s1 σ1 H1 _ _ Q I1 rr q1
def gTup (K : PySem.W.Frag) (n : Nat) (t : TGs) : TG := fun v σ H Q => ∃ a xs, v = .ref a /\ SqT K H a xs /\ xs.length = n /\ t xs σ H Q
theorem pg_tup {es : List Expr} {k : Nat} {t : TGs} {n : Nat} (hc : X.calm = true) (h : PGs X es t)
  (hn : autoParam ((assignEach es X.env).length = n) AutoP.a3._auto_1) (hst : autoParam ((assignEach es X.env).findIdx? (·.1) = none) AutoP.a3._auto_1) : PG X (.Tuple es k pos) (gTup X.K n t) := by
 intro pins s σ H v u Q I r hw
 obtain ⟨a, xs, e1, hq, hl, hw⟩ := hw
 subst e1
 cases r
 obtain ⟨its, rv, ht, hz⟩ := I.tuple hq
 refine assign_Tuple_tuple (I.ok.hd hc) ht (by simp [hn, <- hl, rv.length]) hst fun h' hx => ?_
 have I1 : Inv X pins σ H { s with heap := h' } := I.kept (t' := s.toks) fun b o e => hx b o (Nat.ne_of_lt (Heap.lt_size e)) e
 exact h pins _ σ H xs _ Q I1 (by simpa using rv) hw
def gSub (to ti : TE) (t : TSet) : TG := fun v σ H Q => to σ H fun o H1 => ti σ H1 fun i H2 => t o i v H2 fun H3 => Q σ H3
theorem pg_sub {o i : Expr} {to ti : TE} {t : TSet} (ho : PE X o to) (hi : PE X i ti) (hs : PSet X t)
  (ha : autoParam (∀ v, assign (.Subscript o i pos) X.env v = (do
   let ov <- holding [v] (eval o X.env)
   let iv <- holding [v, ov] (eval i X.env)
   standAt pos
   holding [v, ov, iv] (setItem ov iv v)
   release [v, ov, iv] [])) AutoP.a2._auto_1) : PG X (.Subscript o i pos) (gSub to ti t) := by
 intro pins s σ H v u Q I r h
 rw [ha]
 refine wpAny_bind (wpAny_holding (thn (ho pins s σ H _ I h) fun ov s1 ⟨x, H1, I1, r1, q1⟩ => ?_))
 refine wpAny_bind (wpAny_holding (thn (hi pins s1 σ H1 _ I1 q1) fun iv s2 ⟨y, H2, I2, r2, q2⟩ => ?_))
 refine wpAny_bind (wpAny_standAt (wpAny_bind (wpAny_holding (thn (hs pins s2 σ H2 x y v ov iv u _ I2 r1 r2 r q2) fun _ s3 ⟨H3, I3, q3⟩ => ?_))))
 exact wpAny_release ⟨σ, H3, I3, q3⟩
def tAsg (te : TE) (g : TG) : TS := fun D σ H => te σ H fun x H1 => g x σ H1 D.nx
theorem ps_asg {tg e : Expr} {te : TE} {g : TG} (he : PE X e te) (hg : PG X tg g) (hs : autoParam (swapsWithSole [tg] e pos.line X.env = pure false) AutoP.a3._auto_1) (hw : autoParam (swappedStores [tg] e X.env = pure none) AutoP.a3._auto_1)
  (h1 : autoParam ((assignEach [tg] X.env).map (·.2) = [assign tg X.env]) AutoP.a3._auto_1) : PS X (.Assign [tg] e pos) (tAsg te g) := by
 intro pins s σ H D I h
 refine wpAny_Assign_stores (thn (he pins s σ H _ I h) fun v s1 ⟨x, H1, I1, r1, q1⟩ => ?_) hs hw
 rw [h1]
 exact thn (hg pins s1 σ H1 x v _ I1 r1 q1) fun _ s2 q => q
theorem ps_set {i : Nat} {x : Str} {e : Expr} {te : TE} {pos' : Pos} (hN : X.N.Nodup) (hi : X.N[i]? = some x) (hx : Loc X.env.scope x) (he : PE X e te) (hs : autoParam (swapsWith e (some (.Name x pos')) pos.line X.env = pure false) AutoP.a3._auto_1) (hf : autoParam (X.fn x = true ∨ X.env.scope.names.lookup x = some .local) AutoP.a0._auto_1) :
  PS X (.Assign [.Name x pos'] e pos) (tAsg te (gName i)) := by
 intro pins s σ H D I h
 refine wpAny_Assign_Name (thn (he pins s σ H _ I h) fun v s1 ⟨y, H1, I1, r1, q1⟩ => ?_) hs
 exact store_ok I1 hN hi hx r1 (fun s2 I2 => ⟨_, H1, I2, q1⟩) hf
end
section
variable {X : Cx} {pos : Pos}
def tWhile (c : TT) (tb : TS) : TS := fun D σ H => ∃ W : Nat -> St -> Hp -> Prop, (∃ m, W m σ H) /\ ∀ m σ H, W m σ H →
 c σ H fun b H1 => if b = true then ∃ N : St -> Hp -> Prop, (∀ σ' H', N σ' H' -> ∃ m', m' < m /\ W m' σ' H') /\ tb { D with nx := N, ct := N, bk := D.nx } σ H1 else D.nx σ H1
theorem ps_while {c : Expr} {body : List Stmt} {tc : TT} {tb : TS} (hp : PassesOwn (model X.prog X.w) X.A X.env X.xe) (hc : PT X c tc) (hb : PSs X body tb) : PS X (.While c body [] pos) (tWhile tc tb) := by
 intro pins s σ H D I h
 obtain ⟨W, ⟨m0, w0⟩, turn⟩ := h
 refine wpAny_While (codeAny_whileLoop (fun n s' => ∃ σ' H', Inv X pins σ' H' s' /\ W n σ' H') ?_ m0 ⟨σ, H, I, w0⟩)
 rintro n s1 ⟨σ1, H1, I1, w1⟩
 refine wpAny_passesOwn hp (thn (hc pins s1 σ1 H1 _ I1 (turn n σ1 H1 w1)) fun b s2 ⟨H2, I2, q2⟩ => ?_)
 cases b with
 | true =>
  obtain ⟨N, hN, q2⟩ := q2
  rw [if_pos rfl]
  refine wpAny_passesOwn hp (thn (hb pins s2 σ1 H2 _ I2 q2) fun f s3 q3 => ?_)
  cases f with
  | next =>
   obtain ⟨σ3, H3, I3, n3⟩ := q3
   obtain ⟨m', hm, w3⟩ := hN σ3 H3 n3
   exact ⟨m', hm, σ3, H3, I3, w3⟩
  | cont =>
   obtain ⟨σ3, H3, I3, n3⟩ := q3
   obtain ⟨m', hm, w3⟩ := hN σ3 H3 n3
   exact ⟨m', hm, σ3, H3, I3, w3⟩
  | brk => exact q3
  | ret v => exact q3
 | false =>
  rw [if_neg Bool.false_ne_true]
  exact wpAny_execs_nil ⟨σ1, H2, I2, q2⟩
end
structure It where
 go : Nat -> Hp -> Prop
 yld : Nat -> Hp -> V -> Hp -> Prop
 stop : Nat -> Hp -> Prop
def FpOk (X : Cx) (pins : List (Addr × Obj)) (H : Hp) (b : Addr) : Prop :=
 H b = none /\ b ≠ X.env.locals /\ b ∉ X.fs /\ (b ∈ X.ex ∨ X.s₀.heap.objs.size <= b) /\ (∀ x c, X.env.cells.lookup x = some c -> c ≠ b) /\ ∀ p ∈ X.pn ++ pins, p.1 ≠ b
theorem Inv.fpOk {X : Cx} {pins : List (Addr × Obj)} {σ : St} {H H' : Hp} {s : Shared} {b : Addr} (I : Inv X pins σ H s) (hb : s.heap.objs.size <= b) (hn : H' b = none) : FpOk X pins H' b := by
 refine ⟨hn, Nat.ne_of_gt (Nat.lt_of_lt_of_le I.lt hb), I.nofs hb, .inr (Nat.le_trans I.sz hb), fun x c e z => ?_, fun p hp z => ?_⟩
 ·obtain ⟨v, q⟩ := I.cell x c e
  exact absurd (Nat.lt_of_lt_of_le q.lt (by rw [z]; exact hb)) (Nat.lt_irrefl _)
 ·exact absurd (Nat.lt_of_lt_of_le (Heap.lt_size (I.pin p hp).1) (by rw [z]; exact hb)) (Nat.lt_irrefl _)
structure Turn (P : Program) (w : World) (K : PySem.W.Frag) (tg : Expr) (J : It) (fp : List Addr) (it : Addr) (tn : Nat -> Heap -> Prop) : Prop where
 mem : it ∈ fp
 obj : ∀ i h, tn i h -> ∀ b ∈ fp, ∃ o, h.get? b = some o /\ ∀ v, o.data ≠ .cell v
 keep : ∀ i h h', tn i h -> (∀ b ∈ fp, ∀ o, h.get? b = some o -> h'.get? b = some o) -> tn i h'
 item : ∀ (X : Cx), X.prog = P -> X.w = w -> X.K = K -> X.calm = true -> ∀ (i : Nat) (pins : List (Addr × Obj)) (s : Shared) (σ : St) (H : Hp) (E : Value -> Shared -> Prop), Inv X pins σ H s -> (∀ b ∈ fp, FpOk X pins H b) -> tn i s.heap -> J.go i H →
  wpAny (model P w) X.A (pyNext (.ref it)) (fun r s1 => ∃ u, r = some u ∧
   wpAny (model P w) X.A (letOwnedTupleGo tg (.ref it) u) (fun _ s2 => ∃ x H', Inv X pins σ H' s2 /\ RelV x u /\ J.yld i H x H' /\ tn (i + 1) s2.heap /\ ∀ b ∈ fp, H' b = none) E s1) E s
 done : ∀ (X : Cx), X.prog = P -> X.w = w -> X.K = K -> X.calm = true -> ∀ (i : Nat) (pins : List (Addr × Obj)) (s : Shared) (σ : St) (H : Hp) (E : Value -> Shared -> Prop), Inv X pins σ H s -> (∀ b ∈ fp, FpOk X pins H b) -> tn i s.heap -> J.stop i H →
  wpAny (model P w) X.A (pyNext (.ref it)) (fun r s1 => r = none /\ Inv X pins σ H s1) E s
 self : ∀ (A : Around) (i : Nat) (s : Shared) (Q : Value -> Shared -> Prop) (E : Value -> Shared -> Prop), tn i s.heap -> Q (.ref it) s -> wpAny (model P w) A (pyIter (.ref it)) Q E s
abbrev TI := St -> Hp -> (It -> Hp -> Prop) -> Prop
def PIE (X : Cx) (pins : List (Addr × Obj)) (σ : St) (tg : Expr) (R : It -> Hp -> Prop) (itv : Value) (s2 : Shared) : Prop :=
 ∃ (it : Addr) (fp : List Addr) (tn : Nat -> Heap -> Prop) (J : It) (H' : Hp), itv = .ref it /\ Inv X pins σ H' s2 /\ Turn X.prog X.w X.K tg J fp it tn /\ tn 0 s2.heap /\ (∀ b ∈ fp, FpOk X pins H' b) /\ R J H'
def PI (X : Cx) (tg iter : Expr) (wi : TI) : Prop :=
 ∀ (pins : List (Addr × Obj)) (s : Shared) (σ : St) (H : Hp) (R : It -> Hp -> Prop), Inv X pins σ H s -> wi σ H R →
  wpAny (model X.prog X.w) X.A (eval iter X.env) (fun v s1 => wpAny (model X.prog X.w) X.A (pyIter v) (PIE X pins σ tg R) X.xe s1) X.xe s
theorem go_of {M : Model} {A : Around} {E : Value -> Shared -> Prop} {s : Shared} {tg : Expr} {it : Addr} {u : Value} {o : Obj} {n : String} {vs : Array Value} {Q : Unit -> Shared -> Prop} (ho : s.heap.get? it = some o) (hc : o.cls = .type n) (hd : o.data = .fields vs)
    (hn : ["enumerate", "zip", "dict_itemiterator", "dict_reverseitemiterator", "odict_iterator", "itertools.zip_longest", "itertools.pairwise"].contains n = false) (hQ : Q () s) : wpAny M A (letOwnedTupleGo tg (.ref it) u) Q E s := by
  unfold letOwnedTupleGo
  cases tg <;> first
    | exact wpAny_pure hQ
    | (cases u <;> first
        | exact wpAny_pure hQ
        | (refine wpAny_bind (wpAny_load ho ?_)
           rw [hc, hd]
           show wpAny M A (if (["enumerate", "zip", "dict_itemiterator", "dict_reverseitemiterator", "odict_iterator", "itertools.zip_longest", "itertools.pairwise"].contains n && vs[0]? == some (rawInt _)) = true then _ else _) Q E s
           rw [if_neg (by intro h; rw [hn, Bool.false_and] at h; cases h)]
           exact wpAny_pure hQ))
def Itl (K : PySem.W.Frag) (a : Addr) : It :=
 ⟨fun i H => ∃ xs x, SqL K H a xs /\ xs[i]? = some x, fun i H x H' => H' = H /\ ∀ xs, SqL K H a xs -> xs[i]? = some x, fun i H => ∃ xs, SqL K H a xs /\ xs.length <= i⟩
def Itt (K : PySem.W.Frag) (a : Addr) : It :=
 ⟨fun i H => ∃ xs x, SqT K H a xs /\ xs[i]? = some x, fun i H x H' => H' = H /\ ∀ xs, SqT K H a xs -> xs[i]? = some x, fun i H => ∃ xs, SqT K H a xs /\ xs.length <= i⟩
def Itr (lo : Int) (n : Nat) : It := ⟨fun i _ => i < n, fun i H x H' => H' = H /\ x = .int (lo + i), fun i _ => n <= i⟩
theorem turn_list {P : Program} {w : World} {K : PySem.W.Frag} {tg : Expr} (a it : Addr) : Turn P w K tg (Itl K a) [it] it (fun i h => h.IsListIter it a i) where
 mem := by simp
 obj := fun i h st b hb => by
  have e : b = it := by simpa using hb
  subst e
  obtain ⟨o, e, c, d⟩ := st
  exact ⟨o, e, fun v z => by rw [d] at z; cases z⟩
 keep := fun i h h' st k => st.at fun o e => k it (by simp) o e
 item := by
  intro X hP hw hK hc i pins s σ H E I hf st hg
  subst hP hw hK
  obtain ⟨xs, x, hq, hx⟩ := hg
  obtain ⟨its, rv, p, hz⟩ := I.list hq
  obtain ⟨u, hu, ru⟩ := rv.get hx
  obtain ⟨f0, f1, f2, f3, f4, f5⟩ := hf it (by simp)
  refine wpAny_pyNext_list_item st p.isList (x := u) (by simpa using hu) fun h' st' sb => ?_
  have I1 : Inv X pins σ H { s with heap := h' } := I.turned (t' := s.toks) (fun b o hb e => (sb.2 b hb).trans e) f0 f1 f3 f4 f5
  obtain ⟨o, e, c, d⟩ := id st'
  exact ⟨u, rfl, go_of (s := { s with heap := h' }) e c d (by decide) ⟨x, H, I1, ru, ⟨rfl, fun ys hy => by rw [I.list_inj hy hq]; exact hx⟩, st', fun b hb => (hf b hb).1⟩⟩
 done := by
  intro X hP hw hK hc i pins s σ H E I hf st hg
  subst hP hw hK
  obtain ⟨xs, hq, hx⟩ := hg
  obtain ⟨its, rv, p, hz⟩ := I.list hq
  obtain ⟨f0, f1, f2, f3, f4, f5⟩ := hf it (by simp)
  have hl := rv.length
  exact wpAny_pyNext_list_end (I.ok.hd hc) st p.isList (by simp; omega) fun h' eb => ⟨rfl, I.turned (t' := s.toks) (fun b o hb e => eb b o hb e) f0 f1 f3 f4 f5⟩
 self := fun _ _ _ _ _ st h => wpAny_pyIter_listiter st h
theorem turn_tuple {P : Program} {w : World} {K : PySem.W.Frag} {tg : Expr} (a it : Addr) : Turn P w K tg (Itt K a) [it] it (fun i h => h.IsTupleIter it a i) where
 mem := by simp
 obj := fun i h st b hb => by
  have e : b = it := by simpa using hb
  subst e
  obtain ⟨o, e, c, d⟩ := st
  exact ⟨o, e, fun v z => by rw [d] at z; cases z⟩
 keep := fun i h h' st k => st.at fun o e => k it (by simp) o e
 item := by
  intro X hP hw hK hc i pins s σ H E I hf st hg
  subst hP hw hK
  obtain ⟨xs, x, hq, hx⟩ := hg
  obtain ⟨its, rv, p, hz⟩ := I.tuple hq
  obtain ⟨u, hu, ru⟩ := rv.get hx
  obtain ⟨f0, f1, f2, f3, f4, f5⟩ := hf it (by simp)
  refine wpAny_pyNext_tuple_item st (show s.heap.IsTuple a its.toArray from p) (x := u) (by simpa using hu) fun h' st' sb => ?_
  have I1 : Inv X pins σ H { s with heap := h' } := I.turned (t' := s.toks) (fun b o hb e => (sb.2 b hb).trans e) f0 f1 f3 f4 f5
  obtain ⟨o, e, c, d⟩ := id st'
  exact ⟨u, rfl, go_of (s := { s with heap := h' }) e c d (by decide) ⟨x, H, I1, ru, ⟨rfl, fun ys hy => by rw [I.tuple_inj hy hq]; exact hx⟩, st', fun b hb => (hf b hb).1⟩⟩
 done := by
  intro X hP hw hK hc i pins s σ H E I hf st hg
  subst hP hw hK
  obtain ⟨xs, hq, hx⟩ := hg
  obtain ⟨its, rv, p, hz⟩ := I.tuple hq
  obtain ⟨f0, f1, f2, f3, f4, f5⟩ := hf it (by simp)
  have hl := rv.length
  exact wpAny_pyNext_tuple_end (I.ok.hd hc) st (show s.heap.IsTuple a its.toArray from p) (by simp; omega) fun h' eb => ⟨rfl, I.turned (t' := s.toks) (fun b o hb e => eb b o hb e) f0 f1 f3 f4 f5⟩
 self := fun _ _ _ _ _ st h => wpAny_pyIter_tupleiter st h
theorem turn_range {P : Program} {w : World} {K : PySem.W.Frag} {tg : Expr} (it : Addr) (lo : Int) (n : Nat) : Turn P w K tg (Itr lo n) [it] it (fun i h => IsRangeIter h it (lo + (i : Nat) * 1) ((n : Int) - (i : Nat)) 1) where
 mem := by simp
 obj := fun i h st b hb => by
  have e : b = it := by simpa using hb
  subst e
  exact ⟨_, st, fun v z => by
   have z' : Data.fields _ = Data.cell v := z
   cases z'⟩
 keep := fun i h h' st k => k it (by simp) _ st
 item := by
  intro X hP hw hK hc i pins s σ H E I hf st hg
  subst hP hw hK
  obtain ⟨f0, f1, f2, f3, f4, f5⟩ := hf it (by simp)
  have W := Walks.range (prog := X.prog) (w := X.w) (I.ok.hd hc) it lo 1 n
  refine W.item i s _ _ hg st fun v h' tk hv st' kk => ?_
  obtain ⟨t, rfl⟩ := hv
  have I1 : Inv X pins σ H { s with heap := h', toks := tk } := I.turned (fun b o hb e => kk b o (by simpa using hb) e) f0 f1 f3 f4 f5
  refine ⟨_, rfl, go_of (s := { s with heap := h', toks := tk }) (n := "range_iterator") st' rfl rfl (by decide) ⟨.int (lo + i), H, I1, ⟨t, ?_⟩, ⟨rfl, rfl⟩, st', fun b hb => (hf b hb).1⟩⟩
  rw [Int.mul_one]
 done := by
  intro X hP hw hK hc i pins s σ H E I hf st hg
  subst hP hw hK
  obtain ⟨f0, f1, f2, f3, f4, f5⟩ := hf it (by simp)
  exact wpAny_pyNext_range_end (I.ok.hd hc) st (by have : n <= i := hg; omega) fun h' eb => ⟨rfl, I.turned (t' := s.toks) (fun b o hb e => eb b o hb e) f0 f1 f3 f4 f5⟩
 self := fun _ _ _ _ _ st h => wpAny_pyIter_rangeiter st h
section
variable {X : Cx} {tg : Expr}
def iList (K : PySem.W.Frag) (tl : TE) : TI := fun σ H R => tl σ H fun x H1 => ∃ a, x = .ref a /\ (∃ xs, SqL K H1 a xs) /\ R (Itl K a) H1
def iTup (K : PySem.W.Frag) (tl : TE) : TI := fun σ H R => tl σ H fun x H1 => ∃ a, x = .ref a /\ (∃ xs, SqT K H1 a xs) /\ R (Itt K a) H1
theorem pi_list {l : Expr} {tl : TE} (hl : PE X l tl) : PI X tg l (iList X.K tl) := by
 intro pins s σ H R I h
 refine thn (hl pins s σ H _ I h) fun v s1 ⟨x, H1, I1, r1, q1⟩ => ?_
 obtain ⟨a, e, ⟨xs, hq⟩, q⟩ := q1
 subst e
 cases r1
 obtain ⟨its, rv, p, hz⟩ := I1.list hq
 refine wpAny_pyIter_list p.isList ?_
 refine ⟨s1.heap.objs.size, [s1.heap.objs.size], _, _, H1, rfl, I1.kept (t' := s1.toks) fun b o e => Heap.get?_push_of_some _ e, turn_list a _, ⟨_, Heap.get?_push_size _ rfl, rfl, rfl⟩, fun b hb => ?_, q⟩
 have e : b = s1.heap.objs.size := by simpa using hb
 subst e
 exact I1.fpOk (Nat.le_refl _) (I1.hok.fresh (Nat.le_refl _))
theorem pi_tup {l : Expr} {tl : TE} (hl : PE X l tl) : PI X tg l (iTup X.K tl) := by
 intro pins s σ H R I h
 refine thn (hl pins s σ H _ I h) fun v s1 ⟨x, H1, I1, r1, q1⟩ => ?_
 obtain ⟨a, e, ⟨xs, hq⟩, q⟩ := q1
 subst e
 cases r1
 obtain ⟨its, rv, p, hz⟩ := I1.tuple hq
 refine wpAny_pyIter_tuple (show s1.heap.IsTuple a its.toArray from p) ?_
 refine ⟨s1.heap.objs.size, [s1.heap.objs.size], _, _, H1, rfl, I1.kept (t' := s1.toks) fun b o e => Heap.get?_push_of_some _ e, turn_tuple a _, ⟨_, Heap.get?_push_size _ rfl, rfl, rfl⟩, fun b hb => ?_, q⟩
 have e : b = s1.heap.objs.size := by simpa using hb
 subst e
 exact I1.fpOk (Nat.le_refl _) (I1.hok.fresh (Nat.le_refl _))
theorem range_it {pins : List (Addr × Obj)} {σ : St} {H : Hp} {s : Shared} {R : It -> Hp -> Prop} {E : Value -> Shared -> Prop} {lo hi : Int} {t u v : Tok} {tk : Nat} (I : Inv X pins σ H s) (h1 : -(2 ^ 62) <= lo) (h2 : lo < 2 ^ 62) (h3 : -(2 ^ 62) <= hi) (h4 : hi < 2 ^ 62)
  (q : R (Itr lo (hi - lo).toNat) H) : wpAny (model X.prog X.w) X.A (pyIter (.ref s.heap.objs.size)) (PIE X pins σ tg R) E { s with heap := s.heap.push { cls := .type "range", data := .fields #[.int lo t, .int hi u, .int 1 v] }, toks := tk } := by
 refine wpAny_pyIter_range (IsRange.new ..) (small_one h1 h2 h3 h4) ?_
 have I1 : Inv X pins σ H { s with heap := s.heap.push { cls := .type "range", data := .fields #[.int lo t, .int hi u, .int 1 v] }, toks := tk } := I.kept fun b o e => Heap.get?_push_of_some _ e
 refine ⟨(s.heap.push { cls := .type "range", data := .fields #[.int lo t, .int hi u, .int 1 v] }).objs.size, [(s.heap.push { cls := .type "range", data := .fields #[.int lo t, .int hi u, .int 1 v] }).objs.size], _, _, H, rfl,
  I1.kept (t' := tk) fun b o e => Heap.get?_push_of_some _ e, turn_range _ lo (hi - lo).toNat, ?_, fun b hb => ?_, q⟩
 ·have e1 : lo + ((0 : Nat) : Int) * 1 = lo := by simp
  have e2 : (((hi - lo).toNat : Nat) : Int) - ((0 : Nat) : Int) = Builtin.Range.rangeSize lo hi 1 := by rw [rangeSize_one]; split <;> omega
  show IsRangeIter _ _ (lo + ((0 : Nat) : Int) * 1) ((((hi - lo).toNat : Nat) : Int) - ((0 : Nat) : Int)) 1
  rw [e1, e2]
  exact Heap.get?_push_size _ rfl
 ·have e : b = (s.heap.push { cls := .type "range", data := .fields #[.int lo t, .int hi u, .int 1 v] }).objs.size := by simpa using hb
  subst e
  exact I1.fpOk (Nat.le_refl _) (I1.hok.fresh (Nat.le_refl _))
def iRng1 (ta : TA) : TI := fun σ H R => ta σ H fun vs H1 => ∃ j : Int, vs = [.int j] /\ -(2 ^ 62) <= j /\ j < 2 ^ 62 /\ R (Itr 0 j.toNat) H1
theorem pi_range1 {a : Expr} {ta : TA} {p pos : Pos} (hg : Gl X "range") (hm : X.mg "range" = none) (ha : PA X [a] ta) (hs : autoParam (starEach [a] X.env = [(false, eval a X.env)]) AutoP.a3._auto_1) : PI X tg (.Call (.Name "range" p) [a] [] pos) (iRng1 ta) := by
 intro pins s σ H R I h
 refine Call_ (ld_blt I hg hm boot_range (PyProof.Rows.callWith_type1 (thn (ha pos pins s σ H _ I h) fun us s1 ⟨vs, H1, I1, r1, q1⟩ => ?_) hs rfl))
 obtain ⟨j, e, q1, q2, q⟩ := q1
 subst e
 cases r1 with
 | cons r rr =>
  cases rr
  obtain ⟨t, rfl⟩ := r
  exact call_range_1 (range_it I1 (by omega) (by omega) q1 q2 (by simpa using q))
def tFor (wi : TI) (g : TG) (tb : TS) : TS := fun D σ H => wi σ H fun J H1 => ∃ W : Nat -> Nat -> St -> Hp -> Prop, (∃ m, W 0 m σ H1) /\ ∀ i m σ H, W i m σ H →
 (J.stop i H /\ D.nx σ H) ∨ (J.go i H /\ ∃ N : St -> Hp -> Prop, (∀ σ' H', N σ' H' -> ∃ m', m' < m /\ W (i + 1) m' σ' H') /\ ∀ x H', J.yld i H x H' -> g x σ H' fun σ2 H2 => tb { D with nx := N, ct := N, bk := D.nx } σ2 H2)
def pinsAt (fp : List Addr) (h : Heap) : List (Addr × Obj) := fp.filterMap fun b => (h.get? b).map fun o => (b, o)
theorem mem_pinsAt {fp : List Addr} {h : Heap} {b : Addr} {o : Obj} (hb : b ∈ fp) (e : h.get? b = some o) : (b, o) ∈ pinsAt fp h := List.mem_filterMap.mpr ⟨b, hb, by rw [e]; rfl⟩
theorem of_pinsAt {fp : List Addr} {h : Heap} {p : Addr × Obj} (hp : p ∈ pinsAt fp h) : p.1 ∈ fp /\ h.get? p.1 = some p.2 := by
 obtain ⟨b, hb, e⟩ := List.mem_filterMap.mp hp
 cases q : h.get? b with
 | none => rw [q] at e; cases e
 | some o =>
  rw [q] at e
  have e' : (b, o) = p := Option.some.inj e
  subst e'
  exact ⟨hb, q⟩
theorem Inv.pinned {pins : List (Addr × Obj)} {σ : St} {H : Hp} {s : Shared} {fp : List Addr} (I : Inv X pins σ H s) (hf : ∀ b ∈ fp, FpOk X pins H b) (ho : ∀ b ∈ fp, ∃ o, s.heap.get? b = some o /\ ∀ v, o.data ≠ .cell v) : Inv X (pins ++ pinsAt fp s.heap) σ H s :=
 I.pins_of fun p hp => (List.mem_append.mp hp).elim (fun z => I.pin p (List.mem_append_right _ z)) fun z => by
  obtain ⟨hb, e⟩ := of_pinsAt z
  obtain ⟨f0, f1, f2, _⟩ := hf p.1 hb
  obtain ⟨o, e', d⟩ := ho p.1 hb
  rw [e] at e'; cases e'
  exact ⟨e, f0, f1, f2, d⟩
theorem Inv.unpinned {pins pl : List (Addr × Obj)} {σ : St} {H : Hp} {s : Shared} (I : Inv X (pins ++ pl) σ H s) : Inv X pins σ H s := I.pins_of fun p hp => I.pin p (List.mem_append_right _ (List.mem_append_left _ hp))
theorem ps_for {iter : Expr} {body : List Stmt} {wi : TI} {g : TG} {tb : TS} {pos : Pos} (hp : PassesOwn (model X.prog X.w) X.A X.env X.xe) (hc : X.calm = true) (hi : PI X tg iter wi) (hg : PG X tg g) (hb : PSs X body tb)
  (hs : autoParam (∀ x, foldedSetIterable iter X.env x = pure x) AutoP.a2._auto_1) : PS X (.For tg iter body [] pos) (tFor wi g tb) := by
 intro pins s σ H D I h
 refine wpAny_For (thn (hi pins s σ H _ I h) fun v s1 h1 => thn h1 fun itv s2 h2 => ?_) hs
 obtain ⟨it, fp, tn, J, H2, e, I2, T, st2, f2, W, ⟨m0, w0⟩, turn⟩ := h2
 subst e
 have stat : ∀ {H' : Hp}, (∀ b ∈ fp, H' b = none) -> ∀ b ∈ fp, FpOk X pins H' b := fun hn b hb => ⟨hn b hb, (f2 b hb).2⟩
 refine codeAny_forLoop_any (fun n s' => ∃ i σ' H', Inv X pins σ' H' s' /\ tn i s'.heap /\ (∀ b ∈ fp, H' b = none) /\ W i n σ' H') ?_ m0 ⟨0, σ, H2, I2, st2, fun b hb => (f2 b hb).1, w0⟩
 rintro n s3 ⟨i, σ3, H3, I3, st3, fr3, w3⟩
 rcases turn i n σ3 H3 w3 with ⟨stop, qn⟩ | ⟨go, N, hN, step⟩
 ·refine wpAny_passesOwn hp (thn (T.done X rfl rfl rfl hc i pins s3 σ3 H3 X.xe I3 (stat fr3) st3 stop) fun r s4 ⟨hr, I4⟩ => ?_)
  subst hr
  exact wpAny_execs_nil ⟨σ3, H3, I4, qn⟩
 ·refine wpAny_passesOwn hp (thn (T.item X rfl rfl rfl hc i pins s3 σ3 H3 X.xe I3 (stat fr3) st3 go) fun r s4 ⟨u, hr, h4⟩ => ?_)
  subst hr
  refine wpAny_passesOwn hp (thn h4 fun _ s5 ⟨x, H5, I5, r5, y5, st5, fr5⟩ => ?_)
  have I5' := I5.pinned (stat fr5) (T.obj _ _ st5)
  refine wpAny_passesOwn hp (thn (hg _ s5 σ3 H5 x u _ I5' r5 (step x H5 y5)) fun _ s6 ⟨σ6, H6, I6, q6⟩ => ?_)
  refine wpAny_passesOwn hp (thn (hb _ s6 σ6 H6 _ I6 q6) fun f s7 q7 => ?_)
  have again : ∀ {σ7 : St} {H7 : Hp}, Inv X (pins ++ pinsAt fp s5.heap) σ7 H7 s7 -> N σ7 H7 -> ∃ m, m < n /\ ∃ i σ' H', Inv X pins σ' H' s7 /\ tn i s7.heap /\ (∀ b ∈ fp, H' b = none) /\ W i m σ' H' := fun {σ7 H7} I7 n7 => by
   obtain ⟨m', hm, w7⟩ := hN σ7 H7 n7
   refine ⟨m', hm, i + 1, σ7, H7, I7.unpinned, T.keep _ _ _ st5 fun b hb o e => (I7.pin (b, o) (List.mem_append_right _ (List.mem_append_right _ (mem_pinsAt hb e)))).1, fun b hb => ?_, w7⟩
   obtain ⟨o, e, d⟩ := T.obj _ _ st5 b hb
   exact (I7.pin (b, o) (List.mem_append_right _ (List.mem_append_right _ (mem_pinsAt hb e)))).2.1
  cases f with
  | next => obtain ⟨σ7, H7, I7, n7⟩ := q7; exact again I7 n7
  | cont => obtain ⟨σ7, H7, I7, n7⟩ := q7; exact again I7 n7
  | brk => obtain ⟨σ7, H7, I7, q7⟩ := q7; exact ⟨σ7, H7, I7.unpinned, q7⟩
  | ret v => obtain ⟨x7, σ7, H7, I7, r7, q7⟩ := q7; exact ⟨x7, σ7, H7, I7.unpinned, r7, q7⟩
end
abbrev R2 := V -> V -> Hp -> VK -> Prop
def OpR (X : Cx) (f : Value -> Value -> Sem Value) (r : R2) : Prop :=
 ∀ (pins : List (Addr × Obj)) (s : Shared) (σ : St) (H : Hp) (x y : V) (v u : Value) (Q : VK), Inv X pins σ H s -> RelV x v -> RelV y u -> r x y H Q →
  wpAny (model X.prog X.w) X.A (f v u) (EP X pins σ Q) X.xe s
def UnR (X : Cx) (f : Value -> Sem Value) (r : V -> Hp -> VK -> Prop) : Prop :=
 ∀ (pins : List (Addr × Obj)) (s : Shared) (σ : St) (H : Hp) (x : V) (v : Value) (Q : VK), Inv X pins σ H s -> RelV x v -> r x H Q →
  wpAny (model X.prog X.w) X.A (f v) (EP X pins σ Q) X.xe s
def CallR (X : Cx) (f : Value) (r : List V -> Hp -> VK -> Prop) : Prop :=
 ∀ (pins : List (Addr × Obj)) (s : Shared) (σ : St) (H : Hp) (xs : List V) (us : List Value) (Q : VK), Inv X pins σ H s -> Vals xs us -> r xs H Q →
  wpAny (model X.prog X.w) X.A (call f us) (EP X pins σ Q) X.xe s
def tOp (r : R2) (ta tb : TE) : TE := fun σ H Q => ta σ H fun x H1 => tb σ H1 fun y H2 => r x y H2 Q
def tUn (r : V -> Hp -> VK -> Prop) (ta : TE) : TE := fun σ H Q => ta σ H fun x H1 => r x H1 Q
def rI (C : Int -> Int -> Prop) (g : Int -> Int -> V) : R2 := fun x y H Q => ∃ i j, x = .int i /\ y = .int j /\ C i j /\ Q (g i j) H
def rI0 (g : Int -> Int -> V) : R2 := fun x y H Q => ∃ i j, x = .int i /\ y = .int j /\ Q (g i j) H
def rU (g : Int -> V) : V -> Hp -> VK -> Prop := fun x H Q => ∃ i, x = .int i /\ Q (g i) H
section
variable {X : Cx} {a b c : Expr} {ta tb tc : TE} {pos : Pos}
theorem binT (ha : PE X a ta) (hb : PE X b tb) {pins : List (Addr × Obj)} {s : Shared} {σ : St} {H : Hp} {R : V -> V -> Hp -> Prop} (I : Inv X pins σ H s)
  (h : ta σ H fun x H1 => tb σ H1 fun y H2 => R x y H2) {Q : Value -> Shared -> Prop} {f : Value -> Value -> Sem Value}
  (hf : ∀ v u s2 x y H2, Inv X pins σ H2 s2 -> RelV x v -> RelV y u -> R x y H2 -> wpAny (model X.prog X.w) X.A (f v u) Q X.xe s2) :
  wpAny (model X.prog X.w) X.A (eval a X.env) (fun v s₁ => wpAny (model X.prog X.w) X.A (eval b X.env) (fun u s₂ => wpAny (model X.prog X.w) X.A (f v u) Q X.xe s₂) X.xe s₁) X.xe s := by
 refine thn (ha pins s σ H _ I h) fun v s1 ⟨x, H1, I1, r1, q1⟩ => ?_
 refine thn (hb pins s1 σ H1 _ I1 q1) fun u s2 ⟨y, H2, I2, r2, q2⟩ => ?_
 exact hf v u s2 x y H2 I2 r1 r2 q2
theorem pe_op {op : Operator} {r : R2} (ho : OpR X (binaryOp op) r) (ha : PE X a ta) (hb : PE X b tb) : PE X (.BinOp a op b pos) (tOp r ta tb) := by
 intro pins s σ H Q I h
 exact wpAny_BinOp (binT ha hb I h fun v u s2 x y H2 I2 rx ry q => ho pins s2 σ H2 x y v u Q I2 rx ry q)
theorem pe_un {op : UnaryOp} {r : V -> Hp -> VK -> Prop} (ho : UnR X (unaryOp op) r) (ha : PE X a ta) : PE X (.UnaryOp op a pos) (tUn r ta) := by
 intro pins s σ H Q I h
 exact UnaryOp_ (thn (ha pins s σ H _ I h) fun v s1 ⟨x, H1, I1, r1, q1⟩ => ho pins s1 σ H1 x v Q I1 r1 q1)
theorem opI {f : Value -> Value -> Sem Value} {C : Int -> Int -> Prop} {g : Int -> Int -> Int}
  (rule : ∀ (i j : Int) (t u : Tok) (s : Shared) (Q : Value -> Shared -> Prop) (E : Value -> Shared -> Prop), C i j -> Q (.int (g i j) s.toks) { s with toks := s.toks + 1 } -> wpAny (model X.prog X.w) X.A (f (.int i t) (.int j u)) Q E s) :
  OpR X f (rI C fun i j => .int (g i j)) := by
 intro pins s σ H x y v u Q I rx ry h
 obtain ⟨i, j, rfl, rfl, hc, q⟩ := h
 obtain ⟨t, rfl⟩ := rx
 obtain ⟨t', rfl⟩ := ry
 exact rule i j t t' s _ _ hc ⟨.int (g i j), H, I.tok _, ⟨_, rfl⟩, q⟩
theorem opI0 {f : Value -> Value -> Sem Value} {g : Int -> Int -> Int}
  (rule : ∀ (i j : Int) (t u : Tok) (s : Shared) (Q : Value -> Shared -> Prop) (E : Value -> Shared -> Prop), Q (.int (g i j) s.toks) { s with toks := s.toks + 1 } -> wpAny (model X.prog X.w) X.A (f (.int i t) (.int j u)) Q E s) :
  OpR X f (rI0 fun i j => .int (g i j)) := by
 intro pins s σ H x y v u Q I rx ry h
 obtain ⟨i, j, rfl, rfl, q⟩ := h
 obtain ⟨t, rfl⟩ := rx
 obtain ⟨t', rfl⟩ := ry
 exact rule i j t t' s _ _ ⟨.int (g i j), H, I.tok _, ⟨_, rfl⟩, q⟩
theorem opB0 {f : Value -> Value -> Sem Value} {g : Int -> Int -> Bool}
  (rule : ∀ (i j : Int) (t u : Tok) (s : Shared) (Q : Value -> Shared -> Prop) (E : Value -> Shared -> Prop), Q (.bool (g i j)) s -> wpAny (model X.prog X.w) X.A (f (.int i t) (.int j u)) Q E s) :
  OpR X f (rI0 fun i j => .bl (g i j)) := by
 intro pins s σ H x y v u Q I rx ry h
 obtain ⟨i, j, rfl, rfl, q⟩ := h
 obtain ⟨t, rfl⟩ := rx
 obtain ⟨t', rfl⟩ := ry
 exact rule i j t t' s _ _ ⟨.bl (g i j), H, I, rfl, q⟩
def CPow (i j : Int) : Prop := 0 <= j /\ j <= 1000000 /\ i.natAbs < 2 ^ 64
def CMul (i j : Int) : Prop := (-(2 ^ 64) < i /\ i < 2 ^ 64) ∨ (-(2 ^ 64) < j /\ j < 2 ^ 64)
theorem CMul.ok {i j : Int} (h : CMul i j) : IntMulOk i j := by
 rcases h with ⟨h1, h2⟩ | ⟨h1, h2⟩
 ·exact .of_left (intBits_le_64 h1 h2)
 ·exact .of_right (intBits_le_64 h1 h2)
theorem op_add : OpR X (binaryOp .Add) (rI0 fun i j => .int (i + j)) := opI0 fun _ _ _ _ _ _ _ q => add_int q
theorem op_sub : OpR X (binaryOp .Sub) (rI0 fun i j => .int (i - j)) := opI0 fun _ _ _ _ _ _ _ q => sub_int q
theorem op_mul : OpR X (binaryOp .Mult) (rI CMul fun i j => .int (i * j)) := opI fun _ _ _ _ _ _ _ hc q => mul_int q hc.ok
theorem op_mod : OpR X (binaryOp .Mod) (rI (fun _ j => 0 < j) fun i j => .int (i % j)) := opI fun i j _ _ _ _ _ hc q => by
 have h1 : (0 : Int) < j := hc
 exact mod_int' (by omega) (by rw [Int.fmod_eq_emod_of_nonneg i (by omega)]; exact q)
theorem op_pow : OpR X (binaryOp .Pow) (rI CPow fun i j => .int (i ^ j.toNat)) := opI fun _ _ _ _ _ _ _ hc q => pow_int_small hc.1 hc.2.1 hc.2.2 q
theorem op_shl : OpR X (binaryOp .LShift) (rI CPow fun i j => .int (i * 2 ^ j.toNat)) := opI fun _ _ _ _ _ _ _ hc q => lshift_int_small hc.1 hc.2.1 hc.2.2 q
theorem unI {f : Value -> Sem Value} {g : Int -> Int}
  (rule : ∀ (i : Int) (t : Tok) (s : Shared) (Q : Value -> Shared -> Prop) (E : Value -> Shared -> Prop), Q (.int (g i) s.toks) { s with toks := s.toks + 1 } -> wpAny (model X.prog X.w) X.A (f (.int i t)) Q E s) :
  UnR X f (rU fun i => .int (g i)) := by
 intro pins s σ H x v Q I rx h
 obtain ⟨i, rfl, q⟩ := h
 obtain ⟨t, rfl⟩ := rx
 exact rule i t s _ _ ⟨.int (g i), H, I.tok _, ⟨_, rfl⟩, q⟩
theorem un_neg : UnR X (unaryOp .USub) (rU fun i => .int (-i)) := unI fun _ _ _ _ _ q => neg_int q
end
def scal : V -> V -> Bool
 | .non, .non => true | .non, .int _ => true | .int _, .non => true | .non, .bl _ => true | .bl _, .non => true | .non, .str _ => true | .str _, .non => true
 | .int _, .int _ => true | .bl _, .bl _ => true | .str _, .str _ => true | .byt _, .byt _ => true
 | .int _, .str _ => true | .str _, .int _ => true | .bl _, .str _ => true | .str _, .bl _ => true
 | _, _ => false
def rEq : R2 := fun x y H Q => scal x y = true /\ Q (.bl (decide (x = y))) H
def rNe : R2 := fun x y H Q => scal x y = true /\ Q (.bl (!decide (x = y))) H
theorem dec_int {i j : Int} : decide (V.int i = V.int j) = (i == j) := by
 rw [Bool.eq_iff_iff]
 simp
theorem dec_bl {i j : Bool} : decide (V.bl i = V.bl j) = (i == j) := by
 rw [Bool.eq_iff_iff]
 simp
theorem dec_str {i j : Str} : decide (V.str i = V.str j) = (i == j) := by
 rw [Bool.eq_iff_iff]
 simp
theorem dec_byt {i j : Array UInt8} : decide (V.byt i = V.byt j) = (i.toList == j.toList) := by
 rw [Bool.eq_iff_iff]
 cases i
 cases j
 simp
section
variable {X : Cx} {a b c : Expr} {ta tb tc : TE} {pos : Pos}
theorem fin_bl {pins : List (Addr × Obj)} {σ : St} {H : Hp} {s : Shared} {Q : VK} {k k' : Bool} (I : Inv X pins σ H s) (q : Q (.bl k) H) (e : k = k') : EP X pins σ Q (.bool k') s := by
 subst e
 exact ⟨.bl k, H, I, rfl, q⟩
theorem op_eq : OpR X (compareOp .Eq) rEq := by
 intro pins s σ H x y v u Q I rx ry h
 obtain ⟨hs, q⟩ := h
 cases x with
 | non =>
  cases rx
  cases y with
  | non => cases ry; exact PySem.EqNone.eq_none_none (fin_bl I q (by simp))
  | bl j => cases ry; exact PySem.EqNone.eq_none_bool (fin_bl I q (by simp))
  | int j => obtain ⟨t', rfl⟩ := ry; exact PySem.EqNone.eq_none_int (fin_bl I q (by simp))
  | str j => obtain ⟨t', rfl⟩ := ry; exact PySem.EqNone.eq_none_str (fin_bl I q (by simp))
  | _ => exact absurd (show false = true from hs) Bool.false_ne_true
 | bl i =>
  cases rx
  cases y with
  | non => cases ry; exact PySem.EqNone.eq_bool_none (fin_bl I q (by simp))
  | bl j => cases ry; exact eq_bool (fin_bl I q dec_bl)
  | str j => obtain ⟨t', rfl⟩ := ry; exact PySem.EqMixed.eq_bool_str (fin_bl I q (by simp))
  | _ => exact absurd (show false = true from hs) Bool.false_ne_true
 | int i =>
  obtain ⟨t, rfl⟩ := rx
  cases y with
  | non => cases ry; exact PySem.EqNone.eq_int_none (fin_bl I q (by simp))
  | int j => obtain ⟨t', rfl⟩ := ry; exact eq_int (fin_bl I q dec_int)
  | str j => obtain ⟨t', rfl⟩ := ry; exact PySem.EqMixed.eq_int_str (fin_bl I q (by simp))
  | _ => exact absurd (show false = true from hs) Bool.false_ne_true
 | str i =>
  obtain ⟨t, rfl⟩ := rx
  cases y with
  | non => cases ry; exact PySem.EqNone.eq_str_none (fin_bl I q (by simp))
  | bl j => cases ry; exact PySem.EqMixed.eq_str_bool (fin_bl I q (by simp))
  | int j => obtain ⟨t', rfl⟩ := ry; exact PySem.EqMixed.eq_str_int (fin_bl I q (by simp))
  | str j => obtain ⟨t', rfl⟩ := ry; exact eq_str (fin_bl I q dec_str)
  | _ => exact absurd (show false = true from hs) Bool.false_ne_true
 | byt i =>
  obtain ⟨t, rfl⟩ := rx
  cases y with
  | byt j => obtain ⟨t', rfl⟩ := ry; exact PySem.W.eq_bytes (fin_bl I q dec_byt)
  | _ => exact absurd (show false = true from hs) Bool.false_ne_true
 | _ => cases y <;> exact absurd (show false = true from hs) Bool.false_ne_true
theorem op_ne : OpR X (compareOp .NotEq) rNe := by
 intro pins s σ H x y v u Q I rx ry h
 obtain ⟨hs, q⟩ := h
 cases x with
 | non =>
  cases rx
  cases y with
  | non => cases ry; exact PySem.EqNone.ne_none_none (fin_bl I q (by simp))
  | bl j => cases ry; exact PySem.EqNone.ne_none_bool (fin_bl I q (by simp))
  | int j => obtain ⟨t', rfl⟩ := ry; exact PySem.EqNone.ne_none_int (fin_bl I q (by simp))
  | str j => obtain ⟨t', rfl⟩ := ry; exact PySem.EqNone.ne_none_str (fin_bl I q (by simp))
  | _ => exact absurd (show false = true from hs) Bool.false_ne_true
 | bl i =>
  cases rx
  cases y with
  | non => cases ry; exact PySem.EqNone.ne_bool_none (fin_bl I q (by simp))
  | bl j => cases ry; exact ne_bool (fin_bl I q (congrArg not dec_bl))
  | str j => obtain ⟨t', rfl⟩ := ry; exact PySem.EqMixed.ne_bool_str (fin_bl I q (by simp))
  | _ => exact absurd (show false = true from hs) Bool.false_ne_true
 | int i =>
  obtain ⟨t, rfl⟩ := rx
  cases y with
  | non => cases ry; exact PySem.EqNone.ne_int_none (fin_bl I q (by simp))
  | int j => obtain ⟨t', rfl⟩ := ry; exact ne_int (fin_bl I q (congrArg not dec_int))
  | str j => obtain ⟨t', rfl⟩ := ry; exact PySem.EqMixed.ne_int_str (fin_bl I q (by simp))
  | _ => exact absurd (show false = true from hs) Bool.false_ne_true
 | str i =>
  obtain ⟨t, rfl⟩ := rx
  cases y with
  | non => cases ry; exact PySem.EqNone.ne_str_none (fin_bl I q (by simp))
  | bl j => cases ry; exact PySem.EqMixed.ne_str_bool (fin_bl I q (by simp))
  | int j => obtain ⟨t', rfl⟩ := ry; exact PySem.EqMixed.ne_str_int (fin_bl I q (by simp))
  | str j => obtain ⟨t', rfl⟩ := ry; exact ne_str (fin_bl I q (congrArg not dec_str))
  | _ => exact absurd (show false = true from hs) Bool.false_ne_true
 | byt i =>
  obtain ⟨t, rfl⟩ := rx
  cases y with
  | byt j => obtain ⟨t', rfl⟩ := ry; exact PySem.W.ne_bytes (fin_bl I q (congrArg not dec_byt))
  | _ => exact absurd (show false = true from hs) Bool.false_ne_true
 | _ => cases y <;> exact absurd (show false = true from hs) Bool.false_ne_true
theorem op_lt : OpR X (compareOp .Lt) (rI0 fun i j => .bl (decide (i < j))) := opB0 fun _ _ _ _ _ _ _ q => lt_int q
theorem op_gt : OpR X (compareOp .Gt) (rI0 fun i j => .bl (decide (j < i))) := opB0 fun _ _ _ _ _ _ _ q => gt_int q
theorem op_ge : OpR X (compareOp .GtE) (rI0 fun i j => .bl (decide (j <= i))) := opB0 fun _ _ _ _ _ _ _ q => ge_int q
theorem op_lt_str : OpR X (compareOp .Lt) (fun x y H Q => ∃ i j, x = .str i /\ y = .str j /\ Q (.bl (decide (i.cps.toList < j.cps.toList))) H) := by
 intro pins s σ H x y v u Q I rx ry h
 obtain ⟨i, j, rfl, rfl, q⟩ := h
 obtain ⟨t, rfl⟩ := rx
 obtain ⟨t', rfl⟩ := ry
 exact lt_str (fin_bl I q rfl)
theorem OpR.or {f : Value -> Value -> Sem Value} {r r' : R2} (h : OpR X f r) (h' : OpR X f r') : OpR X f (fun x y H Q => r x y H Q ∨ r' x y H Q) := by
 intro pins s σ H x y v u Q I rx ry q
 rcases q with q | q
 ·exact h pins s σ H x y v u Q I rx ry q
 ·exact h' pins s σ H x y v u Q I rx ry q
theorem nomark (b : Expr) {op : CmpOp} (h : autoParam (op ≠ .In) AutoP.a1._auto_1) (h2 : autoParam (op ≠ .NotIn) AutoP.a1._auto_1) : behindInMarks op b = false := by
 have e1 : (op == CmpOp.In) = false := by cases op <;> first | rfl | exact absurd rfl h
 have e2 : (op == CmpOp.NotIn) = false := by cases op <;> first | rfl | exact absurd rfl h2
 cases b <;> simp [behindInMarks, e1, e2]
theorem pe_cmpR {op : CmpOp} {r : R2} (ho : OpR X (compareOp op) r) (ha : PE X a ta) (hb : PE X b tb) (hm : behindInMarks op b = false) : PE X (.Compare a [op] [b] pos) (tOp r ta tb) := by
 intro pins s σ H Q I h
 exact wpAny_Compare1 (binT ha hb I h fun v u s2 x y H2 I2 rx ry q => ho pins s2 σ H2 x y v u Q I2 rx ry q) hm
def tTest (t : TE) : TT := fun σ H Q => t σ H fun x H' => ∃ k, x = .bl k /\ Q k H'
theorem pt_cmpR {op : CmpOp} {r : R2} (ho : OpR X (compareOp op) r) (ha : PE X a ta) (hb : PE X b tb) (hm : behindInMarks op b = false) : PT X (.Compare a [op] [b] pos) (tTest (tOp r ta tb)) := by
 intro pins s σ H Q I h
 refine wpAny_isTrue_Compare1 (thn (ha pins s σ H _ I h) fun v s1 ⟨x, H1, I1, r1, q1⟩ => thn (hb pins s1 σ H1 _ I1 q1) fun u s2 ⟨y, H2, I2, r2, q2⟩ =>
  thn (ho pins s2 σ H2 x y v u _ I2 r1 r2 q2) fun c s3 ⟨z, H3, I3, r3, k, e, q3⟩ => ?_) hm
 subst e
 cases r3
 exact wpAny_truthy_bool ⟨H3, I3, q3⟩
theorem line63 : (sizeLine : Nat) < 2 ^ 63 := by rw [sizeLine_eq]; decide
theorem op_add_str : OpR X (binaryOp .Add) (fun x y H Q => ∃ i j, x = .str i /\ y = .str j /\ i.length + j.length <= sizeLine /\ Q (.str (i ++ j)) H) := by
 intro pins s σ H x y v u Q I rx ry h
 obtain ⟨i, j, rfl, rfl, hz, q⟩ := h
 obtain ⟨t, rfl⟩ := rx
 obtain ⟨t', rfl⟩ := ry
 exact add_str (fun t' tk => ⟨.str (i ++ j), H, I.tok _, ⟨_, rfl⟩, q⟩) hz
theorem vals1 {x : V} {us : List Value} (r : Vals [x] us) : ∃ u, us = [u] /\ RelV x u := by
 cases r with
 | cons r1 r2 => cases r2; exact ⟨_, rfl, r1⟩
theorem vals2 {x y : V} {us : List Value} (r : Vals [x, y] us) : ∃ u w', us = [u, w'] /\ RelV x u /\ RelV y w' := by
 cases r with
 | cons r1 r2 =>
  cases r2 with
  | cons r3 r4 => cases r4; exact ⟨_, _, rfl, r1, r3⟩
theorem call_abs : CallR X (.builtin "abs") (fun xs H Q => ∃ i, xs = [.int i] /\ Q (.int (if i < 0 then -i else i)) H) := by
 intro pins s σ H xs us Q I r h
 obtain ⟨i, rfl, q⟩ := h
 obtain ⟨u, rfl, t, rfl⟩ := vals1 r
 exact call_abs_int fun u tk => ⟨.int (if i < 0 then -i else i), H, I.tok _, ⟨_, rfl⟩, q⟩
theorem call_min2 (hc : X.calm = true) : CallR X (.builtin "min") (fun xs H Q => ∃ i j, xs = [.int i, .int j] /\ Q (.int (if j < i then j else i)) H) := by
 intro pins s σ H xs us Q I r h
 obtain ⟨i, j, rfl, q⟩ := h
 obtain ⟨u, w', rfl, ⟨t, rfl⟩, ⟨t', rfl⟩⟩ := vals2 r
 refine min_two_ints (I.ok.hd hc) fun h' tk k => ⟨_, H, I.kept k, ?_, q⟩
 by_cases hj : j < i
 ·rw [if_pos hj, if_pos hj]; exact ⟨_, rfl⟩
 ·rw [if_neg hj, if_neg hj]; exact ⟨_, rfl⟩
theorem call_int1 : CallR X (.type "int") (fun xs H Q => (∃ i, xs = [.int i] /\ Q (.int i) H) ∨ ∃ k, xs = [.bl k] /\ Q (.int (if k then 1 else 0)) H) := by
 intro pins s σ H xs us Q I r h
 rcases h with ⟨i, rfl, q⟩ | ⟨k, rfl, q⟩
 ·obtain ⟨u, rfl, t, rfl⟩ := vals1 r
  exact call_int_int ⟨.int i, H, I, ⟨_, rfl⟩, q⟩
 ·obtain ⟨u, rfl, r1⟩ := vals1 r
  cases r1
  exact call_int_bool ⟨.int (if k then 1 else 0), H, I.tok _, ⟨_, rfl⟩, q⟩
end
structure ObjM (h : Heap) (x dx C : Addr) (mA : Str -> Option Value) : Prop where
 obj : h.get? x = some (PySem.W.instObj C dx)
 ns : h.Ns1 dx mA
 ne : dx ≠ x
theorem lookIn_ns {h : Heap} {dx : Addr} {mA : Str -> Option Value} (n : h.Ns1 dx mA) : ∃ od, h.get? dx = some od /\ ∀ name, PySem.W.lookIn name od = some (mA name) := by
 obtain ⟨o, es, ep, ho, hd, hk, _, hm⟩ := n
 refine ⟨o, ho, fun name => ?_⟩
 have e := hm name
 unfold nsFind findBy at e
 rw [<- Array.find?_toList] at e
 unfold PySem.W.lookIn
 rw [hd]
 dsimp only
 split
 ·rename_i y q
  rw [q] at e
  exact congrArg some e
 ·rename_i q
  rw [q] at e
  have a : es.toList.any (·.refKey) = false := by
   rw [List.any_eq_false]
   intro y hy
   obtain ⟨z, t, hkey⟩ := hk y (Array.mem_toList_iff.mp hy)
   simp [DictEntry.refKey, hkey]
  have a' : ¬ es.toList.any (·.refKey) = true := by rw [a]; exact Bool.false_ne_true
  rw [if_neg a']
  exact congrArg some e
theorem ObjM.look {h : Heap} {x dx C : Addr} {mA : Str -> Option Value} (I : ObjM h x dx C mA) : ∃ od, PySem.W.InstAt h x (PySem.W.instObj C dx) C (some od) /\ ∀ name, PySem.W.lookIn name od = some (mA name) :=
 let ⟨od, ho, hl⟩ := lookIn_ns I.ns
 ⟨od, ⟨I.obj, rfl, rfl, ho⟩, hl⟩
section
variable {prog : Program} {w : World} {A : Around} {E : Value -> Shared -> Prop} {s : Shared} {K : PySem.W.Frag} {x dx C f : Addr} {mA : Str -> Option Value} {name : Str} {v : Value}
end
theorem RelO.some_of {v : V} {o : Option Value} (r : RelO (some v) o) : ∃ u, o = some u /\ RelV v u := by
 cases o with
 | none => exact (show False from r).elim
 | some u => exact ⟨u, rfl, r⟩
section
variable {P : Program} {w : World} {H H' : Hp} {h h' : Heap} {a C dx : Addr} {fs fs' : List (Str × V)}
theorem ins_get (hok : HOk P w H h) (e : H a = some (.ins C dx fs)) : ∃ mA, ObjM h a dx C mA /\ (∀ f, RelO (fs.lookup f) (mA f)) /\ PySem.Within mA (fs.map (·.1)) /\ fs.length <= 1000 /\ H dx = some (.own a) := by
 obtain ⟨d, z, ne, ob, mA, n, r, q⟩ := (show ObjOk P w H h a (.ins C dx fs) from hok a _ e)
 exact ⟨mA, ⟨ob, n, ne⟩, r, q, z, d⟩
end
structure Cls (K : PySem.W.Frag) (C : Addr) : Prop where
 pg : PySem.W.plainGet K C Str.empty = true
 hd : PySem.W.hasDictIn K C = true
 po : PySem.W.plainOver K C = true
 sa : PySem.W.findIn K (.ref C) "__setattr__" = some (some (.builtin "object.__setattr__"))
theorem Cls.get {K : PySem.W.Frag} {C : Addr} (c : Cls K C) (f : Str) : PySem.W.plainGet K C f = true := c.pg
section
variable {X : Cx} {pins : List (Addr × Obj)} {σ : St} {H : Hp} {s : Shared} {a C dx : Addr} {fs : List (Str × V)} {f : Str} {v : V} {A : Around} {E : Value -> Shared -> Prop}
end
section
variable {X : Cx} {pins : List (Addr × Obj)} {σ : St} {H : Hp} {s : Shared} {A : Around} {E : Value -> Shared -> Prop} {Q : Value -> Shared -> Prop} {c : Value} {b : Bool}
inductive TyOf (K : PySem.W.Frag) (H : Hp) : V -> Value -> Prop where
 | non : TyOf K H .non (.type "NoneType")
 | bl (x : Bool) : TyOf K H (.bl x) (.type "bool")
 | int (i : Int) : TyOf K H (.int i) (.type "int")
 | str (x : Str) : TyOf K H (.str x) (.type "str")
 | flt (x : UInt64) : TyOf K H (.flt x) (.type "float")
 | lst {a : Addr} {xs : List V} (e : H a = some (.lst xs)) : TyOf K H (.ref a) (.type "list")
 | frz {a : Addr} {o : Obj} {xs : List V} (e : H a = some (.frz o (.lst xs))) : TyOf K H (.ref a) (.type "list")
 | tup {a : Addr} {xs : List V} (e : H a = some (.tup xs)) : TyOf K H (.ref a) (.type "tuple")
 | dK {a : Addr} {kvs : List (Key × V)} (e : H a = some (.dK kvs)) : TyOf K H (.ref a) (.type "dict")
 | dT {a : Addr} {kvs : List (List Key × V)} (e : H a = some (.dT kvs)) : TyOf K H (.ref a) (.type "dict")
 | ins {a C dx : Addr} {fs : List (Str × V)} (e : H a = some (.ins C dx fs)) (cl : Cls K C) (ha : PySem.W.findIn K (.ref C) "__class__" = some (some (.builtin "object.__class__")))
   (hn : PySem.W.specialIn K (.builtin "object.__class__") "__get__" = some (some (.builtin "getset_descriptor.__get__"))) (htk : PySem.W.takesIn K (.builtin "object.__class__") = some true)
   (hm : PySem.W.mroIn K C (.type "object") = some true) : TyOf K H (.ref a) (.ref C)
theorem isinst_ok {x : V} {u t : Value} (I : Inv X pins σ H s) (rx : RelV x u) (ty : TyOf X.K H x t) (e : PySem.W.kitOne X.K t c = some b) (h : ∀ tk, Q (.bool b) { s with toks := tk }) :
  wpAny (model X.prog X.w) A (call (.builtin "isinstance") [u, c]) Q E s := by
 cases ty with
 | non => cases (show u = Value.none from rx); exact PySem.W.kia_one PySem.W.kitx_none I.kIn True.intro e (fun z => nomatch z) h
 | bl y => cases (show u = Value.bool y from rx); exact PySem.W.kia_one PySem.W.kitx_bool I.kIn True.intro e (fun z => nomatch z) h
 | int i => obtain ⟨t, q⟩ := (show ∃ t, u = Value.int i t from rx); cases q; exact PySem.W.kia_one PySem.W.kitx_int I.kIn True.intro e (fun z => nomatch z) h
 | str y => obtain ⟨t, q⟩ := (show ∃ t, u = Value.str y t from rx); cases q; exact PySem.W.kia_one PySem.W.kitx_str I.kIn True.intro e (fun z => nomatch z) h
 | flt y => obtain ⟨t, q⟩ := (show ∃ t, u = Value.float y t from rx); cases q; exact PySem.W.kia_one PySem.W.kitx_float I.kIn True.intro e (fun z => nomatch z) h
 | @lst a xs ea =>
  cases (show u = Value.ref a from rx)
  obtain ⟨_, _, n, _, h1⟩ := (show ObjOk X.prog X.w H s.heap a (.lst xs) from I.hok a _ ea)
  exact PySem.W.kia_one PySem.W.kitx_list I.kIn ⟨_, h1, rfl⟩ e (fun z => nomatch z) h
 | @frz a ob xs ea =>
  cases (show u = Value.ref a from rx)
  obtain ⟨_, _, _, n, _, h1⟩ := (show ObjOk X.prog X.w H s.heap a (.frz ob (.lst xs)) from I.hok a _ ea)
  exact PySem.W.kia_one PySem.W.kitx_list I.kIn ⟨_, h1, rfl⟩ e (fun z => nomatch z) h
 | @tup a xs ea =>
  cases (show u = Value.ref a from rx)
  obtain ⟨_, _, _, p, _⟩ := (show ObjOk X.prog X.w H s.heap a (.tup xs) from I.hok a _ ea)
  obtain ⟨o, h1, h2, _⟩ := p
  exact PySem.W.kia_one PySem.W.kitx_tuple I.kIn ⟨o, h1, h2⟩ e (fun z => nomatch z) h
 | @dK a kvs ea =>
  cases (show u = Value.ref a from rx)
  obtain ⟨_, _, vs, _, p⟩ := (show ObjOk X.prog X.w H s.heap a (.dK kvs) from I.hok a _ ea)
  obtain ⟨o, es, ep, h1, h2, _⟩ := p
  exact PySem.W.kia_one PySem.W.kitx_dict I.kIn ⟨o, h1, h2.1⟩ e (fun z => nomatch z) h
 | @dT a kvs ea =>
  cases (show u = Value.ref a from rx)
  obtain ⟨_, _, xs, _, o, es, ep, h1, h2, _⟩ := (show ObjOk X.prog X.w H s.heap a (.dT kvs) from I.hok a _ ea)
  exact PySem.W.kia_one PySem.W.kitx_dict I.kIn ⟨o, h1, h2.1⟩ e (fun z => nomatch z) h
 | @ins a C dx fs ea cl ha hn htk hm =>
  cases (show u = Value.ref a from rx)
  obtain ⟨mA, O, _⟩ := ins_get I.hok ea
  obtain ⟨od, J, _⟩ := O.look
  exact PySem.W.kia_one (PySem.W.kitx_own (cl.get _) cl.hd ha hn htk hm) I.kIn J e (fun z => nomatch z) h
end
structure Room (k : Nat) (A : Around) : Prop where
 hd : A.handled = none
 dp : A.depth + 3 * k + 5 < recursionLimit
 un : A.units + 16 * k + 200 < cLine
 gd : A.guards = some []
theorem Room.mono {j k : Nat} {A : Around} (r : Room k A) (h : j <= k) : Room j A := ⟨r.hd, by have := r.dp; omega, by have := r.un; omega, r.gd⟩
theorem Room.deeper {k : Nat} {A : Around} (r : Room (k + 1) A) (env : Env) : Room k (A.deeper env) :=
 ⟨r.hd, by have := r.dp; show A.depth + 1 + 3 * k + 5 < _; omega, by have := r.un; show A.units + 3 + 16 * k + 200 < _; omega, r.gd⟩
theorem Room.depth {k : Nat} {A : Around} (r : Room k A) : A.depth < recursionLimit := by have := r.dp; omega
theorem Room.units {k : Nat} {A : Around} (r : Room k A) : A.units + 64 < cLine := by have := r.un; omega
def tNil : TA := fun _ H Q => Q [] H
def tCons (ta : TE) (tr : TA) : TA := fun σ H Q => ta σ H fun x H1 => tr σ H1 fun xs H2 => Q (x :: xs) H2
section
variable {X : Cx} {e : Expr} {es : List Expr} {te : TE} {t : TA} {pos : Pos}
theorem pa_nil : PA X [] tNil := fun _ _ _ _ H Q I h => Calls.spliced_nil ⟨[], H, I, .nil, h⟩
theorem pa_cons (ha : PE X e te) (hr : PA X es t) (hs : autoParam (starEach (e :: es) X.env = (false, eval e X.env) :: starEach es X.env) AutoP.a3._auto_1) : PA X (e :: es) (tCons te t) := by
 intro pos pins s σ H Q I h
 rw [hs]
 show wpAny _ _ (spliced ((false, eval e X.env) :: backTo pos (starEach es X.env))) _ _ s
 refine Calls.spliced_cons (thn (ha pins s σ H _ I h) fun u s1 ⟨x, H1, I1, r1, q1⟩ => ?_)
 exact thn (hr pos pins s1 σ H1 _ I1 q1) fun us s2 ⟨xs, H2, I2, r2, q2⟩ => ⟨x :: xs, H2, I2, .cons r1 r2, q2⟩
def tTup (t : TA) : TE := fun σ H Q => t σ H fun xs H1 => xs.length <= sizeLine /\ ∀ p, H1 p = none -> Q (.ref p) (upd H1 p (.tup xs))
def tLst (t : TA) : TE := fun σ H Q => t σ H fun xs H1 => xs.length <= sizeLine /\ ∀ p, H1 p = none -> Q (.ref p) (upd H1 p (.lst xs))
theorem pe_tup {x1} (h : PA X es t) : PE X (.Tuple es x1 pos) (tTup t) := by
 intro pins s σ H Q I hq
 refine wpAny_Tuple_spliced (thn (h pos pins s σ H _ I hq) fun us s1 ⟨xs, H1, I1, r, z, q⟩ => ⟨by rw [<- r.length]; exact z, ?_⟩)
 have hf : H1 s1.heap.objs.size = none := I1.hok.fresh (Nat.le_refl _)
 refine ⟨.ref s1.heap.objs.size, upd H1 s1.heap.objs.size (.tup xs), I1.laid (t' := s1.toks) (fun b u e => Heap.get?_push_of_some _ e) (Nat.le_refl _) ?_, rfl, q _ hf⟩
 exact ⟨z, us, r, ⟨_, Heap.get?_push_size _ rfl, rfl, _, rfl⟩, _, Heap.get?_push_size _ rfl, rfl⟩
theorem pe_lst (h : PA X es t) : PE X (.List es pos) (tLst t) := by
 intro pins s σ H Q I hq
 refine wpAny_List_spliced (thn (h pos pins s σ H _ I hq) fun us s1 ⟨xs, H1, I1, r, z, q⟩ => ⟨by rw [<- r.length]; exact z, ?_⟩)
 have hf : H1 s1.heap.objs.size = none := I1.hok.fresh (Nat.le_refl _)
 refine ⟨.ref s1.heap.objs.size, upd H1 s1.heap.objs.size (.lst xs), I1.laid (t' := s1.toks) (fun b u e => Heap.get?_push_of_some _ e) (Nat.le_refl _) ?_, rfl, q _ hf⟩
 exact ⟨z, us, 0, r, Heap.get?_push_size _ rfl⟩
end
abbrev Sp := List V -> Hp -> VK -> XK -> Prop
abbrev CXT := List Env -> Hp -> Shared -> XK -> Value -> Shared -> Prop
structure Env0 (P : Program) (w : World) (K : PySem.W.Frag) (mg : Str -> Option Value) (base : Heap) (A : Around) (outer : List Env) (s : Shared) (H : Hp) : Prop where
 frames : A.frames = some outer
 mod : Mod K mg base
 bs : ∀ b o, base.get? b = some o -> s.heap.get? b = some o /\ H b = none
 bsz : base.objs.size <= s.heap.objs.size
 funs : s.heap.FunFrames base outer
 frf : ∀ b ∈ frs outer, H b = none
 hok : HOk P w H s.heap
 bare : AllBare s.gens
def CE (outer : List Env) (P : Program) (w : World) (H : Hp) (s : Shared) (Q : VK) (u : Value) (s' : Shared) : Prop :=
 ∃ v H', s'.os = s.os /\ AllBare s'.gens /\ Un (frs outer) [] H H' s.heap s'.heap /\ HOk P w H' s'.heap /\ RelV v u /\ Q v H'
def CR (CX : CXT) (outer : List Env) (P : Program) (w : World) (H : Hp) (s : Shared) (Q : VK) (E : XK) (r : Result) (s' : Shared) : Prop :=
 match r with
 | .ok (.ret u) => CE outer P w H s Q u s'
 | .ok _ => False
 | .error e => CX outer H s E e s'
structure FnOk (P : Program) (w : World) (K : PySem.W.Frag) (mg : Str -> Option Value) (base : Heap) (CX : CXT) (k : Nat) (f : Addr) (fd : FuncData) (ps : List Str) (sp : Sp) : Prop where
 len : ∀ vs H Q E, sp vs H Q E -> vs.length = ps.length
 run : ∀ (A : Around) (outer : List Env) (s : Shared) (H : Hp) (args : Args) (us : List Value) (vs : List V) (Q : VK) (E : XK), Room k A -> Env0 P w K mg base A outer s H -> BindsTo s fd args (ps.zip us) -> Vals vs us -> sp vs H Q E →
  codeAny (model P w) A (.call (.ref f) args) (CR CX outer P w H s Q E) s
theorem FnOk.imp {P : Program} {w : World} {K : PySem.W.Frag} {mg : Str -> Option Value} {base : Heap} {CX : CXT} {k : Nat} {f : Addr} {fd : FuncData} {ps : List Str} {sp sp' : Sp} (F : FnOk P w K mg base CX k f fd ps sp)
  (h : ∀ vs H Q E, sp' vs H Q E -> sp vs H Q E) : FnOk P w K mg base CX k f fd ps sp' :=
 ⟨fun vs H Q E q => F.len vs H Q E (h _ _ _ _ q), fun A outer s H args us vs Q E hr he hb hv hs => F.run A outer s H args us vs Q E hr he hb hv (h _ _ _ _ hs)⟩
section
variable {X : Cx} {pins : List (Addr × Obj)} {σ : St} {H : Hp} {s s' : Shared}
theorem Inv.env0 (I : Inv X pins σ H s) : Env0 X.prog X.w X.K X.mg X.base X.A X.stack s H :=
 ⟨I.ok.frames, I.ok.mod, I.bs, Nat.le_trans I.ok.bsz I.sz, I.stack, I.stkFree, I.hok, I.bare⟩
theorem Inv.after {Q : VK} {u : Value} (I : Inv X pins σ H s) (h : CE X.stack X.prog X.w H s Q u s') : EP X pins σ Q u s' := by
 obtain ⟨v, H', os, bare, un, hok, r, q⟩ := h
 obtain ⟨hh, g, d, t, os'⟩ := s'
 obtain rfl : os' = s.os := os
 exact ⟨v, H', I.call (h' := hh) (g' := g) (d' := d) (t' := t) (ch := []) un hok bare (fun b z => absurd z (by simp)), r, q⟩
end
def tCall (sp : Sp) (dvs : List V) (E : XK) (t : TA) : TE := fun σ H Q => t σ H fun vs H1 => sp (vs ++ dvs) H1 Q E
def Binds (K : PySem.W.Frag) (fd : FuncData) (ps : List Str) (ds : List Value) : Prop :=
 ∀ (s : Shared) (us : List Value), K.In s.heap -> (us ++ ds).length = ps.length -> BindsTo s fd ⟨us, []⟩ (ps.zip (us ++ ds))
theorem Binds.all {K : PySem.W.Frag} {fd : FuncData} {ps : List Str} (h : ∀ us : List Value, us.length = ps.length -> bindArgs fd ⟨us, []⟩ = pure (ps.zip us)) : Binds K fd ps [] := fun s us _ hl => by
 rw [List.append_nil] at hl ⊢
 exact .of_eq (h us hl)
def Passes (CX : CXT) (X : Cx) (E : XK) : Prop := ∀ (pins : List (Addr × Obj)) (σ : St) (H : Hp) (s : Shared) (e : Value) (s' : Shared), Inv X pins σ H s -> CX X.stack H s E e s' -> X.xe e s'
section
variable {X : Cx} {CX : CXT} {k : Nat} {f C : Addr} {fd : FuncData} {ps : List Str} {sp : Sp} {dvs : List V} {ds : List Value} {E : XK} {x m : Str} {p pos apos : Pos} {e o : Expr} {es : List Expr} {ta : TE} {t : TA}
theorem run_fn {pins : List (Addr × Obj)} {σ : St} {H : Hp} {s : Shared} {Q : VK} {us : List Value} {vs : List V} (F : FnOk X.prog X.w X.K X.mg X.base CX k f fd ps sp) (hr : Room k X.A) (hb : Binds X.K fd ps ds) (hd : Vals dvs ds) (hx : Passes CX X E)
  (I : Inv X pins σ H s) (r : Vals vs us) (h : sp (vs ++ dvs) H Q E) : wpAny (model X.prog X.w) X.A (call (.ref f) us) (EP X pins σ Q) X.xe s := by
 have r2 : Vals (vs ++ dvs) (us ++ ds) := r.append hd
 have hl : (us ++ ds).length = ps.length := by rw [<- r2.length]; exact F.len _ _ _ _ h
 refine wpAny_call (codeAny_mono (F.run X.A X.stack s H ⟨us, []⟩ (us ++ ds) (vs ++ dvs) Q E hr I.env0 (hb s us I.kIn hl) r2 h) fun r s' hq => ?_)
 cases r with
 | error e => exact hx pins σ H s e s' I hq
 | ok fl =>
  cases fl with
  | ret u => exact I.after hq
  | next => exact False.elim hq
  | brk => exact False.elim hq
  | cont => exact False.elim hq
theorem pe_call (F : FnOk X.prog X.w X.K X.mg X.base CX k f fd ps sp) (hr : Room k X.A) (hg : Gl X x) (hm : X.mg x = some (.ref f)) (hk : PySem.W.keepIn X.K (.ref f) = true) (hb : Binds X.K fd ps ds) (hd : Vals dvs ds) (hx : Passes CX X E)
  (ha : PA X (e :: es) t) (hdb : autoParam ((x == ("__debug__" : Str)) = false) AutoP.a1._auto_1) (he : autoParam (starEach (e :: es) X.env = (false, eval e X.env) :: starEach es X.env) AutoP.a3._auto_1) (hpl : autoParam ((backTo pos (starEach es X.env)).any (·.1) = false) AutoP.a3._auto_1) :
  PE X (.Call (.Name x p) (e :: es) [] pos) (tCall sp dvs E t) := by
 intro pins s σ H Q I h
 refine wpAny_Call_Name_kw (ld_glob I hg hm ?_ hdb)
 refine PySem.W.callWith_K (h₀ := X.base) I.ok.mod.kin hk (thn (ha pos pins s σ H _ I h) fun us s1 ⟨vs, H1, I1, r, q⟩ => ⟨I1.kIn, ?_⟩) he hpl
 exact run_fn F hr hb hd hx I1 r q
end
structure FnScope (N P : List Str) (sc : Scope) : Prop where
 kind : sc.kind = .function
 co : sc.isCoroutine = false
 gen : sc.isGenerator = false
 nd : N.Nodup
 pre : N.take P.length = P
 par : ∀ x ∈ P, sc.names.lookup x = some .local ∨ sc.names.lookup x = some .cell
 nofree : ∀ y ∈ sc.names, y.2 ≠ .free
theorem bindL_out {kindOf : Str -> Option NameKind} {x : Str} : ∀ {binds : List (Str × Value)} {m : Str -> Option Value}, (∀ v, (x, v) ∉ binds) -> bindL kindOf binds m x = m x
 | [], _, _ => rfl
 | (n, v) :: r, m, h => by
  unfold bindL
  rw [bindL_out fun w hw => h w (List.mem_cons_of_mem _ hw)]
  split
  ·have : x ≠ n := by rintro rfl; exact h v List.mem_cons_self
   simp [this]
  ·rfl
theorem bindC_out {kindOf : Str -> Option NameKind} {x : Str} : ∀ {binds : List (Str × Value)} {m : Str -> Option Value}, (∀ v, (x, v) ∉ binds) -> bindC kindOf binds m x = m x
 | [], _, _ => rfl
 | (n, v) :: r, m, h => by
  unfold bindC
  rw [bindC_out fun w hw => h w (List.mem_cons_of_mem _ hw)]
  split
  ·rfl
  ·have : x ≠ n := by rintro rfl; exact h v List.mem_cons_self
   simp [this]
theorem bindL_get {kindOf : Str -> Option NameKind} {x : Str} {v : Value} : ∀ {P : List Str} {vs : List Value} {i : Nat} {m : Str -> Option Value}, P.Nodup -> P[i]? = some x -> vs[i]? = some v -> kindOf x = some .local →
  bindL kindOf (P.zip vs) m x = some v
 | [], _, _, _, _, h, _, _ => by simp at h
 | _ :: _, [], _, _, _, _, h, _ => by simp at h
 | p :: P, w :: vs, 0, m, nd, h1, h2, hk => by
  simp at h1 h2; subst h1; subst h2
  show bindL kindOf ((p, w) :: P.zip vs) m p = _
  unfold bindL
  rw [bindL_out fun v hv => (List.nodup_cons.mp nd).1 (List.of_mem_zip hv).1, if_pos hk]
  simp
 | p :: P, w :: vs, i + 1, m, nd, h1, h2, hk => by
  show bindL kindOf ((p, w) :: P.zip vs) m x = _
  unfold bindL
  exact bindL_get (i := i) (List.nodup_cons.mp nd).2 (by simpa using h1) (by simpa using h2) hk
theorem bindC_get {kindOf : Str -> Option NameKind} {x : Str} {v : Value} : ∀ {P : List Str} {vs : List Value} {i : Nat} {m : Str -> Option Value}, P.Nodup -> P[i]? = some x -> vs[i]? = some v -> kindOf x ≠ some .local →
  bindC kindOf (P.zip vs) m x = some v
 | [], _, _, _, _, h, _, _ => by simp at h
 | _ :: _, [], _, _, _, _, h, _ => by simp at h
 | p :: P, w :: vs, 0, m, nd, h1, h2, hk => by
  simp at h1 h2; subst h1; subst h2
  show bindC kindOf ((p, w) :: P.zip vs) m p = _
  unfold bindC
  rw [bindC_out fun v hv => (List.nodup_cons.mp nd).1 (List.of_mem_zip hv).1, if_neg hk]
  simp
 | p :: P, w :: vs, i + 1, m, nd, h1, h2, hk => by
  show bindC kindOf ((p, w) :: P.zip vs) m x = _
  unfold bindC
  exact bindC_get (i := i) (List.nodup_cons.mp nd).2 (by simpa using h1) (by simpa using h2) hk
def start (N : List Str) (vs : List V) : St := vs.map some ++ List.replicate (N.length - vs.length) none
def cxOf (CX : CXT) (P : Program) (w : World) (K : PySem.W.Frag) (mg : Str -> Option Value) (base : Heap) (N : List Str) (qual : Str) (scope : Scope) (f : Addr) (cd : Value) (A : Around) (outer : List Env) (s : Shared) (H : Hp) (E : XK) : Cx where
 prog := P
 w := w
 K := K
 mg := mg
 base := base
 A := A.deeper (envOfC qual scope s.heap.objs.size f cd)
 N := N
 s₀ := s
 H₀ := H
 env := envOfC qual scope s.heap.objs.size f cd
 outer := outer
 stack := envOfC qual scope s.heap.objs.size f cd :: outer
 ex := []
 calm := true
 fn := fun _ => true
 pn := []
 xe := fun e s' => wpAny (model P w) (A.deeper (envOfC qual scope s.heap.objs.size f cd)) (leaving (envOfC qual scope s.heap.objs.size f cd) e) (fun _ s'' => CX outer H s E e s'') (fun e' s'' => CX outer H s E e' s'') s'
theorem cell_has {sc : Scope} {n : Nat} {x : Str} (h : sc.names.lookup x = some .cell) : ∃ c, (cellsFrom n sc.names []).lookup x = some c := by
 have q := PySem.W.cellsFrom_some sc.names n [] (.inl h)
 exact Option.isSome_iff_exists.mp q
theorem inv_start {CX : CXT} {P : Program} {w : World} {K : PySem.W.Frag} {mg : Str -> Option Value} {base : Heap} {N ps : List Str} {qual : Str} {scope : Scope} {f : Addr} {cd : Value} {A : Around} {outer : List Env} {s s1 : Shared} {H : Hp} {E : XK} {us : List Value} {vs : List V}
  (S : FnScope N ps scope) (hd : A.handled = none) (e0 : Env0 P w K mg base A outer s H) (hl : vs.length = ps.length) (r : Vals vs us)
  (x : InCallC s s.heap.objs.size (bindL (envOfC qual scope s.heap.objs.size f cd).kindOf (ps.zip us) fun _ => none) (cellsFrom (s.heap.objs.size + 1) scope.names []) (bindC (envOfC qual scope s.heap.objs.size f cd).kindOf (ps.zip us) fun _ => none) s1) :
  Inv (cxOf CX P w K mg base N qual scope f cd A outer s H E) [] (start N vs) H s1 := by
 have hpl : ps.length <= N.length := by have := congrArg List.length S.pre; rw [List.length_take] at this; omega
 obtain ⟨h1, tk, rfl, hk⟩ := x.done
 have noA : ∀ b : Addr, b ∉ (cxOf CX P w K mg base N qual scope f cd A outer s H E).ex := fun b z => absurd (show b ∈ ([] : List Addr) from z) (by simp)
 refine ⟨⟨e0.mod, S.kind, rfl, rfl, Nat.le_refl _, fun y z c h1 h2 => ?_, fun y hy => ?_, fun y c _ h => ?_, fun _ => hd, Around.frames_deeper e0.frames, .inr ⟨rfl, rfl⟩, fun b z => absurd z (noA b), e0.bs, e0.bsz, fun b _ _ => noA b, fun b z => absurd z (noA b), e0.funs, e0.frf⟩,
  rfl, e0.bare, Un.kept hk, ⟨_, x.toInCall.ns, fun i y v h1 h2 h3 => ?_⟩, fun y c h => ⟨_, x.cell y c h⟩, e0.hok.fresh (Nat.le_refl _), fun y c h => ?_, fun p hp => absurd (show p ∈ ([] : List (Addr × Obj)) from hp) (by simp), e0.hok.kept hk, ?_⟩
 ·exact name_of_addr x.apart (PySem.mem_of_lookup h1) (PySem.mem_of_lookup h2)
 ·have hy : scope.names.lookup y = some .cell ∨ scope.names.lookup y = some .free := hy
  rcases hy with hy | hy
  ·exact cell_has hy
  ·exact absurd rfl (S.nofree _ (PySem.mem_of_lookup hy))
 ·exact Nat.le_of_lt (x.above y c (PySem.mem_of_lookup h))
 ·have hi : i < vs.length := by
   unfold start at h2
   by_cases hi : i < vs.length
   ·exact hi
   ·rw [List.getElem?_append_right (by simpa using hi)] at h2
    rw [List.getElem?_replicate] at h2
    split at h2 <;> cases h2
  have ha : vs[i]? = some v := by
   unfold start at h2
   rw [List.getElem?_append_left (by simpa using hi), List.getElem?_map] at h2
   cases e : vs[i]? with
   | none => rw [e] at h2; cases h2
   | some a => rw [e] at h2; cases h2; rfl
  obtain ⟨u, hu, rv⟩ := r.get ha
  have hp : ps[i]? = some y := by
   rw [<- S.pre, List.getElem?_take_of_lt (by omega)]; exact h1
  have ndP : ps.Nodup := by rw [<- S.pre]; exact S.nd.sublist (List.take_sublist _ _)
  refine ⟨u, rv, ?_⟩
  rcases S.par y (List.mem_of_getElem? hp) with k | k
  ·exact .inl ⟨k, bindL_get ndP hp hu k⟩
  ·obtain ⟨c, e⟩ := cell_has (n := s.heap.objs.size + 1) k
   refine .inr ⟨.inl k, c, e, ?_⟩
   have q := x.cell y c e
   rw [bindC_get ndP hp hu (by show scope.names.lookup y ≠ _; rw [k]; decide)] at q
   exact q
 ·exact e0.hok.fresh (Nat.le_of_lt (x.above y c (PySem.mem_of_lookup h)))
 ·unfold start
  show _ = N.length
  rw [List.length_append, List.length_map, List.length_replicate]
  omega
theorem fn_of {CX : CXT} {P : Program} {w : World} {K : PySem.W.Frag} {mg : Str -> Option Value} {base : Heap} {k : Nat} {f : Addr} {name qual : Str} {params : Arguments} {body : List Stmt} {scope : Scope} {dV kV doc pm cdv ct oc : Value} {an od : Option Addr}
  {osl : Array (Option Value)} {N ps : List Str} {sp : Sp} (lk : K.lookup f = some ⟨oc, od, .func (PySem.W.fnOf name qual params body scope dV kV doc pm an cdv ct), osl⟩) (hcd : PySem.W.codeIn K cdv qual = true) (S : FnScope N ps scope)
  (len : ∀ vs H Q E, sp vs H Q E -> vs.length = ps.length)
  (hbody : ∀ (A : Around) (outer : List Env) (s : Shared) (H : Hp) (vs : List V) (Q : VK) (E : XK), Room k (A.deeper (envOfC qual scope s.heap.objs.size f cdv)) -> sp vs H Q E →
   ∃ t, PSs (cxOf CX P w K mg base N qual scope f cdv A outer s H E) body t /\ t { nx := fun _ H' => Q .non H', rt := Q } (start N vs) H) :
  FnOk P w K mg base CX (k + 1) f (PySem.W.fnOf name qual params body scope dV kV doc pm an cdv ct) ps sp := by
 refine ⟨len, fun A outer s H args us vs Q E hr e0 hb r hsp => ?_⟩
 have hl := len _ _ _ _ hsp
 have KX : K.In s.heap := e0.mod.kin.keeps fun b o e => (e0.bs b o e).1
 have lim : s.heap.NoLimit := e0.mod.nolimit.keeps fun b o e => (e0.bs b o e).1
 have hkind : ∀ y ∈ ps.zip us, scope.names.lookup y.1 = some .local ∨ (scope.names.lookup y.1 = some .cell /\ ((cellsFrom (s.heap.objs.size + 1) scope.names []).lookup y.1).isSome = true) := fun ⟨n, v⟩ hy => by
  rcases S.par n (List.of_mem_zip hy).1 with q | q
  ·exact .inl q
  ·exact .inr ⟨q, PySem.W.cellsFrom_some _ _ _ (.inl q)⟩
 refine codeAny_call_function hr.depth (KX _ _ lk) rfl S.co S.gen rfl (PySem.W.codeRec_of KX hcd) (hb _ _ _ _ ?_)
 refine wpAny_newFunctionEnv_cells S.kind hkind fun env he s1 x => ?_
 subst he
 refine ⟨lim.keeps x.toInCall.keep, codeAny_func ?_⟩
 obtain ⟨t, ht, hq⟩ := hbody A outer s H vs Q E (hr.deeper _) hsp
 have I : Inv (cxOf CX P w K mg base N qual scope f cdv A outer s H E) [] (start N vs) H s1 := inv_start S hr.hd e0 hl r x
 refine wpAny_mono (ht [] s1 (start N vs) H _ I hq) (fun fl s' hs => ?_) fun e s' hs => hs
 have fin : ∀ {σ' : St} {H' : Hp} {v : V} {u : Value}, Inv (cxOf CX P w K mg base N qual scope f cdv A outer s H E) [] σ' H' s' -> RelV v u -> Q v H' -> CE outer P w H s Q u s' :=
  fun {σ' H' v u} J rv q => ⟨v, H', J.os, J.bare, J.base, J.hok, rv, q⟩
 cases fl with
 | ret u =>
  obtain ⟨v, σ', H', J, rv, q⟩ := hs
  exact fin J rv q
 | next =>
  obtain ⟨σ', H', J, q⟩ := hs
  exact fin (v := V.non) (u := Value.none) J rfl q
 | brk =>
  obtain ⟨_, _, _, q⟩ := hs
  exact False.elim q
 | cont =>
  obtain ⟨_, _, _, q⟩ := hs
  exact False.elim q
section
variable {X : Cx} {x : Str} {p pos : Pos} {e : Expr} {es : List Expr} {t : TA} {id T : String} {r : List V -> Hp -> VK -> Prop}
def tCB (r : List V -> Hp -> VK -> Prop) (t : TA) : TE := fun σ H Q => t σ H fun vs H1 => r vs H1 Q
theorem pe_callB (hc : CallR X (.builtin id) r) (hg : Gl X x) (hm : X.mg x = none) (hv : bootBuiltins x = some (.builtin id)) (ha : PA X (e :: es) t) (hn : autoParam (x ≠ "__name__") AutoP.a1._auto_1) (hdb : autoParam ((x == ("__debug__" : Str)) = false) AutoP.a1._auto_1)
  (he : autoParam (starEach (e :: es) X.env = (false, eval e X.env) :: starEach es X.env) AutoP.a3._auto_1) (hpl : autoParam ((backTo pos (starEach es X.env)).any (·.1) = false) AutoP.a3._auto_1) : PE X (.Call (.Name x p) (e :: es) [] pos) (tCB r t) := by
 intro pins s σ H Q I h
 refine wpAny_Call_Name_kw (ld_blt I hg hm hv ?_ hn hdb)
 exact PyProof.Rows.callWith_builtin1 (thn (ha pos pins s σ H _ I h) fun us s1 ⟨vs, H1, I1, r1, q1⟩ => hc pins s1 σ H1 vs us Q I1 r1 q1) he hpl
theorem pe_callTy (hc : CallR X (.type T) r) (hg : Gl X x) (hm : X.mg x = none) (hv : bootBuiltins x = some (.type T)) (ha : PA X (e :: es) t) (hn : autoParam (x ≠ "__name__") AutoP.a1._auto_1) (hdb : autoParam ((x == ("__debug__" : Str)) = false) AutoP.a1._auto_1)
  (he : autoParam (starEach (e :: es) X.env = (false, eval e X.env) :: starEach es X.env) AutoP.a3._auto_1) (hpl : autoParam ((backTo pos (starEach es X.env)).any (·.1) = false) AutoP.a3._auto_1) : PE X (.Call (.Name x p) (e :: es) [] pos) (tCB r t) := by
 intro pins s σ H Q I h
 refine wpAny_Call_Name_kw (ld_blt I hg hm hv ?_ hn hdb)
 exact PyProof.Rows.callWith_type1 (thn (ha pos pins s σ H _ I h) fun us s1 ⟨vs, H1, I1, r1, q1⟩ => hc pins s1 σ H1 vs us Q I1 r1 q1) he hpl
end
end L2
namespace HT
open PySem PyProof.Rows
def lexLt : List Int -> List Int -> Bool
 | [], [] => false
 | [], _ :: _ => true
 | _ :: _, [] => false
 | x :: xs, y :: ys => if x = y then lexLt xs ys else decide (x < y)
theorem lexLt_cons (x y : Int) (xs ys : List Int) : lexLt (x :: xs) (y :: ys) = if x = y then lexLt xs ys else decide (x < y) := rfl
theorem lexLt_nil_nil : lexLt [] [] = false := rfl
theorem lexLt_nil_cons (y : Int) (ys : List Int) : lexLt [] (y :: ys) = true := rfl
theorem lexLt_cons_nil (x : Int) (xs : List Int) : lexLt (x :: xs) [] = false := rfl
theorem eqAt_int (A : Around) (s : Shared) (a : Int) (t : Tok) (c : Int) (u : Tok) : ∃ e, SeqAt.EqAt A s (.int a t) (.int c u) e /\ (e = true ↔ a = c) :=
 ⟨(a == c), SeqAt.EqAt.int_int a t c u, by simp⟩
theorem rcLt_int (A : Around) (s : Shared) (a : Int) (t : Tok) (c : Int) (u : Tok) (prog : Program) (w : World) (E : Value -> Shared -> Prop) (Q : Value -> Shared -> Prop) (h : Q (.bool (decide (a < c))) s) :
  wpAny (model prog w) A (richCompare .Lt (.int a t) (.int c u)) Q E s :=
 (PyProof.Rows.lt_int h : wpAny (model prog w) A (compareOp .Lt (.int a t) (.int c u)) Q E s)
section
open PySem.SeqAt
open PySem.AutoSeq1 (wpAny_loadPart')
open PySem.MeetsSeq PySem.MeetsSeq2 PySem.MeetsSeq3
theorem tuple_lt_ints (l b : Addr) (items items2 : Array Value) (n n2 : Nat) (dd dd2 : Option Addr) (sl sl2 : Array (Option Value)) (ns ms : List Int) (hi : IntsAre items.toList ns) (hj : IntsAre items2.toList ms) :
  Meets (Builtin.«tuple.__lt__» ⟨[.ref l, .ref b], []⟩)
   (fun _ R s => s.heap.get? l = some { cls := .type "tuple", dict := dd, data := .seq items n, slots := sl } /\ s.heap.get? b = some { cls := .type "tuple", dict := dd2, data := .seq items2 n2, slots := sl2 } ∧
    R (.ok (.ret (.bool (lexLt ns ms)))) s) :=
 .of_wp fun prog w A R s h => by
  obtain ⟨hp, g, d, tk, os⟩ := s; obtain ⟨hl, hb, h⟩ := h
  have f2 := AutoSeq1.sub_tuple_tuple
  have z1 : items.size = ns.length := by rw [<- hi.length]; simp
  have z2 : items2.size = ms.length := by rw [<- hj.length]; simp
  wp_walk using wpAny_loadPart' hl, wpAny_loadPart' hb, wpAny_forIn_list _ (fun rest b s' => b.1 = none /\ s' = ⟨hp, g, d, tk, os⟩ /\ ∃ (vs ws : List Value) (ns' ms' : List Int), rest = vs.zip ws ∧
   IntsAre vs ns' /\ IntsAre ws ms' /\ ns'.length + items2.size = ms'.length + items.size /\ R (.ok (.ret (.bool (lexLt ns' ms')))) ⟨hp, g, d, tk, os⟩) _
  case turn =>
   rintro ⟨y, x⟩ rest b s' ⟨hb', rfl, vs, ws, ns', ms', hz, hvi, hwi, hlen, hR⟩
   cases hvi with
   | nil => rw [List.zip_nil_left] at hz; cases hz
   | cons a t hvi' =>
    cases hwi with
    | nil => rw [List.zip_nil_right] at hz; cases hz
    | cons c u hwi' =>
     rw [List.zip_cons_cons] at hz
     injection hz with hyx hrest
     injection hyx with hy hx
     subst hy hx
     rw [lexLt_cons] at hR
     simp only [List.length_cons] at hlen
     obtain ⟨e, he, hiff⟩ := eqAt_int A.in1 ⟨hp, g, d, tk, os⟩ a t c u
     refine wpAny_bind (he prog w _ _ ?_)
     cases e with
     | true =>
      rw [if_pos (hiff.mp rfl)] at hR
      wp_walk
      exact ⟨rfl, rfl, _, _, _, _, hrest, hvi', hwi', by omega, hR⟩
     | false =>
      rw [if_neg (fun q => absurd (hiff.mpr q) Bool.false_ne_true)] at hR
      have hri := rcLt_int A.in1 ⟨hp, g, d, tk, os⟩ a t c u prog w
      wp_walk using hri
      exact ⟨_, rfl, by simpa using hR⟩
  case fin =>
   rintro ⟨b1, b2⟩ s' ⟨hb', rfl, vs, ws, ns', ms', hz, hvi, hwi, hlen, hR⟩
   simp only at hb'
   subst hb'
   have hv : lexLt ns' ms' = decide (items.size < items2.size) := by
    cases hvi with
    | nil =>
     cases hwi with
     | nil =>
      simp only [List.length_nil] at hlen
      rw [lexLt_nil_nil]
      exact (decide_eq_false (by omega)).symm
     | cons c u hw =>
      simp only [List.length_nil, List.length_cons] at hlen
      rw [lexLt_nil_cons]
      exact (decide_eq_true (by omega)).symm
    | cons a t hv =>
     cases hwi with
     | nil =>
      simp only [List.length_nil, List.length_cons] at hlen
      rw [lexLt_cons_nil]
      exact (decide_eq_false (by omega)).symm
     | cons c u hw =>
      rw [List.zip_cons_cons] at hz
      cases hz
   rw [hv] at hR
   wp_walk
   exact ⟨_, rfl, by simpa [Builtin.Tuple.tupleCompareSizes] using hR⟩
  case h =>
   exact ⟨rfl, rfl, items.toList, items2.toList, ns, ms, rfl, hi, hj, by omega, h⟩
end
section
variable {prog : Program} {w : World} {A : Around} {E : Value -> Shared -> Prop} {s : Shared}
theorem lt_tupInts {l b : Addr} {items items2 : Array Value} {ns ms : List Int} {Q : Value -> Shared -> Prop} (hl : IsTup s.heap l items) (hb : IsTup s.heap b items2) (hi : IntsAre items.toList ns) (hj : IntsAre items2.toList ms)
  (hu : A.units < cLine) (h : Q (.bool (lexLt ns ms)) s) : wpAny (model prog w) A (compareOp .Lt (.ref l) (.ref b)) Q E s := by
 obtain ⟨⟨cls, dd, data, sl⟩, ho, hc, n, hd⟩ := id hl
 obtain ⟨⟨cls2, dd2, data2, sl2⟩, ho2, hc2, n2, hd2⟩ := id hb
 simp only at hc hd hc2 hd2
 subst hc hd hc2 hd2
 exact richCompare_meets_room (op := .Lt) ⟨_, ho, rfl⟩ ⟨_, ho2, rfl⟩ PySem.F.slot_tuple_lt PySem.F.entry_tuple_lt (PySem.F.args_tuple_lt_2 _ _) (tuple_lt_ints l b items items2 n n2 dd dd2 sl sl2 ns ms hi hj)
  ⟨ho, ho2, show Value.bool (lexLt ns ms) ≠ Value.notImplemented /\ Q (.bool (lexLt ns ms)) s from ⟨(fun x => nomatch x), h⟩⟩ hu
theorem cat_tup {t b : Addr} {vs ws : List Value} {Q : Value -> Shared -> Prop} (ht : IsTup s.heap t vs.toArray) (hb : IsTup s.heap b ws.toArray) (hv : vs ≠ [])
  (h1 : ws = [] -> Q (.ref t) s) (h2 : ws ≠ [] -> Q (.ref s.heap.objs.size) { s with heap := s.heap.push { cls := .type "tuple", data := .seq (vs ++ ws).toArray } })
  (hsz : vs.length + ws.length <= sizeLine) : wpAny (model prog w) A (binaryOp .Add (.ref t) (.ref b)) Q E s := by
 obtain ⟨⟨cls, dd, data, sl⟩, ho, hc, n, hd⟩ := id ht
 obtain ⟨⟨cls2, dd2, data2, sl2⟩, ho2, hc2, n2, hd2⟩ := id hb
 simp only at hc hd hc2 hd2
 subst hc hd hc2 hd2
 have e : vs.toArray ++ ws.toArray = (vs ++ ws).toArray := by simp
 by_cases hw : ws = []
 ·exact concat_meets ⟨_, ho, rfl⟩ ⟨_, ho2, rfl⟩ noFill_tuple_add seq_tuple_add PySem.F.slot_tuple_add PySem.F.entry_tuple_add (PySem.F.args_tuple_add_2 _ _)
   (tuple_addW1 t b vs.toArray ws.toArray n n2 dd dd2 sl sl2 (by simpa using hv) (by simp [hw])) ⟨ho, ho2, h1 hw⟩
 ·refine concat_meets ⟨_, ho, rfl⟩ ⟨_, ho2, rfl⟩ noFill_tuple_add seq_tuple_add PySem.F.slot_tuple_add PySem.F.entry_tuple_add (PySem.F.args_tuple_add_2 _ _)
   (tuple_addW2 t b vs.toArray ws.toArray n n2 dd dd2 sl sl2 (by simpa using hv) (by simpa using hw) (by rw [List.size_toArray, List.size_toArray]; exact hsz)) ⟨ho, ho2, ?_⟩
  rw [e]
  exact h2 hw
def sIx (n d : Nat) : Option Int -> Nat
 | none => d
 | some v => if v < 0 then (v + (n : Int)).toNat else min v.toNat n
end
end HT
namespace L2
open PySem PySem.Spec PyProof.Rows
theorem intsAre_of {ns : List Int} : ∀ {us : List Value}, Vals (ns.map V.int) us -> IntsAre us ns := by
 induction ns with
 | nil => intro us r; rw [List.map_nil] at r; cases r; exact .nil
 | cons n ns ih =>
  intro us r
  rw [List.map_cons] at r
  cases r with
  | cons r1 r2 =>
   obtain ⟨t, e⟩ := r1
   subst e
   exact .cons n t (ih r2)
section
variable {X : Cx} {e : Expr} {te : TE} {lo hi : Option Expr} {tl th : TO} {pos p2 : Pos}
def rCatT (K : PySem.W.Frag) : R2 := fun x y H Q => ∃ a b xs ys, x = .ref a /\ y = .ref b /\ SqT K H a xs /\ SqT K H b ys /\ xs ≠ [] /\ xs.length + ys.length <= sizeLine ∧
 (ys = [] -> Q (.ref a) H) /\ (ys ≠ [] -> ∀ p, H p = none -> Q (.ref p) (upd H p (.tup (xs ++ ys))))
theorem Vals.nil_iff {xs : List V} {us : List Value} (r : Vals xs us) : us = [] ↔ xs = [] := by
 cases r with
 | nil => simp
 | cons _ _ => simp
theorem op_catT : OpR X (binaryOp .Add) (rCatT X.K) := by
 intro pins s σ H x y v u Q I rx ry h
 obtain ⟨a, b, xs, ys, rfl, rfl, ha, hb, hx, hz, q1, q2⟩ := h
 cases rx
 cases ry
 obtain ⟨its, r1, p1, _⟩ := I.tuple ha
 obtain ⟨its2, r2, p2, _⟩ := I.tuple hb
 refine HT.cat_tup p1 p2 (fun z => hx (r1.nil_iff.mp z)) (fun z => ⟨.ref a, H, I, rfl, q1 (r2.nil_iff.mp z)⟩) (fun z => ?_) (by rw [<- r1.length, <- r2.length]; exact hz)
 refine ⟨.ref s.heap.objs.size, _, I.laid (t' := s.toks) (o := .tup (xs ++ ys)) (fun b ob q => Heap.get?_push_of_some _ q) (Nat.le_refl _) ?_, rfl, q2 (fun w => z (r2.nil_iff.mpr w)) _ (I.hok.fresh (Nat.le_refl _))⟩
 exact ⟨by rw [List.length_append]; exact hz, _, r1.append r2, IsTup.new _ _, _, Heap.get?_push_size _ rfl, rfl⟩
end
def ixN (n : Nat) (i : Int) : Option Nat := if 0 <= i then (if i < n then some i.toNat else none) else if -(n : Int) <= i then some (i + n).toNat else none
def atI {α : Type} (xs : List α) (i : Int) : Option α := (ixN xs.length i).bind fun j => xs[j]?
theorem ixN_seq {n : Nat} {i : Int} {j : Nat} (h : ixN n i = some j) : seqIndex? i n = some j /\ j < n /\ -(n : Int) <= i /\ i < n := by
 unfold ixN at h
 by_cases h0 : 0 <= i
 ·rw [if_pos h0] at h
  by_cases h1 : i < n
  ·rw [if_pos h1] at h
   have e : i.toNat = j := Option.some.inj h
   exact ⟨by rw [seqIndex_of h0 h1, e], by omega, by omega, h1⟩
  ·rw [if_neg h1] at h; cases h
 ·rw [if_neg h0] at h
  by_cases h1 : -(n : Int) <= i
  ·rw [if_pos h1] at h
   have e : (i + n).toNat = j := Option.some.inj h
   exact ⟨by rw [seqIndex_neg (by omega) h1, e], by omega, h1, by omega⟩
  ·rw [if_neg h1] at h; cases h
theorem atI_get {α : Type} {xs : List α} {i : Int} {v : α} (h : atI xs i = some v) : ∃ j, seqIndex? i xs.length = some j /\ xs[j]? = some v /\ j < xs.length /\ -(xs.length : Int) <= i /\ i < xs.length := by
 unfold atI at h
 cases e : ixN xs.length i with
 | none => rw [e] at h; cases h
 | some j =>
  rw [e] at h
  obtain ⟨h1, h2, h3, h4⟩ := ixN_seq e
  exact ⟨j, h1, h, h2, h3, h4⟩
def PlainIx (b : Expr) : Prop := ∀ o i, subscripted b false o i = operate [o, i] (getItem o i)
def IxR (X : Cx) (r : R2) : Prop :=
 ∀ (value slice : Expr) (pins : List (Addr × Obj)) (s : Shared) (σ : St) (H : Hp) (x y : V) (v u : Value) (Q : VK), Inv X pins σ H s -> RelV x v -> RelV y u -> r x y H Q →
  subscripted slice false v u = operate [v, u] (getItem v u) -> wpAny (model X.prog X.w) X.A (subscriptTail value slice v u) (EP X pins σ Q) X.xe s
section
variable {X : Cx} {a b : Expr} {ta tb : TE} {pos : Pos}
theorem IxR.or {r r' : R2} (h : IxR X r) (h' : IxR X r') : IxR X (fun x y H Q => r x y H Q ∨ r' x y H Q) := by
 intro value slice pins s σ H x y v u Q I rx ry q hs
 rcases q with q | q
 ·exact h value slice pins s σ H x y v u Q I rx ry q hs
 ·exact h' value slice pins s σ H x y v u Q I rx ry q hs
theorem pe_ix {r : R2} (hr : IxR X r) (ha : PE X a ta) (hb : PE X b tb) (hs : PlainIx b) : PE X (.Subscript a b pos) (tOp r ta tb) := by
 intro pins s σ H Q I h
 exact Subscript_ (binT ha hb I h fun v u s2 x y H2 I2 rx ry q => hr a b pins s2 σ H2 x y v u Q I2 rx ry q (hs _ _))
def rIxL (K : PySem.W.Frag) : R2 := fun x y H Q => ∃ p xs i v, x = .ref p /\ y = .int i /\ SqL K H p xs /\ atI xs i = some v /\ Q v H
def rIxT (K : PySem.W.Frag) : R2 := fun x y H Q => ∃ p xs i v, x = .ref p /\ y = .int i /\ SqT K H p xs /\ atI xs i = some v /\ Q v H
def rIxS : R2 := fun x y H Q => ∃ z i c, x = .str z /\ y = .int i /\ z.length <= sizeLine /\ atI z.cps.toList i = some c /\ Q (.str ⟨#[c]⟩) H
theorem ix_list : IxR X (rIxL X.K) := by
 intro value slice pins s σ H x y v u Q I rx ry h hs
 obtain ⟨p, xs, i, z, rfl, rfl, hq, he, q⟩ := h
 cases rx
 obtain ⟨t, rfl⟩ := ry
 obtain ⟨its, r, pl, hz⟩ := I.list hq
 obtain ⟨j, h1, h2, h3, h4, h5⟩ := atI_get he
 obtain ⟨w, ew, rw'⟩ := r.get h2
 have hl := r.length
 have hn := line63
 have fin : EP X pins σ Q w s := ⟨z, H, I, rw', q⟩
 by_cases h0 : 0 <= i
 ·have hj : i.toNat = j := by
   rw [seqIndex_of h0 h5] at h1
   exact Option.some.inj h1
  exact item_listR pl.isList h0 (by omega) (by rw [hj]; simpa using ew) fin hs
 ·have hj : (i + (its.toArray.size : Int)).toNat = j := by
   rw [seqIndex_neg (by omega) h4] at h1
   rw [List.size_toArray, <- hl]
   exact Option.some.inj h1
  exact subscriptTail_builtinR (x := w) pl.isList.typeIs slot_list_getitem.lookup
   (wpAny_getItem_list_neg (Q := fun r s' => r = w /\ EP X pins σ Q r s') pl.isList (by omega) (by rw [List.size_toArray] <;> omega) (by omega) (by rw [hj]; simpa using ew) ⟨rfl, fin⟩) hs
theorem ix_tup : IxR X (rIxT X.K) := by
 intro value slice pins s σ H x y v u Q I rx ry h hs
 obtain ⟨p, xs, i, z, rfl, rfl, hq, he, q⟩ := h
 cases rx
 obtain ⟨t, rfl⟩ := ry
 obtain ⟨its, r, pl, hz⟩ := I.tuple hq
 obtain ⟨j, h1, h2, h3, h4, h5⟩ := atI_get he
 obtain ⟨w, ew, rw'⟩ := r.get h2
 have hl := r.length
 have hn := line63
 have fin : EP X pins σ Q w s := ⟨z, H, I, rw', q⟩
 exact subscriptTail_builtinR (x := w) pl.typeIs slot_tuple_getitem.lookup
  (getItem_tuple (j := j) (Q := fun r s' => r = w /\ EP X pins σ Q r s') pl (by omega) (by omega) (by rw [List.size_toArray, <- hl]; exact h1) (by simpa using ew) ⟨rfl, fin⟩) hs
theorem ix_str : IxR X rIxS := by
 intro value slice pins s σ H x y v u Q I rx ry h hs
 obtain ⟨z, i, c, rfl, rfl, hz, he, q⟩ := h
 obtain ⟨t, rfl⟩ := rx
 obtain ⟨t', rfl⟩ := ry
 obtain ⟨j, h1, h2, h3, h4, h5⟩ := atI_get he
 have hl : z.cps.toList.length = z.length := by simp [Str.length]
 rw [hl] at h1 h4 h5
 have hn := line63
 exact tail_any (typeIs_str s z t) slot_str_getitem.lookup (getItem_str (c := c) (by
  have e1 : decide (i < -(2 ^ 63 : Int)) = false := decide_eq_false (by omega)
  have e2 : decide (i ≥ 2 ^ 63) = false := decide_eq_false (by omega)
  rw [e1, e2, Bool.or_false]) (by rw [h1]; simpa using h2) ⟨.str ⟨#[c]⟩, H, I.tok _, ⟨_, rfl⟩, q⟩) hs
def rIx (K : PySem.W.Frag) : R2 := fun x y H Q => rIxL K x y H Q ∨ rIxT K x y H Q ∨ rIxS x y H Q
theorem ix_seq : IxR X (rIx X.K) := ix_list.or (ix_tup.or ix_str)
theorem mapSeq_set (its : List Value) (n j : Nat) (u : Value) : Obj.mapSeq (·.setIfInBounds j u) { cls := .type "list", data := .seq its.toArray n } = { cls := .type "list", data := .seq (its.set j u).toArray n } := by
 simp [Obj.mapSeq]
theorem Inv.lst {pins : List (Addr × Obj)} {σ : St} {H : Hp} {s : Shared} {p : Addr} {xs : List V} (I : Inv X pins σ H s) (h : H p = some (.lst xs)) :
  ∃ (its : List Value) (n : Nat), Vals xs its /\ s.heap.get? p = some { cls := .type "list", data := .seq its.toArray n } /\ xs.length <= sizeLine := by
 obtain ⟨z, its, n, r, e⟩ := I.hok p _ h
 exact ⟨its, n, r, e, z⟩
theorem Inv.lstUpd {pins : List (Addr × Obj)} {σ : St} {H : Hp} {s : Shared} {p : Addr} {xs ys : List V} {its its' : List Value} {n n' : Nat} {f : Obj -> Obj} (I : Inv X pins σ H s) (h : H p = some (.lst xs))
  (ho : s.heap.get? p = some { cls := .type "list", data := .seq its.toArray n }) (hf : f { cls := .type "list", data := .seq its.toArray n } = { cls := .type "list", data := .seq its'.toArray n' }) (r : Vals ys its') (hz : ys.length <= sizeLine) (t : Nat) :
  Inv X pins σ (upd H p (.lst ys)) { s with heap := s.heap.update p f, toks := t } := by
 have e : (s.heap.update p f).get? p = some { cls := .type "list", data := .seq its'.toArray n' } := by
  rw [Heap.get?_update_self f ho (by rw [hf] <;> rfl), hf]
 refine I.write (x := p) (e := p) (by rw [h]; trivial) (.inl rfl) (fun b u hb q => (Heap.get?_update_other _ _ (Ne.symm hb)).trans q) ⟨_, e⟩ ?_
 exact ⟨hz, its', n', r, e⟩
def rSetL : V -> V -> V -> Hp -> (Hp -> Prop) -> Prop := fun o i v H Q => ∃ p xs k j, o = .ref p /\ i = .int k /\ H p = some (.lst xs) /\ ixN xs.length k = some j /\ Q (upd H p (.lst (xs.set j v)))
theorem set_list : PSet X rSetL := by
 intro pins s σ H o i v ov iv u Q I ro ri rv h
 obtain ⟨p, xs, k, j, rfl, rfl, hp, hj, q⟩ := h
 cases ro
 obtain ⟨t, rfl⟩ := ri
 obtain ⟨its, n, r, ho, hz⟩ := I.lst hp
 obtain ⟨h1, h2, h3, h4⟩ := ixN_seq hj
 have hl := r.length
 have hn := line63
 have I' : Inv X pins σ (upd H p (.lst (xs.set j v))) { s with heap := s.heap.update p (Obj.mapSeq (·.setIfInBounds j u)) } :=
  I.lstUpd hp ho (mapSeq_set its n j u) (r.set rv j) (by rw [List.length_set]; exact hz) s.toks
 by_cases h0 : 0 <= k
 ·have hk : k.toNat = j := by
   rw [seqIndex_of h0 h4] at h1
   exact Option.some.inj h1
  exact PySem.W.ki_setAt ho h0 (by omega) (by rw [List.size_toArray, <- hl]; exact h4) (by rw [hk]; exact ⟨_, I', q⟩)
 ·have hk : (k + (its.toArray.size : Int)).toNat = j := by
   rw [seqIndex_neg (by omega) h3] at h1
   rw [List.size_toArray, <- hl]
   exact Option.some.inj h1
  exact PySem.W.ki_setBack ho (by omega) (by rw [List.size_toArray, <- hl]; exact h3) (by omega) (by rw [hk]; exact ⟨_, I', q⟩)
theorem call_len_seq : CallR X (.builtin "len") (fun xs H Q => ∃ p ys, xs = [.ref p] /\ (SqL X.K H p ys ∨ SqT X.K H p ys) /\ Q (.int ys.length) H) := by
 intro pins s σ H xs us Q I r h
 obtain ⟨p, ys, rfl, hq, q⟩ := h
 obtain ⟨u, rfl, rx⟩ := vals1 r
 cases rx
 have hn := line63
 rcases hq with hq | hq
 ·obtain ⟨its, r', pl, hz⟩ := I.list hq
  have hlen := r'.length
  exact Calls.call_len_list pl.isList (by simp only [List.size_toArray] <;> omega) ⟨.int ys.length, H, I.tok _, ⟨s.toks + 1, by rw [List.size_toArray, hlen]⟩, q⟩
 ·obtain ⟨its, r', pl, hz⟩ := I.tuple hq
  have hlen := r'.length
  exact len_tuple pl (by simp only [List.size_toArray] <;> omega) ⟨.int ys.length, H, I.tok _, ⟨s.toks + 1, by rw [List.size_toArray, hlen]⟩, q⟩
theorem call_len_str : CallR X (.builtin "len") (fun xs H Q => ∃ z, xs = [.str z] /\ z.length <= sizeLine /\ Q (.int z.length) H) := by
 intro pins s σ H xs us Q I r h
 obtain ⟨z, rfl, hz, q⟩ := h
 obtain ⟨u, rfl, t, rfl⟩ := vals1 r
 have hn := line63
 exact len_str (by omega) ⟨.int z.length, H, I.tok _, ⟨_, rfl⟩, q⟩
theorem CallR.or {f : Value} {r r' : List V -> Hp -> VK -> Prop} (h : CallR X f r) (h' : CallR X f r') : CallR X f (fun xs H Q => r xs H Q ∨ r' xs H Q) := by
 intro pins s σ H xs us Q I rs q
 rcases q with q | q
 ·exact h pins s σ H xs us Q I rs q
 ·exact h' pins s σ H xs us Q I rs q
theorem call_tuple_of : CallR X (.type "tuple") (fun xs H Q => ∃ p ys, xs = [.ref p] /\ ((SqL X.K H p ys /\ ∀ l, H l = none -> Q (.ref l) (upd H l (.tup ys))) ∨ (SqT X.K H p ys /\ Q (.ref p) H))) := by
 intro pins s σ H xs us Q I r h
 obtain ⟨p, ys, rfl, h⟩ := h
 obtain ⟨u, rfl, rx⟩ := vals1 r
 cases rx
 rcases h with ⟨hq, q⟩ | ⟨hq, q⟩
 ·obtain ⟨its, r', pl, hz⟩ := I.list hq
  have hlen := r'.length
  refine call_tuple_list pl.isList (fun h' kp => ?_) (by simp only [List.size_toArray] <;> omega)
  have I1 : Inv X pins σ H { s with heap := h' } := I.kept (t' := s.toks) kp
  have I2 : Inv X pins σ (upd H h'.objs.size (.tup ys)) { s with heap := h'.push { cls := .type "tuple", data := .seq its.toArray } } :=
   I1.laid (t' := s.toks) (fun b o e => Heap.get?_push_of_some _ e) (Nat.le_refl _) (show ObjOk X.prog X.w _ _ _ (.tup ys) from ⟨hz, its, r', IsTup.new _ _, _, Heap.get?_push_size _ rfl, rfl⟩)
  exact ⟨.ref h'.objs.size, _, I2, rfl, q _ (I1.hok.fresh (Nat.le_refl _))⟩
 ·obtain ⟨its, r', pl, hz⟩ := I.tuple hq
  exact call_tuple_same pl ⟨.ref p, H, I, rfl, q⟩
variable {o e : Expr} {es : List Expr} {to : TE} {t : TA} {name : Str} {apos cpos : Pos} {T id : String} {r : V -> List V -> Hp -> VK -> Prop}
/- xs.append(e), list.index on a module's tuple .. are MtR facts of 06m -/
end
section
variable {X : Cx} {pins : List (Addr × Obj)} {σ : St} {H : Hp} {s : Shared} {l b : Addr} {xs ys zs : List V}
theorem Inv.lnew {its : List Value} {t' : Nat} (I : Inv X pins σ H s) (hv : Vals ys its) (hz : ys.length <= sizeLine) :
  Inv X pins σ (upd H s.heap.objs.size (.lst ys)) { s with heap := s.heap.push { cls := .type "list", data := .seq its.toArray }, toks := t' } :=
 I.laid (fun _ _ q => Heap.get?_push_of_some _ q) (Nat.le_refl _) ⟨hz, its, 0, hv, Heap.get?_push_size _ rfl⟩
theorem Inv.fresh (I : Inv X pins σ H s) : H s.heap.objs.size = none := I.hok.fresh (Nat.le_refl _)
end
section
variable {X : Cx}
end
end L2
namespace Att
open PySem PySem.W PySem.Calls PyProof.Rows
theorem ints_of_wellAll {P : Params} {h : Heap} : ∀ (ns : List Int) (vs : List Value), WellAll P h vs (ns.map WData.int) -> IntsAre vs ns := by
 intro ns
 induction ns with
 | nil =>
  intro vs w
  rw [List.map_nil] at w
  cases w
  exact .nil
 | cons n ns ih =>
  intro vs w
  rw [List.map_cons] at w
  cases w with
  | cons a b =>
   cases a
   exact .cons _ _ (ih _ b)
theorem script_of {l : OpenLaw} {n : Nat} (hn : l.most = some n) {P : Params} {h : Heap} {args : List WData} {vals : List Value}
  (hpre : l.row.toRowW.claim.pre args = true) (hwl : WellAll P h vals args) :
  ∃ a vs ns, vals = [Value.ref a] /\ args = [WData.list (ns.map WData.int)] /\ h.get? a = some { cls := .type "list", data := .seq vs.toArray } /\ IntsAre vs ns /\ ns.length <= n := by
 have hsh : WShape.hasAll [] args [.list .int] = true := (pre_splitW hpre).1
 have hc : l.pre.holds [] { args := args } = true := (pre_splitW hpre).2
 obtain ⟨d, r, rfl, h1, h2⟩ := hasAllW_cons hsh
 obtain rfl := hasAllW_nil h2
 obtain ⟨xs, rfl, h3⟩ := hasW_list h1
 obtain ⟨ns, rfl⟩ := items_int h3
 have hlen : ns.length <= n := by
  unfold OpenLaw.pre at hc
  have h4 : (WTm.not (.lt (.lit (.int (n : Int))) (.len (.arg 0)))).holds [] { args := [.list (ns.map .int)] } = true := by
   have h4 := (holds_andW hc).1
   rw [hn] at h4
   exact h4
  have h5 := condW_of h4 (w_not (w_lt w_lit (w_len_list (w_arg rfl))))
  rw [List.length_map] at h5
  refine Nat.le_of_not_lt fun q => ?_
  have q' : (n : Int) < ((ns.length : Nat) : Int) := by omega
  first
   | (rw [decide_eq_true q'] at h5; exact absurd h5 (by decide))
   | (simp at h5; omega)
 cases hwl with
 | cons w1 w2 =>
  cases w2
  cases w1 with
  | list ho hall => exact ⟨_, _, ns, rfl, rfl, ho, ints_of_wellAll ns _ hall, hlen⟩
theorem post_true (l : OpenLaw) (args : List WData) : l.row.toRowW.claim.post args (.bool true) args = true :=
 postW_of (r := l.row.toRowW) (X := (true == true))
  (show WShape.has [] (.bool true) .bool = true by first | rfl | decide | simp [WShape.has, WShape.arms, WShape.armsAll])
  (show (WTm.eq .res (.lit (.bool true))).value [] { args := args, res := some (.bool true), after := args } = some (.bool (true == true)) from w_eq_bool (w_res rfl) w_lit) rfl
theorem attach_call {l : OpenLaw} {n : Nat} {q : Program} {loose : List Str} {XP : (Str -> Option Value) -> Heap -> Prop} {YP : World -> Heap -> Prop} {d : DefRec}
  (hn : l.most = some n) (hdf : d.params.defaults = [])
  (call : ∀ (w : World) (s₀ s₁ : Shared) (mg mb : Str -> Option Value) (fa : Addr) (o : Obj) (pm cd doc : Value) (a : Addr) (vs : List Value) (ns : List Int),
   Ground q loose [] XP w s₀ mg mb s₁.heap -> YP w s₁.heap →
   s₁.heap.get? fa = some o -> o.data = .func (docDef d.name d.params d.body d.scope pm cd doc) -> s₁.heap.CodeRec cd d.name -> mg d.name = some (.ref fa) →
   s₁.heap.get? a = some { cls := .type "list", data := .seq vs.toArray } -> IntsAre vs ns -> ns.length <= n -> s₁.gens = #[] →
   codeAny (model l.prog w) callerA (.call (.ref fa) ⟨[.ref a], []⟩) (fun r s' => r = .ok (.ret (.bool true)) /\ OldK s₁.heap s'.heap /\ s'.os = s₁.os /\ AllBare s'.gens) s₁) :
  WalkO q loose XP YP l.row.toRowW d [] (fun f vs => PySem.call f vs) := by
 intro w s₀ s₁ mg mb G Y fa o pm cd doc dV kV ho hd hcd hD hmg hg args vals as hpre hlay hrd hwl hlo
 obtain rfl : dV = .none := Dflts.none hD hdf
 obtain rfl : kV = .none := Dflts.noKw hD
 obtain ⟨a, vs, ns, rfl, rfl, hobj, hints, hlen⟩ := script_of hn hpre hwl
 refine enter_call (codeAny_mono (call w s₀ s₁ mg mb fa o pm cd doc a vs ns G Y ho (fd_plain hd) hcd hmg hobj hints hlen hg) fun r s' hq => ?_)
 obtain ⟨rfl, h2, h3, h4⟩ := hq
 exact ⟨.inl ⟨.bool true, .bool true, [], rfl, fun _ => rfl, .bool true, post_true l _, fun _ => ⟨List.Pairwise.nil, fun _ hm => (nomatch hm)⟩⟩, h2, h3, h4⟩
section
variable {prog : Program} {w : World} {A : Around} {E : Value -> Shared -> Prop} {s : Shared} {K : Frag}
end
end Att
namespace L2
open PySem PySem.Spec PyProof.Rows
theorem vals_ints : ∀ {vs : List Value} {ns : List Int}, IntsAre vs ns -> Vals (ns.map V.int) vs
 | _, _, .nil => .nil
 | _, _, .cons n t h => .cons ⟨t, rfl⟩ (vals_ints h)
def Only (H : Hp) : Prop := ∀ b, H b = none ∨ ∃ o xs, H b = some (.frz o (.lst xs))
theorem law_call {P : Program} {w : World} {K : PySem.W.Frag} {mg mb : Str -> Option Value} {CX : CXT} {k : Nat} {fa a : Addr} {fd : FuncData} {x : Str} {sp : Sp} {s₁ : Shared} {vs : List Value} {ns : List Int}
  (KX : K.In s₁.heap) (hns : s₁.heap.Ns mainGlobals mg) (hb : s₁.heap.Ns builtinsNs mb) (hbb : ∀ x : Str, x ≠ "__name__" -> mb x = bootBuiltins x) (hlim : s₁.heap.NoLimit) (hg : s₁.gens = #[])
  (ha : s₁.heap.get? a = some { cls := .type "list", data := .seq vs.toArray }) (hi : IntsAre vs ns) (hl : ns.length <= sizeLine) (hr : Room k callerA)
  (F : ∀ base : Heap, K.In base -> base.Ns mainGlobals mg -> FnOk P w K mg base CX k fa fd [x] sp) (hbind : ∀ (s : Shared) (u : Value), BindsTo s fd ⟨[u], []⟩ [(x, u)])
  (hsp : ∀ H : Hp, Only H -> SqL K H a (ns.map V.int) -> sp [.ref a] H (fun v _ => v = .bl true) fun _ _ _ => False)
  (hCX : ∀ H e s', CX [] H s₁ (fun _ _ _ => False) e s' -> False) :
  codeAny (model P w) callerA (.call (.ref fa) ⟨[.ref a], []⟩) (fun r s' => r = .ok (.ret (.bool true)) /\ OldK s₁.heap s'.heap /\ s'.os = s₁.os /\ AllBare s'.gens) s₁ := by
 have rv := vals_ints hi
 have lenV := hi.length
 have core : ∀ H : Hp, Only H -> SqL K H a (ns.map V.int) -> HOk P w H s₁.heap -> (∀ b, H b ≠ none -> b = a) -> (H a ≠ none -> K.lookup a = none) →
   codeAny (model P w) callerA (.call (.ref fa) ⟨[.ref a], []⟩) (fun r s' => r = .ok (.ret (.bool true)) /\ OldK s₁.heap s'.heap /\ s'.os = s₁.os /\ AllBare s'.gens) s₁ := by
  intro H hO hS hok hA hK
  have base_of : ∀ {b : Addr} {o : Obj}, s₁.heap.get? b = some o -> H b = none -> (hidT s₁.heap H).get? b = some o := fun e n => hidT_get e n
  have noA : ∀ {b : Addr} {o : Obj} {es : Array DictEntry} {ep : Nat}, s₁.heap.get? b = some o -> o.data = .dict es ep -> H b = none := fun {b o es ep} e d => by
   cases q : H b with
   | none => rfl
   | some u =>
    have e' : b = a := hA b (by rw [q]; simp)
    subst e'
    rw [ha] at e; cases e
    have d' : Data.seq vs.toArray _ = Data.dict es ep := d
    cases d'
  have nsK : ∀ {b : Addr} {m : Str -> Option Value}, s₁.heap.Ns b m -> (hidT s₁.heap H).Ns b m := fun {b m} ⟨o, es, ep, e, d, r⟩ => ⟨o, es, ep, base_of e (noA e d), d, r⟩
  have hKb : K.In (hidT s₁.heap H) := fun b o e => base_of (KX b o e) (by
   cases q : H b with
   | none => rfl
   | some u =>
    have e' : b = a := hA b (by rw [q]; simp)
    subst e'
    rw [hK (by rw [q]; simp)] at e; cases e)
  have hM : Mod K mg (hidT s₁.heap H) := ⟨hKb, nsK hns, ⟨mb, nsK hb, hbb⟩, let ⟨mc, h1, h2⟩ := hlim; ⟨mc, nsK h1, h2⟩⟩
  have e0 : Env0 P w K mg (hidT s₁.heap H) callerA [] s₁ H := ⟨rfl, hM, fun b o e => of_hidT e, Nat.le_of_eq (hidT_size _ _), trivial, fun b hb => absurd (show b ∈ ([] : List Addr) from hb) (by simp), hok, .of_eq hg⟩
  refine codeAny_mono ((F _ hKb (nsK hns)).run callerA [] s₁ H ⟨[.ref a], []⟩ [.ref a] [.ref a] _ _ hr e0 (hbind s₁ (.ref a)) (.cons rfl .nil) (hsp H hO hS)) fun r s' h => ?_
  cases r with
  | error e => exact (hCX H e s' h).elim
  | ok fl =>
   cases fl with
   | next => exact False.elim h
   | brk => exact False.elim h
   | cont => exact False.elim h
   | ret u =>
    obtain ⟨v, H', os, bare, un, hok', r', q⟩ := h
    have q' : v = .bl true := q
    subst q'
    obtain rfl : u = Value.bool true := r'
    refine ⟨rfl, OldK.of_keep fun b o e => ?_, os, bare⟩
    cases q : H b with
    | none => exact un.keep b o e q (by intro z; exact absurd (show b ∈ ([] : List Addr) from z) (by simp)) (by simp)
    | some u =>
     rcases hO b with z | ⟨ob, xs, z⟩
     ·rw [q] at z; cases z
     ·have z2 := un.frzs b ob _ z
      obtain ⟨e1, _⟩ := hok b _ z
      obtain ⟨e2, _⟩ := hok' b _ z2
      rw [e] at e1; cases e1
      exact e2
 cases hk : K.lookup a with
 | some o =>
  have e := KX a o hk
  rw [ha] at e
  cases e
  refine core (fun _ => none) (fun _ => .inl rfl) (.inr ⟨_, vs.toArray, _, hk, rfl, rfl, rfl, by rw [List.size_toArray, lenV]; exact hl, by simpa using rv⟩) (fun b u z => by have z' : (none : Option HO) = some u := z; cases z') (fun b z => absurd rfl z) fun z => absurd rfl z
 | none =>
  refine core (fun b => if b = a then some (.frz { cls := .type "list", data := .seq vs.toArray } (.lst (ns.map V.int))) else none) (fun b => ?_) (.inl (.inr ⟨{ cls := .type "list", data := .seq vs.toArray }, if_pos rfl⟩)) (fun b u z => ?_) (fun b z => ?_) fun _ => hk
  ·by_cases hb : b = a
   ·exact .inr ⟨_, _, if_pos hb⟩
   ·exact .inl (if_neg hb)
  ·by_cases hb : b = a
   ·have z' := (if_pos hb).symm.trans z
    cases z'
    subst hb
    exact ⟨ha, by rw [List.length_map]; exact hl, vs, _, rv, ha⟩
   ·have z' := (if_neg hb).symm.trans z
    cases z'
  ·by_cases hb : b = a
   ·exact hb
   ·exact absurd (if_neg hb) z
theorem walk_of {l : PySem.W.OpenLaw} {n k : Nat} {q : Program} {loose : List Str} {XP : (Str -> Option Value) -> Heap -> Prop} {YP : World -> Heap -> Prop} {d : DefRec} {K : Params -> PySem.W.Frag} {CX : World -> CXT} {sp : World -> Sp} {x : Str}
  (hn : l.most = some n) (hn2 : n <= sizeLine) (hdf : d.params.defaults = []) (hr : Room k callerA)
  (hY : ∀ (w : World) (h : Heap), YP w h -> (K w.params).In h)
  (F : ∀ (w : World) (mg : Str -> Option Value) (fa : Addr) (h : Heap), (K w.params).In h -> h.Ns mainGlobals mg -> mg d.name = some (.ref fa) →
   ∃ fd : FuncData, (∀ (s : Shared) (u : Value), BindsTo s fd ⟨[u], []⟩ [(x, u)]) ∧
    ∀ base : Heap, (K w.params).In base -> base.Ns mainGlobals mg -> FnOk l.prog w (K w.params) mg base (CX w) k fa fd [x] (sp w))
  (hsp : ∀ (w : World) (H : Hp) (a : Addr) (ns : List Int), ns.length <= n -> Only H -> SqL (K w.params) H a (ns.map V.int) -> sp w [.ref a] H (fun v _ => v = .bl true) fun _ _ _ => False)
  (hCX : ∀ (w : World) (H : Hp) (s : Shared) (e : Value) (s' : Shared), CX w [] H s (fun _ _ _ => False) e s' -> False) :
  PySem.W.WalkO q loose XP YP l.row.toRowW d [] (fun f vs => PySem.call f vs) := by
 refine Att.attach_call hn hdf fun w s₀ s₁ mg mb fa o pm cd doc a vs ns G Y ho hd hcd hmg hobj hints hlen hg => ?_
 have KX := hY w _ Y
 obtain ⟨fd, hb, hF⟩ := F w mg fa _ KX G.T.g hmg
 exact law_call KX G.T.g G.T.b G.T.builtins G.T.nolimit hg hobj hints (Nat.le_trans hlen hn2) hr hF hb (fun H hO hS => hsp w H a ns hlen hO hS) fun H e s' => hCX w H s₁ e s'
theorem walk_ofK {l : PySem.W.OpenLaw} {n k : Nat} {q : Program} {loose : List Str} {XP : (Str -> Option Value) -> Heap -> Prop} {YP : World -> Heap -> Prop} {d : DefRec} {K : Params -> PySem.W.Frag} {CX : CXT} {sp : PySem.W.Frag -> Sp} {x : Str}
  (hn : l.most = some n) (hn2 : n <= sizeLine) (hdf : d.params.defaults = []) (hr : Room k callerA)
  (hY : ∀ (w : World) (h : Heap), YP w h -> (K w.params).In h)
  (F : ∀ (w : World) (mg : Str -> Option Value) (fa : Addr) (h : Heap), (K w.params).In h -> h.Ns mainGlobals mg -> mg d.name = some (.ref fa) →
   ∃ fd : FuncData, (∀ (s : Shared) (u : Value), BindsTo s fd ⟨[u], []⟩ [(x, u)]) ∧
    ∀ base : Heap, (K w.params).In base -> base.Ns mainGlobals mg -> FnOk l.prog w (K w.params) mg base CX k fa fd [x] (sp (K w.params)))
  (hsp : ∀ (K : PySem.W.Frag) (H : Hp) (a : Addr) (ns : List Int), ns.length <= n -> Only H -> SqL K H a (ns.map V.int) -> sp K [.ref a] H (fun v _ => v = .bl true) fun _ _ _ => False)
  (hCX : ∀ (H : Hp) (s : Shared) (e : Value) (s' : Shared), CX [] H s (fun _ _ _ => False) e s' -> False) :
  PySem.W.WalkO q loose XP YP l.row.toRowW d [] (fun f vs => PySem.call f vs) :=
 walk_of (K := K) (CX := fun _ => CX) (sp := fun w => sp (K w.params)) hn hn2 hdf hr hY F (fun w H a ns h1 h2 h3 => hsp (K w.params) H a ns h1 h2 h3) fun _ H s e s' => hCX H s e s'
end L2
/- THE LAST THEOREM (shape; LID, My.* are yours):
   My.Adr: a structure of the addresses that your layer names (classes, functions); My.Txt K t: a structure (Prop) of the equations over K;
   My.txt_mk : {K} {implicit addresses ..} (e1 : nsIn K mainGlobals "law" = some (some (.ref f))) (e2 : K.lookup f = some ⟨oc, od, .func (fnOf "law" "law" params body scope dV kV doc pm an cdv ct), sl⟩) (e3 : codeIn K cdv "law" = true) .. : ∃ t, My.Txt K t
(the tactic k_is has no namespace: write k_is) -/
namespace L2
open PySem PySem.Spec PyProof.Rows
def defArgs (s : Stmt) : Arguments := match s with
 | .FunctionDef _ a _ _ _ _ _ _ _ _ => a
 | _ => { posonlyargs := [], args := [], vararg := none, kwonlyargs := [], kw_defaults := [], kwarg := none, defaults := [] }
def defBody (s : Stmt) : List Stmt := match s with
 | .FunctionDef _ _ b _ _ _ _ _ _ _ => b
 | _ => []
def defScope (s : Stmt) : Scope := match s with
 | .FunctionDef _ _ _ _ _ _ sc _ _ _ => sc
 | _ => { kind := .function, names := [], isGenerator := false, isCoroutine := false }
abbrev CX0 : CXT := fun _ _ _ _ _ _ => False
abbrev E0 : XK := fun _ _ _ => False
theorem pass0 {X : Cx} : Passes CX0 X E0 := fun _ _ _ _ _ _ _ h => h.elim
structure Fun (K : PySem.W.Frag) (x qual : Str) (st : Stmt) (f : Addr) (fd : FuncData) : Prop where
 ex : ∃ (oc : Value) (od : Option Addr) (kV doc pm : Value) (an : Option Addr) (cdv ct : Value) (osl : Array (Option Value)),
  fd = PySem.W.fnOf x qual (defArgs st) (defBody st) (defScope st) .none kV doc pm an cdv ct /\ K.lookup f = some ⟨oc, od, .func fd, osl⟩ /\ PySem.W.codeIn K cdv qual = true
 kp : PySem.W.keepIn K (.ref f) = true
section
variable {P : Program} {w : World} {K : PySem.W.Frag} {mg : Str -> Option Value} {base : Heap}
theorem Fun.ok {x qual : Str} {st : Stmt} {f : Addr} {fd : FuncData} {N ps : List Str} {k : Nat} {sp : Sp} (F : Fun K x qual st f fd) (S : FnScope N ps (defScope st)) (len : ∀ vs H Q E, sp vs H Q E -> vs.length = ps.length)
  (hbody : ∀ (cdv : Value) (A : Around) (outer : List Env) (s : Shared) (H : Hp) (vs : List V) (Q : VK) (E : XK), Room k (A.deeper (envOfC qual (defScope st) s.heap.objs.size f cdv)) -> sp vs H Q E →
   ∃ t, PSs (cxOf CX0 P w K mg base N qual (defScope st) f cdv A outer s H E).nox (defBody st) t /\ t { nx := fun _ H' => Q .non H', rt := Q } (start N vs) H) : FnOk P w K mg base CX0 (k + 1) f fd ps sp := by
 obtain ⟨oc, od, kV, doc, pm, an, cdv, ct, osl, rfl, lk, hcd⟩ := F.ex
 refine fn_of lk hcd S len fun A outer s H vs Q E hr hsp => ?_
 obtain ⟨t, h, q⟩ := hbody cdv A outer s H vs Q E hr hsp
 exact ⟨t, h.nox, q⟩
theorem Fun.binds {x qual : Str} {st : Stmt} {f : Addr} {fd : FuncData} {ps : List Str} (F : Fun K x qual st f fd)
  (h : ∀ (kV doc pm : Value) (an : Option Addr) (cdv ct : Value) (us : List Value), us.length = ps.length -> bindArgs (PySem.W.fnOf x qual (defArgs st) (defBody st) (defScope st) .none kV doc pm an cdv ct) ⟨us, []⟩ = pure (ps.zip us)) : Binds K fd ps [] := by
 obtain ⟨oc, od, kV, doc, pm, an, cdv, ct, osl, rfl, lk, hcd⟩ := F.ex
 exact .all (h kV doc pm an cdv ct)
end
theorem hu_of {A : Around} {k : Nat} (hr : Room k A) : A.units + 1 < cLine := Nat.lt_of_le_of_lt (Nat.add_le_add_left (by decide : 1 <= 64) _) hr.units
def Same (H H' : Hp) : Prop := ∀ b o, H b = some o -> H' b = some o
theorem Same.refl (H : Hp) : Same H H := fun _ _ h => h
end L2
set_option autoImplicit false
namespace MD
open PySem PySem.Spec PyProof.Rows L2
def Kof (n : Nat) (h : Heap) : PySem.W.Frag := (List.range n).filterMap fun a => (h.get? a).map fun o => (a, o)
abbrev FnT := Option (Str × Str × Arguments × List Stmt × Scope)
def valNone (v : Value) : Bool := match v with
 | .none => true
 | _ => false
def fnV (K : PySem.W.Frag) (f : Addr) : FnT × Bool := match K.lookup f with
 | some ⟨_, _, .func ⟨x, q, ps, .stmts b, sc, gl, [], dv, _, _, _, _, cd, _, bl⟩, _⟩ => (some (x, q, ps, b, sc), Nat.beq gl mainGlobals && Nat.beq bl builtinsNs && valNone dv && PySem.W.codeIn K cd q)
 | _ => (none, false)
def viewOf (keep : List Nat) (p : Program) : Program := { p with main := { p.main with body := keep.filterMap fun i => p.main.body[i]? } }
end MD
set_option autoImplicit false
namespace K07
open PySem PyProof.Rows L2 MD
def top (i : Nat) : Stmt := PySem.Challenge.pw_shorthead_k07_tightest.main.body.getD i (.Pass ⟨0, 0, 0, 0⟩)
abbrev sWidthFor : Stmt := top 1
abbrev sRestOf : Stmt := top 3
abbrev sTightest : Stmt := top 4
abbrev sWidthWith : Stmt := top 5
abbrev sLawPot : Stmt := top 7
abbrev sLawDraw : Stmt := top 8
abbrev sLawValue : Stmt := top 9
abbrev sLawWhole : Stmt := top 10
abbrev sLawOffset : Stmt := top 11
abbrev sLawIn : Stmt := top 12
abbrev sLawBelows : Stmt := top 13
abbrev sLawDue : Stmt := top 14
abbrev sLaw : Stmt := top 15
def nms : List Str := ["width_for", "rest_of", "tightest", "width_with", "_law_pot", "_law_draw", "_law_value", "_law_whole", "_law_offset", "_law_in", "_law_belows", "_law_due", "law", "min", "range", "sorted", "int", "isinstance", "all", "list", "set", "max", "len", "abs", "bool", "tuple"]
def nmsE : List (Option (Option Value)) := ([some (some (.ref 21)), some (some (.ref 28)), some (some (.ref 33)), some (some (.ref 38)), some (some (.ref 45)), some (some (.ref 52)), some (some (.ref 59)), some (some (.ref 66)), some (some (.ref 73))] ++ [some (some (.ref 78)), some (some (.ref 83)), some (some (.ref 88)), some (some (.ref 93)), some none, some none, some none, some none, some none, some none, some none, some none, some none, some none, some none, some none, some none])
def fnd : List (Addr × Str) := []
def fndE : List (Option (Option Value)) := []
def fnsa : List Addr := [21, 28, 33, 38, 45, 52]
def fnsb : List Addr := [59, 66, 73, 78, 83, 88, 93]
def fns : List Addr := fnsa ++ fnsb
def fnE (x q : Str) (st : Stmt) : FnT × Bool := (some (x, q, defArgs st, defBody st, defScope st), true)
def fnsaE : List (FnT × Bool) := [fnE "width_for" "width_for" sWidthFor, fnE "rest_of" "rest_of" sRestOf, fnE "tightest" "tightest" sTightest, fnE "width_with" "width_with" sWidthWith, fnE "_law_pot" "_law_pot" sLawPot, fnE "_law_draw" "_law_draw" sLawDraw]
def fnsbE : List (FnT × Bool) := [fnE "_law_value" "_law_value" sLawValue, fnE "_law_whole" "_law_whole" sLawWhole, fnE "_law_offset" "_law_offset" sLawOffset, fnE "_law_in" "_law_in" sLawIn, fnE "_law_belows" "_law_belows" sLawBelows, fnE "_law_due" "_law_due" sLawDue, fnE "law" "law" sLaw]
def fnsE : List (FnT × Bool) := fnsaE ++ fnsbE
def bls (K : PySem.W.Frag) : List Bool := []
def blsE : List Bool := List.replicate 0 true
def obs (K : PySem.W.Frag) : List (Option (Option Value)) × List (Option (Option Value)) × List (FnT × Bool) × List Bool := (nms.map (PySem.W.nsIn K mainGlobals), fnd.map (fun p => PySem.W.findIn K (.ref p.1) p.2), fns.map (fnV K), bls K)
def expd : List (Option (Option Value)) × List (Option (Option Value)) × List (FnT × Bool) × List Bool := (nmsE, fndE, fnsE, blsE)
abbrev pw : Program := PySem.Challenge.pw_shorthead_k07_tightest
def vw : Program := viewOf ([1, 3, 4, 5, 7, 8, 9, 10, 11, 12, 13, 14, 15]) pw
def xt (s : Shared) : Bool := PySem.W.xlAt vw [] s && PySem.W.recOk (PySem.W.RowW.records PySem.Challenge.rw_shorthead_k07_tightest.row.toRowW) s
def zO (s : Shared) := PySem.W.openSeen vw [] (importedModules pw.main.body) xt true s
def zG := PySem.W.openGood vw []
def zE (w : World) := PySem.W.openEnds treeTable pw w 934
def hl0 (w : World) := (zE w).map fun s => zO s
def hr0 (_ : World) := some zG
def hl1 (w : World) := (zE w).map fun s => nms.map (PySem.W.nsIn (Kof 94 s.heap) mainGlobals)
def hr1 (_ : World) := some (nmsE)
def hl3 (w : World) := (zE w).map fun s => fnsa.map (fnV (Kof 94 s.heap))
def hr3 (_ : World) := some (fnsaE)
def hl4 (w : World) := (zE w).map fun s => fnsb.map (fnV (Kof 94 s.heap))
def hr4 (_ : World) := some (fnsbE)
end K07
namespace PySem.W.Fast
lay_quick K07.hl0 K07.hr0 K07.hl1 K07.hr1 K07.hl3 K07.hr3 K07.hl4 K07.hr4
end PySem.W.Fast
namespace K07
open PySem PyProof.Rows L2 MD PySem.W.Fast
theorem hlq0 (w : World) : tw5072060768149308278 w = tw2456663818159567807 w := by kernel_rfl
theorem hlq1 (w : World) : tw2578623601498417369 w = tw8791455421210971931 w := by kernel_rfl
theorem hlq3 (w : World) : tw13368008040644787056 w = tw1390505059672817567 w := by kernel_rfl
theorem hlq4 (w : World) : tw15314997930359613257 w = tw16743649689066462648 w := by kernel_rfl
end K07
namespace L2
open PySem PySem.Spec PyProof.Rows
section
variable {X : Cx}
theorem op_mul_str : OpR X (binaryOp .Mult) (fun x y H Q => ∃ z n, x = .str z /\ y = .int n /\ MulOk z n /\ Q (.str (Txt.mul z n)) H) := by
 intro pins s σ H x y v u Q I rx ry h
 obtain ⟨z, n, rfl, rfl, hz, q⟩ := h
 obtain ⟨t, rfl⟩ := rx
 obtain ⟨t', rfl⟩ := ry
 exact SB.mul hz fun t' tk => ⟨.str _, H, I.tok _, ⟨_, rfl⟩, q⟩
theorem call_int_txt : CallR X (.type "int") (fun xs H Q => ∃ z n, xs = [.str z] /\ PySem.intText? z = some n /\ z.length <= 640 /\ Q (.int n) H) := by
 intro pins s σ H xs us Q I r h
 obtain ⟨z, n, rfl, hn, hl, q⟩ := h
 obtain ⟨u, rfl, t, rfl⟩ := vals1 r
 exact PySem.W.KIN.call_text hn hl ⟨.int n, H, I.tok _, ⟨_, rfl⟩, q⟩
theorem op_fdivL : OpR X (binaryOp .FloorDiv) (rI (fun _ j => 0 < j /\ j < 2 ^ 64) fun i j => .int (i / j)) := opI fun i j _ _ _ _ _ hc q => by
 have h1 : (0 : Int) < j := hc.1
 have h2 : j < 2 ^ 64 := hc.2
 refine floordiv_int (by omega) (by rw [Int.fdiv_eq_ediv_of_nonneg i (by omega)]; exact q) (.inl (PyProof.noPylong_of_log2 ?_))
 have h3 : j.natAbs < 2 ^ 64 := by omega
 have h4 : j.natAbs.log2 < 64 := (Nat.log2_lt (by omega)).mpr h3
 omega
end
theorem huge_txt : PySem.intText? (("1" : Str) ++ Txt.mul "0" 300) = some (10 ^ 300) := by decide +kernel
theorem huge : ∃ N : Int, 0 < N /\ PySem.intText? (("1" : Str) ++ Txt.mul "0" 300) = some N := ⟨_, by decide +kernel, huge_txt⟩
theorem huge_len : (("1" : Str) ++ Txt.mul "0" 300).length <= 640 := by decide +kernel
def clSub : List (Str × Addr) -> List (Str × Addr) -> Prop
 | [], _ => True
 | (n, a) :: r, cells => cells.lookup n = some a /\ clSub r cells
theorem clSub.at : ∀ {cl cells : List (Str × Addr)} {x : Str} {c : Addr}, clSub cl cells -> cl.lookup x = some c -> cells.lookup x = some c
 | [], _, _, _, _, e => by simp at e
 | (n, a) :: r, cells, x, c, h, e => by
  rw [List.lookup_cons] at e
  cases hx : x == n with
  | true =>
   rw [hx] at e
   cases e
   have q : x = n := by simpa using hx
   rw [q]
   exact h.1
  | false =>
   rw [hx] at e
   exact clSub.at h.2 e
structure CompOk (X : Cx) (N0 : List Str) (scope : Scope) (xs : List Str) (cl : List (Str × Addr)) : Prop where
 clos : closureFor scope X.env = pure cl
 kind : scope.kind = .function
 nocell : (scope.names.all fun y => decide (y.2 ≠ .cell)) = true
 locs : (scope.names.all fun y => decide (y.2 ≠ .local) || (decide (scope.names.lookup y.1 = some .local) && decide (y.1 ∉ N0))) = true
 sub : clSub cl X.env.cells
 has : (scope.names.all fun y => decide (y.2 ≠ .free) || ((cl.lookup y.1).isSome && (decide (X.env.kindOf y.1 = some .cell) || decide (X.env.kindOf y.1 = some .free)))) = true
 hid : N0 = X.N ∨ (N0.length = X.N.length /\ ((N0.zip X.N).all fun p => decide (p.1 = p.2) || (scope.names.lookup p.1).isNone) = true)
def Cx.comp (X : Cx) (N0 : List Str) (scope : Scope) (xs : List Str) (cl : List (Str × Addr)) (C : Addr) (s : Shared) (H : Hp) (fp : List Addr) : Cx :=
 { X with N := N0 ++ xs, s₀ := s, H₀ := H, env := compEnvC scope cl C X.env, outer := X.stack, stack := X.stack, ex := fp, fn := fun _ => false, pn := [] }
theorem relabel_at {env : Env} : ∀ {names : List (Str × NameKind)} {x : Str} {k : NameKind},
  (names.map fun (n, k) => if (k == NameKind.free && env.scope.kind == .function && env.kindOf n == some .cell) then (n, NameKind.cell) else (n, k)).lookup x = some k →
  ∃ k', names.lookup x = some k' /\ (x, k') ∈ names /\ (k' = k ∨ (k' = .free /\ k = .cell))
 | [], _, _, h => by simp at h
 | (n, q) :: r, x, k, h => by
  rw [List.map_cons] at h
  cases hx : x == n with
  | true =>
   have e : x = n := by simpa using hx
   subst e
   refine ⟨q, by simp [List.lookup_cons], List.mem_cons_self, ?_⟩
   dsimp only at h
   split at h
   ·rename_i hc
    simp [List.lookup_cons] at h
    have : q = .free := by
     simp at hc
     exact hc.1.1
    exact .inr ⟨this, h.symm⟩
   ·simp [List.lookup_cons] at h
    exact .inl h
  | false =>
   have h' : (r.map fun (n, k) => if (k == NameKind.free && env.scope.kind == .function && env.kindOf n == some .cell) then (n, NameKind.cell) else (n, k)).lookup x = some k := by
    dsimp only at h
    split at h <;> (simp only [List.lookup_cons, hx] at h; exact h)
   obtain ⟨k', e1, e2, e3⟩ := relabel_at h'
   exact ⟨k', by simp only [List.lookup_cons, hx]; exact e1, List.mem_cons_of_mem _ e2, e3⟩
section
variable {X : Cx} {N0 : List Str} {scope : Scope} {xs : List Str} {cl : List (Str × Addr)}
theorem CompOk.nc (S : CompOk X N0 scope xs cl) : ∀ y ∈ scope.names, y.2 ≠ .cell := fun y hy => of_decide_eq_true (List.all_eq_true.mp S.nocell y hy)
theorem CompOk.lo (S : CompOk X N0 scope xs cl) {y : Str × NameKind} (hy : y ∈ scope.names) (h : y.2 = .local) : scope.names.lookup y.1 = some .local /\ y.1 ∉ N0 := by
 have q := List.all_eq_true.mp S.locs y hy
 rw [Bool.or_eq_true, Bool.and_eq_true, decide_eq_true_eq, decide_eq_true_eq, decide_eq_true_eq] at q
 rcases q with q | q
 ·exact absurd h q
 ·exact q
theorem CompOk.fr (S : CompOk X N0 scope xs cl) {y : Str × NameKind} (hy : y ∈ scope.names) (h : y.2 = .free) : (∃ c, cl.lookup y.1 = some c) /\ (X.env.kindOf y.1 = some .cell ∨ X.env.kindOf y.1 = some .free) := by
 have q := List.all_eq_true.mp S.has y hy
 rw [Bool.or_eq_true, Bool.and_eq_true, Bool.or_eq_true, decide_eq_true_eq, decide_eq_true_eq, decide_eq_true_eq] at q
 rcases q with q | q
 ·exact absurd h q
 ·exact ⟨Option.isSome_iff_exists.mp q.1, q.2⟩
theorem CompOk.vis (S : CompOk X N0 scope xs cl) {x : Str} (h : Vis (relabel scope X.env) x) (hx : x ∈ N0) : ∃ c, cl.lookup x = some c /\ (X.env.kindOf x = some .cell ∨ X.env.kindOf x = some .free) := by
 have go : ∀ k, (relabel scope X.env).names.lookup x = some k -> (k = .local ∨ k = .cell ∨ k = .free) -> ∃ c, cl.lookup x = some c /\ (X.env.kindOf x = some .cell ∨ X.env.kindOf x = some .free) := fun k e hk => by
  obtain ⟨k', _, e2, e3⟩ := relabel_at e
  have hf : k' = .free := by
   rcases e3 with e3 | e3
   ·subst e3
    rcases hk with rfl | rfl | rfl
    ·exact absurd hx (S.lo e2 rfl).2
    ·exact absurd rfl (S.nc _ e2)
    ·rfl
   ·exact e3.1
  obtain ⟨⟨c, q⟩, r⟩ := S.fr e2 hf
  exact ⟨c, q, r⟩
 rcases h with h | h | h
 ·exact go _ h (.inl rfl)
 ·exact go _ h (.inr (.inl rfl))
 ·exact go _ h (.inr (.inr rfl))
theorem CompOk.len (S : CompOk X N0 scope xs cl) : N0.length = X.N.length := S.hid.elim (fun h => by rw [h]) fun h => h.1
theorem CompOk.same (S : CompOk X N0 scope xs cl) {i : Nat} {x : Str} (e : N0[i]? = some x) (h : Vis (relabel scope X.env) x) : X.N[i]? = some x := by
 rcases S.hid with q | ⟨q1, q2⟩
 ·rw [<- q]; exact e
 ·have hi : i < N0.length := (List.getElem?_eq_some_iff.mp e).1
  have hx : ∃ k', scope.names.lookup x = some k' := by
   rcases h with h | h | h <;> (obtain ⟨k', z, _⟩ := relabel_at h; exact ⟨k', z⟩)
  obtain ⟨k', hk⟩ := hx
  have ey := List.getElem?_eq_getElem (show i < X.N.length by omega)
  have hm : (x, X.N[i]'(by omega)) ∈ N0.zip X.N := List.mem_of_getElem? (i := i) (by rw [List.getElem?_zip_eq_some]; exact ⟨e, ey⟩)
  have := List.all_eq_true.mp q2 _ hm
  rw [hk] at this
  simp at this
  rw [ey, <- this]
theorem CompOk.hasC (S : CompOk X N0 scope xs cl) {x : Str} (h : (relabel scope X.env).names.lookup x = some .cell ∨ (relabel scope X.env).names.lookup x = some .free) : ∃ c, cl.lookup x = some c := by
 have go : ∀ k, (relabel scope X.env).names.lookup x = some k -> (k = .cell ∨ k = .free) -> ∃ c, cl.lookup x = some c := fun k e hk => by
  obtain ⟨k', _, e2, e3⟩ := relabel_at e
  have hf : k' = .free := by
   rcases e3 with e3 | e3
   ·subst e3
    rcases hk with rfl | rfl
    ·exact absurd rfl (S.nc _ e2)
    ·rfl
   ·exact e3.1
  exact (S.fr e2 hf).1
 rcases h with h | h
 ·exact go _ h (.inl rfl)
 ·exact go _ h (.inr rfl)
end
section
variable {X : Cx} {N0 : List Str} {scope : Scope} {xs : List Str} {cl : List (Str × Addr)} {pins : List (Addr × Obj)} {σ : St} {H2 : Hp} {s2 : Shared} {fp : List Addr} {C : Addr}
theorem comp_ok (I2 : Inv X pins σ H2 s2) (S : CompOk X N0 scope xs cl) (f2 : ∀ b ∈ fp, FpOk X pins H2 b) (hfp : ∀ b ∈ fp, b < s2.heap.objs.size) (hC : s2.heap.objs.size <= C) : (X.comp N0 scope xs cl C s2 H2 fp).Ok where
 mod := I2.ok.mod
 kind := S.kind
 glob := I2.ok.glob
 blt := I2.ok.blt
 above := hC
 inj := fun x y c h1 h2 => I2.ok.inj x y c (S.sub.at h1) (S.sub.at h2)
 has := fun x h => S.hasC h
 cab := fun _ _ h => nomatch h
 hd := I2.ok.hd
 frames := I2.ok.frames
 stk := .inl rfl
 exf := fun b hb => ⟨Nat.ne_of_lt (Nat.lt_of_lt_of_le (hfp b hb) hC), fun x c e => (f2 b hb).2.2.2.2.1 x c (S.sub.at e)⟩
 bs := I2.bs
 bsz := Nat.le_trans I2.ok.bsz I2.sz
 noex := fun b o e hb => by
  rcases (f2 b hb).2.2.2.1 with z | z
  ·exact I2.ok.noex b o e z
  ·exact absurd (Nat.lt_of_lt_of_le (Heap.lt_size e) (Nat.le_trans I2.ok.bsz z)) (Nat.lt_irrefl _)
 exfs := fun b hb z => by
  rcases List.mem_cons.mp (I2.stkSub b z) with q | q
  ·exact (f2 b hb).2.1 q
  ·exact (f2 b hb).2.2.1 q
 funs := I2.stack
 frf := I2.stkFree
theorem comp_cell {H' : Hp} {h' : Heap} (I2 : Inv X pins σ H2 s2) (f2 : ∀ b ∈ fp, FpOk X pins H2 b) (u : Un (frs X.stack) fp H2 H' s2.heap h') {x : Str} {c : Addr} {v : Option Value} (e : X.env.cells.lookup x = some c) (z : s2.heap.IsCell c v) : h'.IsCell c v := by
 obtain ⟨o, ho, hd⟩ := z
 obtain ⟨sl, q⟩ := u.any ho (I2.freeC x c e) fun hb => (f2 c hb).2.2.2.2.1 x c e rfl
 exact ⟨_, q, hd⟩
theorem comp_loc {H' : Hp} {h' : Heap} {m' : Str -> Option Value} (I2 : Inv X pins σ H2 s2) (S : CompOk X N0 scope xs cl) (f2 : ∀ b ∈ fp, FpOk X pins H2 b) (u : Un (frs X.stack) fp H2 H' s2.heap h')
  (i : Nat) (x : Str) (v : V) (e1 : (N0 ++ xs)[i]? = some x) (e2 : (σ ++ List.replicate xs.length none)[i]? = some (some v)) (e3 : Vis (relabel scope X.env) x) :
  ∃ w, RelV v w /\ Look (compEnvC scope cl C X.env) h' m' x w := by
 have hl := I2.len
 have hl0 := S.len
 by_cases hi : i < σ.length
 ·rw [List.getElem?_append_left (by omega)] at e1
  rw [List.getElem?_append_left hi] at e2
  obtain ⟨c, hc, hk⟩ := S.vis e3 (List.mem_of_getElem? e1)
  obtain ⟨m, _, hloc⟩ := I2.loc
  have hv : Vis X.env.scope x := .inr hk
  obtain ⟨w, r, l⟩ := hloc i x v (S.same e1 e3) e2 hv
  have hcx := S.sub.at hc
  refine ⟨w, r, .inr ⟨?_, c, hc, ?_⟩⟩
  ·rcases e3 with e3 | e3 | e3
   ·obtain ⟨k', _, m2, m3⟩ := relabel_at e3
    rcases m3 with m3 | m3
    ·exact absurd (List.mem_of_getElem? e1) (S.lo m2 m3).2
    ·exact nomatch m3.2
   ·exact .inl e3
   ·exact .inr e3
  ·rcases l with ⟨q, _⟩ | ⟨_, c', q, z⟩
   ·rcases hk with hk | hk
    ·rw [q] at hk; cases hk
    ·rw [q] at hk; cases hk
   ·rw [hcx] at q
    cases q
    exact comp_cell I2 f2 u hcx z
 ·rw [List.getElem?_append_right (by omega), List.getElem?_replicate] at e2
  split at e2 <;> cases e2
theorem comp_reset {pins' : List (Addr × Obj)} {σ' : St} {H' : Hp} {s' : Shared} (I2 : Inv X pins σ H2 s2) (S : CompOk X N0 scope xs cl) (f2 : ∀ b ∈ fp, FpOk X pins H2 b) (J : Inv (X.comp N0 scope xs cl C s2 H2 fp) pins' σ' H' s') :
  Inv (X.comp N0 scope xs cl C s2 H2 fp) pins' (σ ++ List.replicate xs.length none) H' s' :=
 ⟨J.ok, J.os, J.bare, J.base, let ⟨m, hn, _⟩ := J.loc; ⟨m, hn, fun i x v e1 e2 e3 => comp_loc I2 S f2 J.base i x v e1 e2 e3⟩, J.cell, J.free, J.freeC, J.pin, J.hok, by
  rw [List.length_append, List.length_replicate]
  show σ.length + xs.length = (N0 ++ xs).length
  rw [List.length_append, I2.len, S.len]⟩
theorem comp_start {D : Addr} {oD : Obj} {s3 : Shared} {m' : Str -> Option Value} (I2 : Inv X pins σ H2 s2) (S : CompOk X N0 scope xs cl) (f2 : ∀ b ∈ fp, FpOk X pins H2 b) (hfp : ∀ b ∈ fp, b < s2.heap.objs.size) (hC : s2.heap.objs.size <= C) (hD : s2.heap.objs.size <= D) (hDC : D ≠ C)
  (k : ∀ b o, s2.heap.get? b = some o -> s3.heap.get? b = some o) (ho : s3.os = s2.os) (hb : AllBare s3.gens) (hn : s3.heap.Ns C m') (hd : s3.heap.get? D = some oD) (hcell : ∀ v, oD.data ≠ .cell v) :
  Inv (X.comp N0 scope xs cl C s2 H2 fp) [(D, oD)] (σ ++ List.replicate xs.length none) H2 s3 :=
 have u : Un (frs X.stack) fp H2 H2 s2.heap s3.heap := Un.kept k
 ⟨comp_ok I2 S f2 hfp hC, ho, hb, u, ⟨m', hn, fun i x v e1 e2 e3 => comp_loc I2 S f2 u i x v e1 e2 e3⟩,
  fun x c e => by
   obtain ⟨v, z⟩ := I2.cell x c (S.sub.at e)
   exact ⟨v, comp_cell I2 f2 u (S.sub.at e) z⟩,
  I2.hok.fresh hC, fun x c e => I2.freeC x c (S.sub.at e),
  fun p hp => by
   have e : p = (D, oD) := List.mem_singleton.mp (show p ∈ [(D, oD)] from hp)
   subst e
   refine ⟨hd, I2.hok.fresh hD, hDC, fun z => ?_, hcell⟩
   obtain ⟨_, o, q, _⟩ := I2.stack.mem z
   exact absurd (Nat.lt_of_lt_of_le (Heap.lt_size q) hD) (Nat.lt_irrefl _),
  I2.hok.kept k, by
   rw [List.length_append, List.length_replicate]
   show σ.length + xs.length = (N0 ++ xs).length
   rw [List.length_append, I2.len, S.len]⟩
theorem hok_track {P : Program} {w : World} {H : Hp} {h : Heap} {a : Addr} {o : HO} (x : HOk P w H h) (hn : H a = none) (new : ObjOk P w (upd H a o) h a o) : HOk P w (upd H a o) h := fun b u e => by
 by_cases hb : b = a
 ·subst hb
  rw [upd_same] at e
  cases e
  exact new
 ·rw [upd_ne hb] at e
  exact (x b u e).stay (fun _ _ _ q => q) (fun c q => by rw [upd_ne (ne_of_none q hn)]; exact q) fun c ys q => by rw [upd_ne (ne_of_none q hn)]; exact q
theorem comp_end {pins' : List (Addr × Obj)} {σ' : St} {H' : Hp} {s' : Shared} {D : Addr} {ys : List V} {its : List Value} {n : Nat} (I2 : Inv X pins σ H2 s2) (f2 : ∀ b ∈ fp, FpOk X pins H2 b) (hD : s2.heap.objs.size <= D)
  (J : Inv (X.comp N0 scope xs cl C s2 H2 fp) pins' σ' H' s') (hn : H' D = none) (e : s'.heap.get? D = some { cls := .type "list", data := .seq its.toArray n }) (r : Vals ys its) (hz : ys.length <= sizeLine) :
  Inv X pins σ (upd H' D (.lst ys)) s' := by
 have u : Un (frs X.stack) fp H2 H' s2.heap s'.heap := J.base
 have neD : ∀ b o, s2.heap.get? b = some o -> b ≠ D := fun b o q => Nat.ne_of_lt (Nat.lt_of_lt_of_le (Heap.lt_size q) hD)
 have neT : ∀ b o, H2 b = some o -> b ≠ D := fun b o q => Nat.ne_of_lt (Nat.lt_of_lt_of_le (I2.hok.lt q) hD)
 refine I2.call' (ch := fp) J.os ⟨u.keep, u.slot, fun b o q m hx => ?_, u.there, fun b zs q => ?_, fun b o zs q => ?_, fun b ps q => ?_⟩ (hok_track J.hok hn ⟨hz, its, n, r, e⟩) J.bare fun b hb => ?_
 ·rw [upd_ne (neD b o q)]
  exact u.free b o q m hx
 ·rw [upd_ne (neT b _ q)]
  exact u.tups b zs q
 ·rw [upd_ne (neT b _ q)]
  exact u.frzs b o zs q
 ·rw [upd_ne (neT b _ q)]
  exact u.tbls b ps q
 ·obtain ⟨_, z1, _, z2, z3, z4⟩ := f2 b hb
  exact ⟨z2, z1, z3, z4⟩
end
def PIf (X : Cx) (ifs : List Expr) (t : TT) : Prop :=
 ∀ (pins : List (Addr × Obj)) (s : Shared) (σ : St) (H : Hp) (Q : Bool -> Hp -> Prop), Inv X pins σ H s -> t σ H Q →
  wpAny (model X.prog X.w) X.A (forIn ifs true fun c r => if r = true then do let ok <- isTrue c X.env (eval c X.env); pure (ForInStep.yield ok) else pure (ForInStep.yield r)) (TP X pins σ Q) X.xe s
def tYes : TT := fun _ H Q => Q true H
theorem pif_nil {X : Cx} : PIf X [] tYes := fun _ _ _ H _ I h => wpAny_tests_nil ⟨H, I, h⟩
theorem pif_one {X : Cx} {c : Expr} {t : TT} (h : PT X c t) : PIf X [c] t := fun pins s σ H Q I hq => wpAny_tests_one (h pins s σ H Q I hq)
def tComp (n : Nat) (wi : TI) (g : TG) (tf : TT) (te : TE) (fin : List V -> Hp -> Prop) : St -> Hp -> Prop := fun σ H => wi σ H fun J H1 => ∃ W : Nat -> Nat -> List V -> Hp -> Prop, (∃ m, W 0 m [] H1) /\ ∀ i m ys H, W i m ys H →
 ys.length <= sizeLine /\ ((J.stop i H /\ fin ys H) ∨ (J.go i H /\ ∃ (Y : V -> Hp -> Prop) (Z : Hp -> Prop), (∀ y H4, Y y H4 -> ys.length < sizeLine /\ ∃ m', m' < m /\ W (i + 1) m' (ys ++ [y]) H4) /\ (∀ H3, Z H3 -> ∃ m', m' < m /\ W (i + 1) m' ys H3) ∧
  ∀ x H', J.yld i H x H' -> g x (σ ++ List.replicate n none) H' fun σ2 H2 => tf σ2 H2 fun b H3 => if b = true then te σ2 H3 Y else Z H3))
theorem comp_turns {prog : Program} {w : World} {A : Around} {R : Result -> Shared -> Prop} {s : Shared} {elt target iter : Expr} {ifs : List Expr} {scope : Scope} {pos : Pos} {it acc : Value} {env : Env} (I : Nat -> Shared -> Prop)
  (turn : ∀ n s, I n s -> wpAny (model prog w) A (pyNext it) (fun r s₁ => match r with
   | none => R (.ok .next) s₁
   | some v => wpAny (model prog w) A (letOwnedTupleGo target it v) (fun _ t₁ => wpAny (model prog w) A (assign target env v) (fun _ s₂ =>
     wpAny (model prog w) A (forIn ifs true fun c r => if r = true then do let ok <- isTrue c env (eval c env); pure (ForInStep.yield ok) else pure (ForInStep.yield r)) (fun ok s₃ =>
      if ok = true then wpAny (model prog w) A (eval elt env) (fun x s₄ => wpAny (model prog w) A (call (.builtin "list.append") [acc, x]) (fun _ s₅ => ∃ m, m < n /\ I m s₅) (fun _ _ => False) s₄) (fun _ _ => False) s₃
      else ∃ m, m < n /\ I m s₃) (fun _ _ => False) s₂) (fun _ _ => False) t₁) (fun _ _ => False) s₁) (fun _ _ => False) s)
  (n : Nat) (h : I n s) : codeAny (model prog w) A (.compLoop (.ListComp elt [⟨target, iter, ifs, 0⟩] scope pos) 0 it acc env) R s := by
 refine codeAny_loop rfl I (fun n s hI => ?_) n h
 show wpAny _ A (Sem.onRaise (compTurn _ 0 it acc env) fun x => do noteFrame x env; theTreesLotGoes x) _ _ s
 refine wpAny_noted ?_
 rw [compTurn_list]
 refine wpAny_bind (wpAny_standAt (wpAny_bind (wpAny_mono (turn n s hI) (fun r s₁ h₁ => ?_) fun _ _ z => z.elim)))
 cases r with
 | none => exact wpAny_pure h₁
 | some v =>
  refine wpAny_bind (wpAny_mono h₁ (fun _ t₁ k₁ => ?_) fun _ _ z => z.elim)
  refine wpAny_bind (wpAny_mono k₁ (fun _ s₂ h₂ => wpAny_bind (wpAny_mono h₂ (fun ok s₃ h₃ => ?_) fun _ _ z => z.elim)) fun _ _ z => z.elim)
  cases ok with
  | false => exact wpAny_pure ⟨rfl, h₃⟩
  | true =>
   refine wpAny_bind (wpAny_bind (wpAny_mono h₃ (fun x s₄ h₄ => ?_) fun _ _ z => z.elim))
   exact wpAny_bind (wpAny_mono h₄ (fun _ s₅ h₅ => wpAny_pure (wpAny_pure ⟨rfl, h₅⟩)) fun _ _ z => z.elim)
section
variable {X : Cx} {N0 : List Str} {tg elt iter : Expr} {ifs : List Expr} {scope : Scope} {xs : List Str} {cl : List (Str × Addr)} {pos : Pos} {wi : TI} {g : TG} {tf : TT} {te : TE}
theorem comp_block {pins : List (Addr × Obj)} {σ : St} {H2 : Hp} {s2 : Shared} {it : Addr} {fp : List Addr} {tn : Nat -> Heap -> Prop} {J : It} {W : Nat -> Nat -> List V -> Hp -> Prop} {m0 : Nat} {fin : List V -> Hp -> Prop} {RR : Value -> Addr -> Result -> Shared -> Prop}
  (hc : X.calm = true) (hx : X.xe = fun _ _ => False) (S : CompOk X N0 scope xs cl)
  (hg : ∀ C s H fp, PG (X.comp N0 scope xs cl C s H fp) tg g) (hf : ∀ C s H fp, PIf (X.comp N0 scope xs cl C s H fp) ifs tf) (he : ∀ C s H fp, PE (X.comp N0 scope xs cl C s H fp) elt te)
  (I2 : Inv X pins σ H2 s2) (T : Turn X.prog X.w X.K tg J fp it tn) (st2 : tn 0 s2.heap) (f2 : ∀ b ∈ fp, FpOk X pins H2 b) (w0 : W 0 m0 [] H2)
  (turn : ∀ i m ys H, W i m ys H -> ys.length <= sizeLine /\ ((J.stop i H /\ fin ys H) ∨ (J.go i H /\ ∃ (Y : V -> Hp -> Prop) (Z : Hp -> Prop), (∀ y H4, Y y H4 -> ys.length < sizeLine /\ ∃ m', m' < m /\ W (i + 1) m' (ys ++ [y]) H4) /\ (∀ H3, Z H3 -> ∃ m', m' < m /\ W (i + 1) m' ys H3) ∧
   ∀ x H', J.yld i H x H' -> g x (σ ++ List.replicate xs.length none) H' fun σ2 H2 => tf σ2 H2 fun b H3 => if b = true then te σ2 H3 Y else Z H3)))
  (hRR : ∀ (D C : Addr) (s' : Shared) (ys : List V) (H' : Hp) (m' : Str -> Option Value), Inv X pins σ (upd H' D (.lst ys)) s' -> H' D = none -> s'.heap.Ns C m' -> FpOk X pins (upd H' D (.lst ys)) C -> fin ys H' -> RR (.ref D) C (.ok .next) s') :
  wpAny (model X.prog X.w) X.A (newList []) (fun acc s₃ => wpAny (model X.prog X.w) X.A (newFunctionEnv scope X.env.globals cl [] X.env.qual none .none (some X.env)) (fun cenv s₄ =>
   codeAny (model X.prog X.w) X.A (.compStart (.ListComp elt [⟨tg, iter, ifs, 0⟩] scope pos) 0 (.ref it) acc { cenv with scope := relabel scope X.env }) (RR acc cenv.locals) s₄) X.xe s₃) X.xe s2 := by
 refine wpAny_newObj_type (wpAny_newFunctionEnv S.nc (by intro y hy; simp at hy) (fun h₁ hns₁ hsb₁ => ?_) S.kind)
 dsimp only at hns₁ hsb₁ ⊢
 generalize hG : s2.heap.push { cls := .type "list", dict := none, data := .seq ([] : List Value).toArray } = G at hns₁ hsb₁ ⊢
 have szG : G.objs.size = s2.heap.objs.size + 1 := by rw [<- hG, Heap.size_push]
 have hDC : s2.heap.objs.size ≠ G.objs.size := by rw [szG]; exact Nat.ne_of_lt (Nat.lt_succ_self _)
 have hC : s2.heap.objs.size <= G.objs.size := by rw [szG]; exact Nat.le_succ _
 have hfp : ∀ b ∈ fp, b < s2.heap.objs.size := fun b hb => let ⟨_, e, _⟩ := T.obj 0 _ st2 b hb; Heap.lt_size e
 have old : ∀ b o, s2.heap.get? b = some o -> h₁.get? b = some o := fun b o e =>
  hsb₁.extBut b o (Nat.ne_of_lt (Nat.lt_of_lt_of_le (Heap.lt_size e) hC)) (Heap.get?_push_of_some _ (hG ▸ Heap.get?_push_of_some _ e))
 have hacc : h₁.get? s2.heap.objs.size = some { cls := .type "list", data := .seq ([] : List Value).toArray 0 } := hsb₁.extBut _ _ hDC (Heap.get?_push_of_some _ (hG ▸ Heap.get?_push_size _ rfl))
 have hst₁ : tn 0 h₁ := T.keep 0 _ _ st2 fun b _ o e => old b o e
 have I3 : ∀ tk, Inv (X.comp N0 scope xs cl G.objs.size s2 H2 fp) [(s2.heap.objs.size, { cls := .type "list", data := .seq ([] : List Value).toArray 0 })] (σ ++ List.replicate xs.length none) H2 { s2 with heap := h₁, toks := tk } := fun tk =>
  comp_start I2 S f2 hfp hC (Nat.le_refl _) hDC old rfl I2.bare hns₁ hacc fun _ z => nomatch z
 have stat : ∀ {H' : Hp} {o : Obj}, (∀ b ∈ fp, H' b = none) -> ∀ b ∈ fp, FpOk (X.comp N0 scope xs cl G.objs.size s2 H2 fp) [(s2.heap.objs.size, o)] H' b := fun {H' o} hn b hb => by
  refine ⟨hn b hb, Nat.ne_of_lt (Nat.lt_of_lt_of_le (hfp b hb) hC), fun z => ?_, .inl hb, fun x c e => (f2 b hb).2.2.2.2.1 x c (S.sub.at e), fun p hp => ?_⟩
  ·rcases List.mem_cons.mp (I2.stkSub b z) with q | q
   ·exact (f2 b hb).2.1 q
   ·exact (f2 b hb).2.2.1 q
  ·have e : p = (s2.heap.objs.size, o) := List.mem_singleton.mp (show p ∈ [(s2.heap.objs.size, o)] from hp)
   subst e
   exact Nat.ne_of_gt (hfp b hb)
 have loop : ∀ tk, codeAny (model X.prog X.w) X.A (.compLoop (.ListComp elt [⟨tg, iter, ifs, 0⟩] scope pos) 0 (.ref it) (.ref s2.heap.objs.size) (compEnvC scope cl G.objs.size X.env)) (RR (.ref s2.heap.objs.size) G.objs.size) { s2 with heap := h₁, toks := tk } := by
  intro tk
  refine comp_turns (fun n s' => ∃ i ys its k H', Inv (X.comp N0 scope xs cl G.objs.size s2 H2 fp) [(s2.heap.objs.size, { cls := .type "list", data := .seq (its : List Value).toArray k })] (σ ++ List.replicate xs.length none) H' s' /\ tn i s'.heap /\ (∀ b ∈ fp, H' b = none) /\ Vals ys its /\ W i n ys H')
   ?_ m0 ⟨0, [], [], 0, H2, I3 tk, hst₁, fun b hb => (f2 b hb).1, .nil, w0⟩
  rintro n s' ⟨i, ys, its, k, H', I', st', fr', rv, w'⟩
  obtain ⟨hlen, way⟩ := turn i n ys H' w'
  rcases way with ⟨stop, qf⟩ | ⟨go, Y, Z, hY, hZ, step⟩
  ·refine thn (T.done (X.comp N0 scope xs cl G.objs.size s2 H2 fp) rfl rfl rfl hc i _ s' _ H' (fun _ _ => False) I' (stat fr') st' stop) fun r s1 ⟨hr, I1⟩ => ?_
   subst hr
   obtain ⟨e, n1, _⟩ := I1.pin _ (List.mem_singleton.mpr rfl)
   obtain ⟨m1, hn1, _⟩ := I1.loc
   refine hRR _ _ s1 ys H' m1 (comp_end I2 f2 (Nat.le_refl _) I1 n1 e rv hlen) n1 hn1 ?_ qf
   refine I2.fpOk hC ?_
   rw [upd_ne hDC.symm]
   exact I1.free
  ·refine thn (T.item (X.comp N0 scope xs cl G.objs.size s2 H2 fp) rfl rfl rfl hc i _ s' _ H' (fun _ _ => False) I' (stat fr') st' go) fun r s1 ⟨u, hr, h1⟩ => ?_
   subst hr
   refine thn h1 fun _ s5 ⟨x, H5, I5, r5, y5, st5, fr5⟩ => ?_
   have I5' := I5.pinned (stat fr5) (T.obj _ _ st5)
   have hxe : (X.comp N0 scope xs cl G.objs.size s2 H2 fp).xe = fun _ _ => False := hx
   have q6 := hg _ s2 H2 fp _ s5 _ H5 x u _ I5' r5 (step x H5 y5)
   rw [hxe] at q6
   refine thn q6 fun _ s6 ⟨σ6, H6, I6, q6⟩ => ?_
   have q7 := hf _ s2 H2 fp _ s6 σ6 H6 _ I6 q6
   rw [hxe] at q7
   refine thn q7 fun b s7 ⟨H7, I7, q7⟩ => ?_
   have kept : ∀ {σ' : St} {H' : Hp} {s' : Shared}, Inv (X.comp N0 scope xs cl G.objs.size s2 H2 fp) ([(s2.heap.objs.size, { cls := .type "list", data := .seq its.toArray k })] ++ pinsAt fp s5.heap) σ' H' s' -> tn (i + 1) s'.heap /\ ∀ b ∈ fp, H' b = none := fun {σ' H' s'} Z => by
    refine ⟨T.keep _ _ _ st5 fun b hb o e => (Z.pin (b, o) (List.mem_append_right _ (List.mem_append_right _ (mem_pinsAt hb e)))).1, fun b hb => ?_⟩
    obtain ⟨o, e, d⟩ := T.obj _ _ st5 b hb
    exact (Z.pin (b, o) (List.mem_append_right _ (List.mem_append_right _ (mem_pinsAt hb e)))).2.1
   cases b with
   | false =>
    rw [if_neg Bool.false_ne_true]
    rw [if_neg Bool.false_ne_true] at q7
    obtain ⟨m', hm, w7⟩ := hZ _ q7
    exact ⟨m', hm, i + 1, ys, its, k, H7, comp_reset I2 S f2 I7.unpinned, (kept I7).1, (kept I7).2, rv, w7⟩
   | true =>
    rw [if_pos rfl]
    rw [if_pos rfl] at q7
    have q8 := he _ s2 H2 fp _ s7 σ6 H7 _ I7 q7
    rw [hxe] at q8
    refine thn q8 fun y s8 ⟨yv, H8, I8, r8, qY⟩ => ?_
    obtain ⟨hz, m', hm, w8⟩ := hY _ _ qY
    obtain ⟨eD, nD, neC, nfD, _⟩ := I8.pin (s2.heap.objs.size, { cls := .type "list", data := .seq its.toArray k }) (List.mem_append_right _ (List.mem_append_left _ (List.mem_singleton.mpr rfl)))
    have hl := rv.length
    refine call_meets F.slot_list_append ⟨_, eD, rfl⟩ F.entry_list_append (F.args_list_append_2 _ _) (PySem.list_append s2.heap.objs.size its.toArray k y (by rw [List.size_toArray]; omega)) ⟨eD, ?_⟩
    have eN := PySem.IsL.update eD (fun (a : Array Value) => a.push y)
    have eA : its.toArray.push y = (its ++ [y]).toArray := by simp
    rw [eA] at eN
    have drop : Inv (X.comp N0 scope xs cl G.objs.size s2 H2 fp) (pinsAt fp s5.heap) σ6 H8 s8 := I8.pins_of fun p hp => I8.pin p (List.mem_append_right _ (List.mem_append_right _ hp))
    have I9 : Inv (X.comp N0 scope xs cl G.objs.size s2 H2 fp) (pinsAt fp s5.heap) σ6 H8 { s8 with heap := s8.heap.update s2.heap.objs.size (Obj.mapSeq fun (a : Array Value) => a.push y) } := by
     refine drop.turned (it := s2.heap.objs.size) (t' := s8.toks) (fun b o hb q => (Heap.get?_update_other s8.heap _ (Ne.symm hb)).trans q) nD neC (.inr (Nat.le_refl _)) (fun x c e z => ?_) fun p hp z => ?_
     ·obtain ⟨v, q⟩ := I2.cell x c (S.sub.at e)
      exact absurd (q.lt) (by rw [z]; exact Nat.lt_irrefl _)
     ·have hp' : p ∈ pinsAt fp s5.heap := hp
      exact absurd (hfp _ (of_pinsAt hp').1) (by rw [z]; exact Nat.lt_irrefl _)
    have I10 : Inv (X.comp N0 scope xs cl G.objs.size s2 H2 fp) ([(s2.heap.objs.size, { cls := .type "list", data := .seq (its ++ [y]).toArray _ })] ++ pinsAt fp s5.heap) σ6 H8 { s8 with heap := s8.heap.update s2.heap.objs.size (Obj.mapSeq fun (a : Array Value) => a.push y) } := I9.pins_of fun p hp => by
     rcases List.mem_append.mp hp with z | z
     ·have e := List.mem_singleton.mp z
      subst e
      exact ⟨eN, nD, neC, nfD, fun _ z => nomatch z⟩
     ·exact I9.pin p (List.mem_append_right _ z)
    have kp : tn (i + 1) (s8.heap.update s2.heap.objs.size (Obj.mapSeq fun (a : Array Value) => a.push y)) /\ ∀ b ∈ fp, H8 b = none := by
     refine ⟨T.keep _ _ _ (kept I8).1 fun b hb o e => (Heap.get?_update_other s8.heap _ (Nat.ne_of_gt (hfp b hb))).trans e, (kept I8).2⟩
    exact ⟨m', hm, i + 1, ys ++ [yv], its ++ [y], _, H8, comp_reset I2 S f2 I10.unpinned, kp.1, kp.2, rv.append (.cons r8 .nil), w8⟩
 exact codeAny_compStart_list (loop _) (T.self _ 0 _ _ _ hst₁ (loop _))
theorem comp_gone {pins : List (Addr × Obj)} {σ : St} {H : Hp} {s : Shared} {h' : Heap} {C : Addr} (I : Inv X pins σ H s) (f : FpOk X pins H C) (k : Heap.SameBut C s.heap h') : Inv X pins σ H { s with heap := h' } := by
 obtain ⟨n, nl, nf, ab, nc, np⟩ := f
 exact I.turned (it := C) (t' := s.toks) (fun b o hb e => k.extBut b o hb e) n nl ab nc np
theorem pe_comp (hc : X.calm = true) (hx : X.xe = fun _ _ => False) (S : CompOk X N0 scope xs cl) (hi : PI X tg iter wi)
  (hg : ∀ C s H fp, PG (X.comp N0 scope xs cl C s H fp) tg g) (hf : ∀ C s H fp, PIf (X.comp N0 scope xs cl C s H fp) ifs tf) (he : ∀ C s H fp, PE (X.comp N0 scope xs cl C s H fp) elt te)
  (hs : autoParam (∀ x, foldedSetIterable iter X.env x = pure x) AutoP.a2._auto_1) :
  PE X (.ListComp elt [⟨tg, iter, ifs, 0⟩] scope pos) (fun σ H Q => tComp xs.length wi g tf te (fun ys H' => ∀ p, H' p = none -> Q (.ref p) (upd H' p (.lst ys))) σ H) := by
 intro pins s σ H Q I h
 rw [eval_ListComp]
 refine wpAny_comprehension_free (use := none) rfl hs S.clos S.kind (fun y hy hl => (S.lo hy hl).1) ?_
 refine thn (hi pins s σ H _ I h) fun xv s1 h1 => thn h1 fun itv s2 h2 => ?_
 obtain ⟨it, fp, tn, J, H2, rfl, I2, T, st2, f2, W, ⟨m0, w0⟩, turn⟩ := h2
 refine comp_block (RR := fun acc C => compPost (model X.prog X.w) X.A X.xe none (EP X pins σ Q) acc C) hc hx S hg hf he I2 T st2 f2 w0 turn ?_
 intro D C s' ys H' m' I' nD hn fC fin
 exact ⟨m', hn, fun h' k => ⟨.ref D, _, comp_gone I' fC k, rfl, fin D nD⟩⟩
theorem ps_setC {i : Nat} {y : Str} {py spos : Pos} (hc : X.calm = true) (hx : X.xe = fun _ _ => False) (hN : X.N.Nodup) (hy : X.N[i]? = some y) (hl : X.env.scope.names.lookup y = some .local) (S : CompOk X N0 scope xs cl) (hi : PI X tg iter wi)
  (hg : ∀ C s H fp, PG (X.comp N0 scope xs cl C s H fp) tg g) (hf : ∀ C s H fp, PIf (X.comp N0 scope xs cl C s H fp) ifs tf) (he : ∀ C s H fp, PE (X.comp N0 scope xs cl C s H fp) elt te)
  (hsw : autoParam (swapsWith (.ListComp elt [⟨tg, iter, ifs, 0⟩] scope pos) (some (.Name y py)) spos.line X.env = pure true) AutoP.a4._auto_1)
  (hs : autoParam (∀ x, foldedSetIterable iter X.env x = pure x) AutoP.a2._auto_1) :
  PS X (.Assign [.Name y py] (.ListComp elt [⟨tg, iter, ifs, 0⟩] scope pos) spos) (fun D σ H => tComp xs.length wi g tf te (fun ys H' => ∀ p, H' p = none -> D.nx (σ.set i (some (.ref p))) (upd H' p (.lst ys))) σ H) := by
 intro pins s σ H D I h
 rw [exec_Assign_Name_used _ _ _ _ hsw]
 refine wpAny_bind (wpAny_standAt (wpAny_bind ?_))
 show wpAny _ X.A (comprehension (.ListComp elt [⟨tg, iter, ifs, 0⟩] scope pos) scope X.env _ (newList []) false (eval iter X.env) (some (assign (.Name y py) X.env)) >>= fun _ => _) _ _ s
 refine wpAny_bind (wpAny_mono (wpAny_comprehension_free (use := some (assign (.Name y py) X.env)) (Q := fun _ s' => SP X pins D .next s') rfl hs S.clos S.kind (fun y hy hl => (S.lo hy hl).1) ?_) (fun _ s' hq => wpAny_pure (wpAny_pure hq)) fun _ _ e => e)
 refine thn (hi pins s σ H _ I h) fun xv s1 h1 => thn h1 fun itv s2 h2 => ?_
 obtain ⟨it, fp, tn, J, H2, rfl, I2, T, st2, f2, W, ⟨m0, w0⟩, turn⟩ := h2
 refine comp_block (RR := fun acc C => compPost (model X.prog X.w) X.A X.xe (some (assign (.Name y py) X.env)) (fun _ s' => SP X pins D .next s') acc C) hc hx S hg hf he I2 T st2 f2 w0 turn ?_
 intro d C s' ys H' m' I' nD hn fC fin
 obtain ⟨oC, es, ep, ho, hd, hr⟩ := hn
 have IC : Inv X (pins ++ [(C, oC)]) σ (upd H' d (.lst ys)) s' := I'.pins_of fun p hp => by
  rcases List.mem_append.mp hp with z | z
  ·exact I'.pin p (List.mem_append_right _ z)
  ·have e := List.mem_singleton.mp z
   subst e
   exact ⟨ho, fC.1, fC.2.1, fC.2.2.1, fun v z => by rw [hd] at z; cases z⟩
 show wpAny (model X.prog X.w) X.A (assign (.Name y py) X.env (.ref d)) _ _ s'
 refine thn (pg_name (pos := py) hN hy (.inl hl) (.inr hl) _ s' σ _ (.ref d) (.ref d) _ IC rfl (fin d nD)) fun _ s'' ⟨σ'', H'', I'', q''⟩ => ?_
 have pC := I''.pin (C, oC) (List.mem_append_right _ (List.mem_append_right _ (List.mem_singleton.mpr rfl)))
 refine ⟨_, ⟨oC, es, ep, pC.1, hd, hr⟩, fun h' k => ⟨σ'', H'', comp_gone I''.unpinned ⟨pC.2.1, fC.2⟩ k, q''⟩⟩
end
section
variable {g : TG} {tf : TT} {te : TE} {fin : List V -> Hp -> Prop} {n : Nat} {σ : St} {H : Hp}
theorem comp_by {J : It} {k : Nat} (Pv : Nat -> List V -> Hp -> Prop) (hk : k <= 1000000) (h0 : Pv 0 [] H) (hz : ∀ i ys H, Pv i ys H -> ys.length <= i)
  (hgo : ∀ i ys H, i < k -> Pv i ys H -> J.go i H /\ ∀ x H', J.yld i H x H' -> g x (σ ++ List.replicate n none) H' fun σ2 H2 => tf σ2 H2 fun b H3 => if b = true then te σ2 H3 (fun y H4 => Pv (i + 1) (ys ++ [y]) H4) else Pv (i + 1) ys H3)
  (hst : ∀ ys H, Pv k ys H -> J.stop k H /\ fin ys H) :
  ∃ W : Nat -> Nat -> List V -> Hp -> Prop, (∃ m, W 0 m [] H) /\ ∀ i m ys H, W i m ys H -> ys.length <= sizeLine /\ ((J.stop i H /\ fin ys H) ∨ (J.go i H /\ ∃ (Y : V -> Hp -> Prop) (Z : Hp -> Prop), (∀ y H4, Y y H4 -> ys.length < sizeLine /\ ∃ m', m' < m /\ W (i + 1) m' (ys ++ [y]) H4) ∧
   (∀ H3, Z H3 -> ∃ m', m' < m /\ W (i + 1) m' ys H3) /\ ∀ x H', J.yld i H x H' -> g x (σ ++ List.replicate n none) H' fun σ2 H2 => tf σ2 H2 fun b H3 => if b = true then te σ2 H3 Y else Z H3)) := by
 have hl : sizeLine = 16777216 := sizeLine_eq
 refine ⟨fun i m ys H => m = k - i /\ i <= k /\ Pv i ys H, ⟨k, by simp, Nat.zero_le _, h0⟩, ?_⟩
 rintro i m ys H ⟨rfl, hi, p⟩
 have z := hz i ys H p
 refine ⟨by omega, ?_⟩
 by_cases hlt : i < k
 ·obtain ⟨g1, g2⟩ := hgo i ys H hlt p
  exact .inr ⟨g1, fun y H4 => Pv (i + 1) (ys ++ [y]) H4, fun H3 => Pv (i + 1) ys H3, fun y H4 q => ⟨by omega, k - (i + 1), by omega, rfl, hlt, q⟩, fun H3 q => ⟨k - (i + 1), by omega, rfl, hlt, q⟩, g2⟩
 ·have e : i = k := by omega
  subst e
  exact .inl (hst ys H p)
end
theorem bools_at {bs : List Bool} {its : List Value} (r : Vals (bs.map V.bl) its) {i : Nat} {v : Value} (e : its.toArray[i]? = some v) : v = .bool (bs.getD i true) := by
 have e' : its[i]? = some v := by simpa using e
 have hi : i < bs.length := by
  have h1 := r.length
  have h2 := (List.getElem?_eq_some_iff.mp e').1
  rw [List.length_map] at h1
  omega
 obtain ⟨u, q, z⟩ := r.get (i := i) (x := .bl (bs[i])) (by simp [hi])
 rw [e'] at q
 cases q
 rw [show v = Value.bool bs[i] from z]
 simp [hi]
theorem range_allB : ∀ (bs : List Bool), ((List.range bs.length).all fun i => bs.getD i true) = bs.all id
 | [] => rfl
 | b :: r => by
  rw [List.length_cons, List.range_succ_eq_map, List.all_cons, List.all_map, List.all_cons]
  have e : ((fun i => (b :: r).getD i true) ∘ Nat.succ) = fun i => r.getD i true := by
   funext i
   simp
  rw [e, range_allB r]
  simp
section
variable {X : Cx}
theorem call_allB (hc : X.calm = true) : CallR X (.builtin "all") (fun xs H Q => ∃ (l : Addr) (bs : List Bool), xs = [.ref l] /\ SqL X.K H l (bs.map V.bl) /\ Q (.bl (bs.all id)) H) := by
 intro pins s σ H xs us Q I r h
 obtain ⟨l, bs, rfl, hq, q⟩ := h
 obtain ⟨u, rfl, rx⟩ := vals1 r
 cases rx
 obtain ⟨its, r', pl, hz⟩ := I.list hq
 have hl := pl.isList
 have hlt : l < s.heap.objs.size := by obtain ⟨_, e, _⟩ := hl; exact Heap.lt_size e
 have hlen : bs.length = its.length := by rw [<- r'.length, List.length_map]
 refine call_all_walk (wpAny_pyIter_list hl ?_)
 refine ⟨s.heap.objs.size, _, _, its.toArray.size, _, _, fun i => bs.getD i true, rfl, Walks.list (A := X.A.in1) (I.ok.hd hc) _ l (Nat.ne_of_lt hlt) its.toArray, ⟨⟨_, Heap.get?_push_size _ rfl, rfl, rfl⟩, hl.push _⟩, fun i v s' Q' E' hP hQ => ?_, fun h' tk hk => ?_⟩
 ·rw [bools_at r' hP]
  exact wpAny_truthy_bool hQ
 ·rw [List.size_toArray, <- hlen, range_allB]
  exact ⟨.bl (bs.all id), H, I.kept fun b o e => hk b o (fun z => Nat.ne_of_lt (Heap.lt_size e) (List.mem_singleton.mp z)) (Heap.get?_push_of_some _ e), rfl, q⟩
end
def Itf (f : Nat -> V) (n : Nat) : It := ⟨fun i _ => i < n, fun i H x H' => H' = H /\ x = f i, fun i _ => i = n⟩
theorem turn_walk {P : Program} {w : World} {K : PySem.W.Frag} {tg : Expr} {it : Addr} {n : Nat} {Pq : Nat -> Value -> Prop} {St : Nat -> Heap -> Prop} {f : Nat -> V} {nm : String}
  (W : ∀ A : Around, A.handled = none -> Walks P w A it [it] [it] n Pq St) (ho : ∀ i h, St i h -> ∃ o vs, h.get? it = some o /\ o.cls = .type nm /\ o.data = .fields vs)
  (hfr : ∀ i h h', St i h -> (∀ b ∈ [it], ∀ o, h.get? b = some o -> h'.get? b = some o) -> St i h') (hn : ["enumerate", "zip", "dict_itemiterator", "dict_reverseitemiterator", "odict_iterator", "itertools.zip_longest", "itertools.pairwise"].contains nm = false)
  (hP : ∀ i v, i < n -> Pq i v -> RelV (f i) v) (hself : ∀ (A : Around) (i : Nat) (s : Shared) (Q : Value -> Shared -> Prop) (E : Value -> Shared -> Prop), St i s.heap -> Q (.ref it) s -> wpAny (model P w) A (pyIter (.ref it)) Q E s) : Turn P w K tg (Itf f n) [it] it St where
 mem := by simp
 obj := fun i h st b hb => by
  have e : b = it := by simpa using hb
  subst e
  obtain ⟨o, vs, e, c, d⟩ := ho i h st
  exact ⟨o, e, fun v z => by rw [d] at z; cases z⟩
 keep := fun i h h' st k => hfr i h h' st k
 item := by
  intro X hP' hw hK hc i pins s σ H E I hf st hg
  subst hP' hw hK
  obtain ⟨f0, f1, f2, f3, f4, f5⟩ := hf it (by simp)
  refine (W X.A (I.ok.hd hc)).item i s _ _ hg st fun v h' tk hv st' kk => ?_
  have I1 : Inv X pins σ H { s with heap := h', toks := tk } := I.turned (fun b o hb e => kk b o (by simpa using hb) e) f0 f1 f3 f4 f5
  obtain ⟨o, vs, e, c, d⟩ := ho _ _ st'
  exact ⟨v, rfl, go_of (s := { s with heap := h', toks := tk }) e c d hn ⟨f i, H, I1, hP i v hg hv, ⟨rfl, rfl⟩, st', fun b hb => (hf b hb).1⟩⟩
 done := by
  intro X hP' hw hK hc i pins s σ H E I hf st hg
  subst hP' hw hK
  obtain ⟨f0, f1, f2, f3, f4, f5⟩ := hf it (by simp)
  have e : i = n := hg
  subst e
  exact (W X.A (I.ok.hd hc)).done s _ _ st fun h' tk kk => ⟨rfl, I.turned (fun b o hb e => kk b o (by simpa using hb) e) f0 f1 f3 f4 f5⟩
 self := hself
def sgn (z : Str) (i : Nat) : V := .str ⟨#[z.cps.getD i 0]⟩
def iTxt (tl : TE) : TI := fun σ H R => tl σ H fun x H1 => ∃ z, x = .str z /\ R (Itf (sgn z) z.cps.size) H1
theorem striter_fields {h : Heap} {it : Addr} {nm : String} {x : Str} {t : Tok} {i : Nat} (st : h.IsStrIter it nm x t i) : ∃ o vs, h.get? it = some o /\ o.cls = .type nm /\ o.data = .fields vs := by
 obtain ⟨o, e, c, d⟩ := st
 exact ⟨o, _, e, c, d⟩
theorem striter_keep {h h' : Heap} {it : Addr} {nm : String} {x : Str} {t : Tok} {i : Nat} (st : h.IsStrIter it nm x t i) (k : ∀ b ∈ [it], ∀ o, h.get? b = some o -> h'.get? b = some o) : h'.IsStrIter it nm x t i := let ⟨o, ho, r⟩ := st; ⟨o, k it (by simp) o ho, r⟩
theorem sgn_rel {z : Str} {i : Nat} {v : Value} (h : SignAt z i v) : RelV (sgn z i) v := by
 obtain ⟨c, u, e, rfl⟩ := h
 refine ⟨u, ?_⟩
 have : z.cps.getD i 0 = c := by simp [Array.getD_eq_getD_getElem?, e]
 rw [this]
theorem pi_txt {X : Cx} {tg : Expr} {l : Expr} {tl : TE} (hl : PE X l tl) : PI X tg l (iTxt tl) := by
 intro pins s σ H R I h
 refine thn (hl pins s σ H _ I h) fun v s1 ⟨x, H1, I1, r1, q1⟩ => ?_
 obtain ⟨z, e, q⟩ := q1
 subst e
 obtain ⟨t, rfl⟩ := r1
 have fp : ∀ b ∈ [s1.heap.objs.size], FpOk X pins H1 b := fun b hb => by
  have e : b = s1.heap.objs.size := by simpa using hb
  subst e
  exact I1.fpOk (Nat.le_refl _) (I1.hok.fresh (Nat.le_refl _))
 cases ha : z.cps.all (· < 128)
 ·refine wpAny_pyIter_wide ha ?_
  exact ⟨s1.heap.objs.size, [s1.heap.objs.size], _, _, H1, rfl, I1.kept (t' := s1.toks) fun b o e => Heap.get?_push_of_some _ e, turn_walk (nm := "str_iterator") (St := fun i h => h.IsStrIter s1.heap.objs.size "str_iterator" z t i) (fun A hA => Walks.strWide hA _ z t) (fun i h st => striter_fields st) (fun i h h' st k => striter_keep st k) (by decide) (fun i v _ hv => sgn_rel hv) (fun A i s Q E st q => wpAny_pyIter_striter_wide st q), ⟨_, Heap.get?_push_size _ rfl, rfl, rfl⟩, fp, q⟩
 ·refine wpAny_pyIter_ascii ha ?_
  exact ⟨s1.heap.objs.size, [s1.heap.objs.size], _, _, H1, rfl, I1.kept (t' := s1.toks) fun b o e => Heap.get?_push_of_some _ e, turn_walk (nm := "str_ascii_iterator") (St := fun i h => h.IsStrIter s1.heap.objs.size "str_ascii_iterator" z t i) (fun A hA => Walks.strAscii hA _ z t) (fun i h st => striter_fields st) (fun i h h' st k => striter_keep st k) (by decide) (fun i v _ hv => sgn_rel hv) (fun A i s Q E st q => wpAny_pyIter_striter_ascii st q), ⟨_, Heap.get?_push_size _ rfl, rfl, rfl⟩, fp, q⟩
variable {X : Cx}
theorem signs_vals {z : Str} {acc : Array Value} (h : ItemsOf (SignAt z) acc z.cps.size) : Vals ((List.range z.cps.size).map (sgn z)) acc.toList := by
 obtain ⟨h1, h2⟩ := h
 have gen : ∀ (n k : Nat) (ls : List Value), ls.length = n -> (∀ j v, ls[j]? = some v -> SignAt z (k + j) v) -> Vals ((List.range' k n).map (sgn z)) ls := by
  intro n
  induction n with
  | zero => intro k ls hl _; have : ls = [] := List.length_eq_zero_iff.mp hl; subst this; exact .nil
  | succ n ih =>
   intro k ls hl hh
   cases ls with
   | nil => cases hl
   | cons v ls =>
    rw [List.range'_succ, List.map_cons]
    refine .cons (sgn_rel (by simpa using hh 0 v rfl)) (ih (k + 1) ls (by simpa using hl) fun j v e => ?_)
    have := hh (j + 1) v (by simpa using e)
    rwa [show k + (j + 1) = k + 1 + j by omega] at this
 rw [List.range_eq_range']
 refine gen _ 0 _ (by simpa using h1) fun j v e => ?_
 rw [Nat.zero_add]
 exact h2 j v (by simpa using e)
theorem call_tuple_txt (hc : X.calm = true) : CallR X (.type "tuple") (fun xs H Q => ∃ z, xs = [.str z] /\ z.cps.size <= sizeLine /\ ∀ l, H l = none -> Q (.ref l) (upd H l (.tup ((List.range z.cps.size).map (sgn z))))) := by
 intro pins s σ H xs us Q I r h
 obtain ⟨z, rfl, hz, q⟩ := h
 obtain ⟨u, rfl, t, rfl⟩ := vals1 r
 refine call_tuple_str (I.ok.hd hc) z t (fun h' tk acc kp it => ?_) hz
 have hv := signs_vals it
 have I1 : Inv X pins σ H { s with heap := h', toks := tk } := I.kept kp
 have I2 : Inv X pins σ (upd H h'.objs.size (.tup ((List.range z.cps.size).map (sgn z)))) { s with heap := h'.push { cls := .type "tuple", data := .seq acc }, toks := tk } :=
  I1.laid (t' := tk) (fun b o e => Heap.get?_push_of_some _ e) (Nat.le_refl _) (show ObjOk X.prog X.w _ _ _ (.tup _) from ⟨by simpa using hz, acc.toList, hv, by simpa using IsTup.new h' acc, _, Heap.get?_push_size _ rfl, rfl⟩)
 exact ⟨.ref h'.objs.size, _, I2, rfl, q _ (I1.hok.fresh (Nat.le_refl _))⟩
variable {X : Cx}
variable {X : Cx} {K : PySem.W.Frag}
end L2
namespace PySem
open Sem (wp)
open Builtin
namespace F
end F
end PySem
namespace L2
open PySem PySem.Spec PyProof.Rows
section
variable {X : Cx} {tg : Expr}
theorem call_rng : CallR X (.type "range") (fun xs H Q => ∃ n : Int, xs = [.int n] /\ 0 <= n /\ n < 2 ^ 62 /\ ∀ p, H p = none -> Q (.ref p) (upd H p (.rng 0 n))) := by
 intro pins s σ H xs us Q I r h
 obtain ⟨n, rfl, h0, h1, q⟩ := h
 obtain ⟨u, rfl, t, rfl⟩ := vals1 r
 refine call_range_1 ?_
 exact ⟨.ref s.heap.objs.size, _, I.laid (o := .rng 0 n) (fun b o e => Heap.get?_push_of_some _ e) (Nat.le_refl _) ⟨_, _, _, Heap.get?_push_size _ rfl⟩, rfl, q _ (I.hok.fresh (Nat.le_refl _))⟩
end
end L2
namespace PySem
open Sem (wp)
open Builtin Builtin.Str
namespace F
end F
end PySem
namespace PySem
open Sem (wp)
open Builtin Builtin.Str
end PySem
namespace L2
open PySem PySem.Spec PyProof.Rows
end L2
namespace PySem
open Sem (wp)
open Builtin
end PySem
namespace L2
open PySem PySem.Spec PyProof.Rows
end L2
namespace PySem
open Sem (wp)
open Builtin
open AutoSeq1 (wpAny_loadPart')
end PySem
namespace L2
open PySem PySem.Spec PyProof.Rows
section
variable {κ : Type} [DecidableEq κ]
def valV (kvs : List (κ × V)) (k : κ) : Option V := (kvs.find? fun kv => decide (kv.1 = k)).map (·.2)
theorem valV_pos {p : κ × V} {r : List (κ × V)} {k : κ} (e : p.1 = k) : valV (p :: r) k = some p.2 := by simp [valV, List.find?_cons, e]
theorem valV_neg {p : κ × V} {r : List (κ × V)} {k : κ} (e : ¬ p.1 = k) : valV (p :: r) k = valV r k := by simp [valV, List.find?_cons, e]
theorem KV.val {kvs : List (κ × V)} {vs : List (κ × Value)} (r : KV kvs vs) (k : κ) : RelO (valV kvs k) (valueAt vs k) := by
 unfold KV at r
 induction r with
 | nil => exact True.intro
 | @cons p q ps qs h t ih =>
  obtain ⟨h1, h2⟩ := h
  by_cases e : p.1 = k
  ·have e' : q.1 = k := h1.symm.trans e
   have b : valueAt (q :: qs) k = some q.2 := by simp [valueAt, List.find?_cons, e']
   rw [valV_pos e, b]; exact h2
  ·have e' : ¬ q.1 = k := fun z => e (h1.trans z)
   have b : valueAt (q :: qs) k = valueAt qs k := by simp [valueAt, List.find?_cons, e']
   rw [valV_neg e, b]; exact ih
theorem KV.length {kvs : List (κ × V)} {vs : List (κ × Value)} (r : KV kvs vs) : kvs.length = vs.length := Paired.length r
end
theorem kV_is {P : Program} {w : World} {k : Key} {u : Value} (r : RelV (kV k) u) : (mixKind P w).is k u = true := by
 cases k with
 | inl i => obtain ⟨t, e⟩ := (show ∃ t, u = Value.int i t from r); subst e; exact mixKind_int P w i t
 | inr x => obtain ⟨t, e⟩ := (show ∃ t, u = Value.str x t from r); subst e; exact mixKind_str P w x t
theorem items_are {P : Program} {w : World} : ∀ {ks : List Key} {us : List Value}, Vals (ks.map kV) us -> ItemsAre (mixKind P w) ks us
 | [], _, r => by rw [List.map_nil] at r; cases r; exact .nil
 | k :: ks, _, r => by
  rw [List.map_cons] at r
  cases r with
  | cons h t => exact .cons (kV_is h) (items_are t)
abbrev KT (H : Hp) : List (List Key × V) -> List (List Key × Addr × Value) -> Prop := Paired fun p q => p.1 = q.1 /\ H q.2.1 = some (.tup (p.1.map kV)) /\ RelV p.2 q.2.2
theorem KT.val {H : Hp} {kvs : List (List Key × V)} {xs : List (List Key × Addr × Value)} (r : KT H kvs xs) (k : List Key) : RelO (valV kvs k) ((atKey xs k).map (·.2)) := by
 induction r with
 | nil => exact True.intro
 | @cons p q ps qs h t ih =>
  obtain ⟨h1, _, h2⟩ := h
  by_cases e : p.1 = k
  ·have e' : q.1 = k := h1.symm.trans e
   have b : atKey (q :: qs) k = some q.2 := by simp [atKey, List.find?_cons, e']
   rw [valV_pos e, b]; exact h2
  ·have e' : ¬ q.1 = k := fun z => e (h1.trans z)
   have b : atKey (q :: qs) k = atKey qs k := by simp [atKey, List.find?_cons, e']
   rw [valV_neg e, b]; exact ih
section
variable {P : Program} {w : World} {H : Hp} {h : Heap} {a : Addr}
theorem rd_of {u : HO} (ok : HOk P w H h) (e : Rd H a u) : ObjOk P w H h a u := e.ok ok
theorem dk_rd {kvs : List (Key × V)} (ok : HOk P w H h) (e : Rd H a (.dK kvs)) : kvs.length <= sizeLine /\ (a == sysModules) = false /\ ∃ vs, KV kvs vs /\ h.DictOf (mixKind P w) a vs :=
 show ObjOk P w H h a (.dK kvs) from rd_of ok e
theorem key_of {ks : List Key} (ok : HOk P w H h) (e : H a = some (.tup (ks.map kV))) : (tupleKind (mixKind P w)).is h ks a := by
 obtain ⟨_, its, r, ⟨o, h1, h2, n, h3⟩, _⟩ := (show ObjOk P w H h a (.tup (ks.map kV)) from ok a _ e)
 exact ⟨o, its.toArray, n, h1, h2, h3, by simpa using items_are r⟩
theorem dt_rd {kvs : List (List Key × V)} (ok : HOk P w H h) (e : Rd H a (.dT kvs)) : kvs.length <= sizeLine /\ (a == sysModules) = false ∧
  ∃ xs, KT H kvs xs /\ h.DictOfH (tupleKind (mixKind P w)) a xs := by
 obtain ⟨z, y, xs, r, o, es, ep, h1, h2, h3, h4, h5⟩ := (show ObjOk P w H h a (.dT kvs) from rd_of ok e)
 refine ⟨z, y, xs, r, o, es, ep, h1, h2, h3, h4, fun x hx => ?_, h5⟩
 have all : ∀ {l : List (List Key × V)} {m : List (List Key × Addr × Value)}, KT H l m -> ∀ x ∈ m, (tupleKind (mixKind P w)).is h x.1 x.2.1 := by
  intro l m q
  induction q with
  | nil => intro x hx; exact nomatch hx
  | @cons p q ps qs hq t ih =>
   intro x hx
   rcases List.mem_cons.mp hx with e | hx
   ·subst e
    exact key_of ok (by rw [<- hq.1]; exact hq.2.1)
   ·exact ih x hx
 exact all r x hx
end
def DGet (H : Hp) (a : Addr) (y : V) (r : Option V) : Prop :=
 (∃ kvs k, Rd H a (.dK kvs) /\ y = kV k /\ r = valV kvs k) ∨ ∃ kvs k b, Rd H a (.dT kvs) /\ y = .ref b /\ H b = some (.tup (k.map kV)) /\ r = valV kvs k
theorem DGet.k {H : Hp} {a : Addr} {kvs : List (Key × V)} {k : Key} (e : H a = some (.dK kvs)) : DGet H a (kV k) (valV kvs k) := .inl ⟨kvs, k, .inl e, rfl, rfl⟩
section
variable {X : Cx} {pins : List (Addr × Obj)} {σ : St} {H : Hp} {s : Shared} {a : Addr} {y v : V} {u r : Value} {o : Option V} {A : Around} {E : Value -> Shared -> Prop}
theorem d_getItem {Q : Value -> Shared -> Prop} (hu : A.units + 1 < cLine) (I : Inv X pins σ H s) (g : DGet H a y (some v)) (ry : RelV y u) (h : ∀ w' s', Inv X pins σ H s' -> RelV v w' -> Q w' s') :
  wpAny (model X.prog X.w) A (getItem (.ref a) u) Q E s := by
 rcases g with ⟨kvs, k, e, ey, l⟩ | ⟨kvs, k, b, e, ey, eb, l⟩
 ·subst ey
  obtain ⟨z, hd, vs, rel, dd⟩ := dk_rd I.hok e
  obtain ⟨w', hw, rw'⟩ := RelO.some_of (v := v) (o := valueAt vs k) (by rw [l]; exact rel.val k)
  exact wpAny_getItem_of (kV_is ry) dd.mapOf hw (h w' _ (I.tok _) rw')
 ·subst ey
  cases (show u = Value.ref b from ry)
  obtain ⟨z, hd, xs, rel, dd⟩ := dt_rd I.hok e
  obtain ⟨w', hw, rw'⟩ := RelO.some_of (v := v) (o := (atKey xs k).map (·.2)) (by rw [l]; exact rel.val k)
  obtain ⟨p, hp, hp2⟩ := Option.map_eq_some_iff.mp hw
  refine wpAny_getItem_heap (tupleKind_room_in1 hu) (key_of I.hok eb) dd hp ?_
  rw [hp2]
  exact h w' _ (I.tok _) rw'
end
section
variable {X : Cx} {pins : List (Addr × Obj)} {σ : St} {H : Hp} {s : Shared} {a : Addr} {kvs : List (Key × V)} {k : Key} {u : Value} {A : Around} {E : Value -> Shared -> Prop}
theorem d_len {Q : Value -> Shared -> Prop} (I : Inv X pins σ H s) (e : Rd H a (.dK kvs)) (h : ∀ t s', Inv X pins σ H s' -> Q (.int kvs.length t) s') : wpAny (model X.prog X.w) A (call (.builtin "len") [.ref a]) Q E s := by
 obtain ⟨z, hd, vs, rel, dd⟩ := dk_rd I.hok e
 refine call_len_dict hd dd (by rw [<- rel.length]; rw [sizeLine_eq] at z; omega) ?_
 rw [<- rel.length]
 exact h _ _ (I.tok _)
end
theorem dict_typeIs {X : Cx} {pins : List (Addr × Obj)} {σ : St} {H : Hp} {s : Shared} {a : Addr} {y : V} {o : Option V} (I : Inv X pins σ H s) (g : DGet H a y o) : s.TypeIs (.ref a) "dict" := by
 rcases g with ⟨kvs, k, e, _, _⟩ | ⟨kvs, k, b, e, _, _, _⟩
 ·obtain ⟨_, _, vs, _, dd⟩ := dk_rd I.hok e
  exact dd.typeIs
 ·obtain ⟨_, _, xs, _, dd⟩ := dt_rd I.hok e
  exact dd.typeIs
end L2
namespace PySem
open Sem (wp)
open Builtin
end PySem
namespace L2
open PySem PySem.Spec PyProof.Rows
end L2
namespace PySem
open Sem (wp)
open Builtin
theorem int_rmul_tup (a : Int) (t : Tok) (l : Addr) (items : Array Value) (n : Nat) (dd : Option Addr) (sl : Array (Option Value)) :
  Meets (Builtin.«int.__rmul__» ⟨[.int a t, .ref l], []⟩) (fun _ R s => s.heap.get? l = some ⟨.type "tuple", dd, .seq items n, sl⟩ /\ R (.ok (.ret .notImplemented)) s) :=
 .of_wp fun prog w A R s h => by
  obtain ⟨hp, g, d, tk, os⟩ := s
  obtain ⟨hl, h⟩ := h
  wp_walk
  exact ⟨_, rfl, h⟩
theorem noFill_tuple_mul : fillsNumberSlot (Value.type "tuple") "mul" = pure false := PySem.fillsNumberSlot_seq F.slot_tuple_mul.lookup (by first | rfl | decide) F.slot_tuple_rmul.lookup (by first | rfl | decide)
theorem repeat_tuple : seqRepeat? (Value.type "tuple") = pure (some (Value.builtin "tuple.__mul__")) := by
 unfold seqRepeat?
 have h1 : seqSlot? (Value.type "tuple") (Str.ofString "__mul__") = _ := PySem.seqSlot_of F.slot_tuple_mul.lookup (by first | rfl | decide)
 have h2 : seqSlot? (Value.type "tuple") (Str.ofString "__rmul__") = _ := PySem.seqSlot_of F.slot_tuple_rmul.lookup (by first | rfl | decide)
 rw [h1, h2]
 rfl
theorem tup_mul1 (l : Addr) (v : Value) (t : Tok) (n : Nat) (dd : Option Addr) (sl : Array (Option Value)) :
  Meets (Builtin.«tuple.__mul__» ⟨[.ref l, .int 1 t], []⟩) (fun _ R s => s.heap.get? l = some ⟨.type "tuple", dd, .seq #[v] n, sl⟩ /\ R (.ok (.ret (.ref l))) s) :=
 .of_wp fun prog w A R s h => by
  obtain ⟨hp, g, d, tk, os⟩ := s
  obtain ⟨hl, h⟩ := h
  unfold Builtin.«tuple.__mul__»
  wp_walk
  exact ⟨_, rfl, h⟩
theorem fold_rep_aux (v : Value) : ∀ (n : Nat) (a : Array Value), List.foldl (fun x1 x2 => x1 ++ x2) a (List.replicate n #[v]) = a ++ (List.replicate n v).toArray
 | 0, a => by simp
 | n + 1, a => by
  rw [List.replicate_succ, List.foldl_cons, fold_rep_aux v n, List.replicate_succ]
  apply Array.ext'
  simp
theorem fold_rep (v : Value) (n : Nat) : List.foldl (fun x1 x2 => x1 ++ x2) #[] (List.replicate n #[v]) = (List.replicate n v).toArray := by rw [fold_rep_aux]; simp
theorem tup_mulN (l : Addr) (v : Value) (x : Int) (t : Tok) (n : Nat) (dd : Option Addr) (sl : Array (Option Value)) (h2 : 2 <= x) (h3 : x <= 1000) :
  Meets (Builtin.«tuple.__mul__» ⟨[.ref l, .int x t], []⟩) (fun _ R s => s.heap.get? l = some ⟨.type "tuple", dd, .seq #[v] n, sl⟩ ∧
   R (.ok (.ret (.ref s.heap.objs.size))) { s with heap := s.heap.push { cls := .type "tuple", data := .seq (List.foldl (fun x1 x2 => x1 ++ x2) #[] (List.replicate x.toNat #[v])) } }) :=
 .of_wp fun prog w A R s h => by
  obtain ⟨hp, g, d, tk, os⟩ := s
  obtain ⟨hl, h⟩ := h
  have e1 : (decide (x < -2 ^ 63) || decide (x ≥ 2 ^ 63)) = false := by simp; omega
  have e2 : ((#[v] : Array Value).isEmpty || x == 1) = false := by simp; omega
  have e3 : (decide (x <= 0) || (#[v] : Array Value).isEmpty) = false := by simp; omega
  have e4 : ¬ (((#[v] : Array Value).size : Int) * x > (2 ^ 63 - 1) / 8) := by simp; omega
  have e5 : Builtin.Tuple.tupleTooMany (((#[v] : Array Value).size : Int) * x) = false := by
   unfold Builtin.Tuple.tupleTooMany
   have : (sizeLine : Int) = 16777216 := by decide
   rw [this]
   simp
   omega
  unfold Builtin.«tuple.__mul__»
  wp_walk
  rw [e1, if_neg Bool.false_ne_true]
  refine wpAny_bind (m := Builtin.Tuple.tupleItemsOf _) (wpAny_bind (wpAny_seqItems hl rfl (wpAny_pure ?_)))
  show wpAny _ _ (if ((#[v] : Array Value).isEmpty || x == 1) = true then _ else _) _ _ _
  rw [e2, if_neg Bool.false_ne_true]
  show wpAny _ _ (if (decide (x <= 0) || (#[v] : Array Value).isEmpty) = true then _ else _) _ _ _
  rw [e3, if_neg Bool.false_ne_true]
  show wpAny _ _ (if (((#[v] : Array Value).size : Int) * x > (2 ^ 63 - 1) / 8) then _ else _) _ _ _
  rw [if_neg e4]
  show wpAny _ _ (if Builtin.Tuple.tupleTooMany (((#[v] : Array Value).size : Int) * x) = true then _ else _) _ _ _
  rw [e5, if_neg Bool.false_ne_true]
  refine wpAny_bind (m := Builtin.Tuple.tupleExact _) (wpAny_newObj_type (wpAny_pure ⟨_, rfl, h⟩) ?_)
  rw [fold_rep]
  show (List.replicate x.toNat v).toArray.size <= sizeLine
  rw [List.size_toArray, List.length_replicate]
  have : sizeLine = 16777216 := by decide
  omega
end PySem
namespace L2
open PySem PySem.Spec PyProof.Rows
section
variable {X : Cx}
theorem vals_rep {v : V} {u : Value} (r : RelV v u) : ∀ n : Nat, Vals (List.replicate n v) (List.replicate n u)
 | 0 => .nil
 | n + 1 => .cons r (vals_rep r n)
end
end L2
namespace Mth
open PySem PyProof.Rows
end Mth
namespace L2
open PySem PySem.Spec PyProof.Rows
variable {X : Cx}
theorem rng_vals {acc : Array Value} {n : Nat} (h : ItemsOf (fun i v => ∃ t, v = Value.int (0 + (i : Int) * 1) t) acc n) : Vals ((List.range n).map fun i : Nat => V.int (i : Int)) acc.toList := by
 obtain ⟨h1, h2⟩ := h
 have gen : ∀ (n k : Nat) (ls : List Value), ls.length = n -> (∀ j v, ls[j]? = some v -> ∃ t, v = Value.int (0 + ((k + j : Nat) : Int) * 1) t) -> Vals ((List.range' k n).map fun i : Nat => V.int (i : Int)) ls := by
  intro n
  induction n with
  | zero => intro k ls hl _; have : ls = [] := List.length_eq_zero_iff.mp hl; subst this; exact .nil
  | succ n ih =>
   intro k ls hl hh
   cases ls with
   | nil => cases hl
   | cons v ls =>
    rw [List.range'_succ, List.map_cons]
    refine .cons ?_ (ih (k + 1) ls (by simpa using hl) fun j v e => ?_)
    ·obtain ⟨t, rfl⟩ := hh 0 v rfl
     refine ⟨t, ?_⟩
     simp
    ·have := hh (j + 1) v (by simpa using e)
     rwa [show k + (j + 1) = k + 1 + j by omega] at this
 have := gen n 0 acc.toList (by simpa using h1) fun j v e => by simpa using h2 j v (by simpa using e)
 rwa [← List.range_eq_range'] at this
theorem call_list_rng (hc : X.calm = true) : CallR X (.type "list") (fun xs H Q => ∃ (p : Addr) (n : Nat), xs = [.ref p] /\ H p = some (.rng 0 (n : Int)) /\ n <= 1000 /\ ∀ l, H l = none -> Q (.ref l) (upd H l (.lst ((List.range n).map fun i : Nat => V.int (i : Int))))) := by
 intro pins s σ H xs us Q I r h
 obtain ⟨p, n, rfl, hp, hn, q⟩ := h
 obtain ⟨u, rfl, rx⟩ := vals1 r
 cases rx
 obtain ⟨t, u, v, e⟩ := (show ObjOk X.prog X.w H s.heap p (.rng 0 (n : Int)) from I.hok p _ hp)
 have hs : Builtin.Range.rangeSize 0 (n : Int) 1 = n := by rw [rangeSize_nat]; omega
 have fit : ∀ i : Int, 0 <= i -> i <= 1000 -> Builtin.Range.rangeFitsLong i = true := by
  intro i h0 h1
  unfold Builtin.Range.rangeFitsLong
  simp
  omega
 refine call_list_range (I.ok.hd hc) e ?_ hs (by omega) fun h' tk acc c' kp e' it => ?_
 ·unfold Builtin.Range.small
  rw [hs, fit 0 (by decide) (by decide), fit n (by omega) (by omega), fit 1 (by decide) (by decide), if_pos (by decide), fit ((n : Int) + (1 - 1)) (by omega) (by omega)]
  simp
 ·exact ⟨.ref s.heap.objs.size, _, I.laid (t' := tk) kp (Nat.le_refl _) (show ObjOk X.prog X.w _ h' _ (.lst _) from ⟨by simp; have := sizeLine_eq; omega, acc.toList, c', rng_vals it, by simpa using e'⟩), rfl, q _ (I.hok.fresh (Nat.le_refl _))⟩
end L2
namespace PySem
open Sem (wp)
open Builtin
end PySem
namespace L2
open PySem PySem.Spec PyProof.Rows
end L2
set_option autoImplicit false
namespace MD
open PySem PySem.Spec PyProof.Rows L2
inductive D where
 | non | bl (b : Bool) | int (i : Int) | str (x : Str) | flt (b : UInt64) | byt (b : Array UInt8) | ob (k : Nat) | tup (xs : List D) | lst (xs : List D) | scr (xs : List D)
 | exn (c : Str) (ds : List D)
inductive MO where
 | lst (xs : List D) | dct (kvs : List (L2.Key × D)) | ins (c : Str) (fs : List (Str × D))
 | hid
abbrev Sto := List MO
abbrev En := List (Option D)
structure Exc where
 cls : Str
 args : List D
inductive Res (α : Type) where
 | ok (a : α) (m : Sto) | exc (c : Exc) (m : Sto) | bad
def Res.bind {α β : Type} (r : Res α) (k : α -> Sto -> Res β) : Res β := match r with
 | .ok a m => k a m
 | .exc c m => .exc c m
 | .bad => .bad
def Post {α : Type} (r : Res α) (Q : α -> Sto -> Prop) (E : Exc -> Sto -> Prop) : Prop := match r with
 | .ok a m => Q a m
 | .exc c m => E c m
 | .bad => False
def TupAt (K : PySem.W.Frag) (H : Hp) (a : Addr) (xs : List V) : Prop :=
 H a = some (.tup xs) ∨ ∃ (o : Obj) (its : Array Value) (n : Nat), K.lookup a = some o /\ o.cls = .type "tuple" /\ o.dict = none /\ o.data = .seq its n /\ its.size <= sizeLine /\ Vals xs its.toList
theorem TupAt.sq {K : PySem.W.Frag} {H : Hp} {a : Addr} {xs : List V} (h : TupAt K H a xs) : SqT K H a xs := by
 rcases h with h | ⟨o, its, n, h1, h2, _, h3, h4, h5⟩
 ·exact .inl (.inl h)
 ·exact .inr ⟨o, its, n, h1, h2, h3, h4, h5⟩
def KL (K : PySem.W.Frag) (a : Addr) (xs : List V) : Prop := ∃ (o : Obj) (its : Array Value) (n : Nat), K.lookup a = some o /\ o.cls = .type "list" /\ o.dict = none /\ o.data = .seq its n /\ its.size <= sizeLine /\ Vals xs its.toList
def LstAt (K : PySem.W.Frag) (α : List Addr) (H : Hp) (a : Addr) (xs : List V) : Prop := (a ∉ α /\ Rd H a (.lst xs)) ∨ KL K a xs
theorem LstAt.sq {K : PySem.W.Frag} {α : List Addr} {H : Hp} {a : Addr} {xs : List V} (h : LstAt K α H a xs) : SqL K H a xs := by
 rcases h with h | h
 ·exact .inl h.2
 ·exact .inr h
def ExcO (C : Value) (dd : Option Addr) (e : Addr) : Heap -> Prop := fun h => ∃ o vs, h.get? e = some o /\ o.cls = C /\ o.dict = dd /\ o.data = .fields vs
def XdAt (H : Hp) (dd : Option Addr) (xs : List V) : Prop := (dd = none /\ xs = []) ∨ ∃ dx x, dd = some dx /\ xs = [x] /\ H dx = some (.xd [("row", x)])
mutual
def Rep (K : PySem.W.Frag) (α : List Addr) (H : Hp) : D -> V -> Prop
 | .non, v => v = .non
 | .bl b, v => v = .bl b
 | .int i, v => v = .int i
 | .str x, v => v = .str x
 | .flt x, v => v = .flt x
 | .byt x, v => v = .byt x
 | .ob k, v => ∃ a, α[k]? = some a /\ v = .ref a
 | .tup ds, v => ∃ a xs, v = .ref a /\ TupAt K H a xs /\ RepL K α H ds xs
 | .lst ds, v => ∃ a xs, v = .ref a /\ a ∉ α /\ Rd H a (.lst xs) /\ RepL K α H ds xs
 | .scr ds, v => ∃ a xs, v = .ref a /\ LstAt K α H a xs /\ RepL K α H ds xs
 | .exn c ds, v => ∃ a C dd xs, v = .ref a /\ PySem.W.nsIn K mainGlobals c = some (some (.ref C)) /\ H a = some (.ext (ExcO (.ref C) dd a)) /\ XdAt H dd xs /\ RepL K α H ds xs
def RepL (K : PySem.W.Frag) (α : List Addr) (H : Hp) : List D -> List V -> Prop
 | [], vs => vs = []
 | d :: ds, vs => ∃ v r, vs = v :: r /\ Rep K α H d v /\ RepL K α H ds r
end
def RepKV (K : PySem.W.Frag) (α : List Addr) (H : Hp) : List (L2.Key × D) -> List (L2.Key × V) -> Prop
 | [], vs => vs = []
 | d :: ds, vs => ∃ v r, vs = (d.1, v) :: r /\ Rep K α H d.2 v /\ RepKV K α H ds r
def RepF (K : PySem.W.Frag) (α : List Addr) (H : Hp) : List (Str × D) -> List (Str × V) -> Prop
 | [], vs => vs = []
 | d :: ds, vs => ∃ v r, vs = (d.1, v) :: r /\ Rep K α H d.2 v /\ RepF K α H ds r
def MoRep (K : PySem.W.Frag) (cl : Str -> Addr) (α : List Addr) (H : Hp) (a : Addr) : MO -> Prop
 | .lst ds => ∃ xs, H a = some (.lst xs) /\ RepL K α H ds xs
 | .dct ds => ∃ xs, H a = some (.dK xs) /\ RepKV K α H ds xs
 | .ins c ds => ∃ dx xs, H a = some (.ins (cl c) dx xs) /\ RepF K α H ds xs
 | .hid => ∃ o xs, H a = some (.frz o (.dK xs))
structure Wd (K : PySem.W.Frag) (cl : Str -> Addr) (α : List Addr) (m : Sto) (H : Hp) : Prop where
 len : α.length = m.length
 nd : α.Nodup
 at' : ∀ (k : Nat) (a : Addr) (o : MO), α[k]? = some a -> m[k]? = some o -> MoRep K cl α H a o
structure Ext (α : List Addr) (H : Hp) (α' : List Addr) (H' : Hp) : Prop where
 pre : ∃ β, α' = α ++ β /\ ∀ b ∈ β, H b = none
 keep : ∀ a o, H a = some o -> a ∉ α -> H' a = some o
 there : ∀ a ∈ α, H' a ≠ none
 frzs : ∀ a o u, H a = some (.frz o u) -> H' a = some (.frz o u)
section
variable {K : PySem.W.Frag} {cl : Str -> Addr} {α α' α2 : List Addr} {m m' : Sto} {H H' H2 : Hp}
theorem Wd.is (W : Wd K cl α m H) {a : Addr} (ha : a ∈ α) : (∃ xs, H a = some (.lst xs)) ∨ (∃ xs, H a = some (.dK xs)) ∨ (∃ c dx xs, H a = some (.ins c dx xs)) ∨ ∃ o xs, H a = some (.frz o (.dK xs)) := by
 obtain ⟨k, hk, rfl⟩ := List.mem_iff_getElem.mp ha
 have hm : k < m.length := by rw [<- W.len]; exact hk
 have h := W.at' k α[k] m[k] (by simp [hk]) (by simp [hm])
 cases e : m[k] with
 | lst ds => rw [e] at h; obtain ⟨xs, h, _⟩ := h; exact .inl ⟨xs, h⟩
 | dct ds => rw [e] at h; obtain ⟨xs, h, _⟩ := h; exact .inr (.inl ⟨xs, h⟩)
 | ins c ds => rw [e] at h; obtain ⟨dx, xs, h, _⟩ := h; exact .inr (.inr (.inl ⟨_, dx, xs, h⟩))
 | hid => rw [e] at h; obtain ⟨o, xs, h⟩ := h; exact .inr (.inr (.inr ⟨o, xs, h⟩))
theorem Wd.has (W : Wd K cl α m H) {a : Addr} (ha : a ∈ α) : H a ≠ none := by
 rcases W.is ha with ⟨_, h⟩ | ⟨_, h⟩ | ⟨_, _, _, h⟩ | ⟨_, _, h⟩ <;> rw [h] <;> exact fun z => nomatch z
theorem Wd.notup (W : Wd K cl α m H) {a : Addr} {xs : List V} (h : Rd H a (.tup xs)) : a ∉ α := fun ha => by
 rcases h with h | ⟨o, h⟩ <;> rcases W.is ha with ⟨_, e⟩ | ⟨_, e⟩ | ⟨_, _, _, e⟩ | ⟨_, _, e⟩ <;> rw [h] at e <;> cases e
theorem Wd.noext (W : Wd K cl α m H) {a : Addr} {φ : Heap -> Prop} (h : H a = some (.ext φ)) : a ∉ α := fun ha => by
 rcases W.is ha with ⟨_, e⟩ | ⟨_, e⟩ | ⟨_, _, _, e⟩ | ⟨_, _, e⟩ <;> rw [h] at e <;> cases e
theorem Wd.noxd (W : Wd K cl α m H) {a : Addr} {fs : List (Str × V)} (h : H a = some (.xd fs)) : a ∉ α := fun ha => by
 rcases W.is ha with ⟨_, e⟩ | ⟨_, e⟩ | ⟨_, _, _, e⟩ | ⟨_, _, e⟩ <;> rw [h] at e <;> cases e
theorem Ext.rd (E : Ext α H α' H') {a : Addr} {u : HO} (h : Rd H a u) (n : a ∉ α) : Rd H' a u := by
 rcases h with h | ⟨o, h⟩
 ·exact .inl (E.keep a _ h n)
 ·exact .inr ⟨o, E.keep a _ h n⟩
theorem Rd.ne {a : Addr} {u : HO} (h : Rd H a u) : H a ≠ none := by
 rcases h with h | ⟨o, h⟩ <;> rw [h] <;> exact fun z => nomatch z
theorem Ext.sqt (E : Ext α H α' H') (W : Wd K cl α m H) {a : Addr} {xs : List V} (h : SqT K H a xs) : SqT K H' a xs := by
 rcases h with h | h
 ·exact .inl (E.rd h (W.notup h))
 ·exact .inr h
structure Kp (α : List Addr) (H : Hp) (α' : List Addr) (H' : Hp) : Prop where
 pre : ∃ β, α' = α ++ β
 tup : ∀ a xs, H a = some (.tup xs) -> H' a = some (.tup xs)
 lst : ∀ a xs, a ∉ α -> Rd H a (.lst xs) -> a ∉ α' /\ Rd H' a (.lst xs)
 ext : ∀ a φ, H a = some (.ext φ) -> H' a = some (.ext φ)
 xd : ∀ a fs, H a = some (.xd fs) -> H' a = some (.xd fs)
theorem Ext.kp (E : Ext α H α' H') (W : Wd K cl α m H) : Kp α H α' H' := ⟨let ⟨β, e, _⟩ := E.pre; ⟨β, e⟩, fun a xs h => E.keep a _ h (W.notup (.inl h)), fun a xs n h => ⟨fun z => by
  obtain ⟨β, rfl, hb⟩ := E.pre
  rcases List.mem_append.mp z with z | z
  ·exact n z
  ·exact Rd.ne h (hb a z), E.rd h n⟩, (fun a φ h => E.keep a _ h (W.noext h)), (fun a fs h => E.keep a _ h (W.noxd h))⟩
theorem Kp.xdAt (E : Kp α H α' H') {dd : Option Addr} {xs : List V} (h : XdAt H dd xs) : XdAt H' dd xs := by
 rcases h with h | ⟨dx, x, h1, h2, h3⟩
 ·exact .inl h
 ·exact .inr ⟨dx, x, h1, h2, E.xd _ _ h3⟩
theorem Kp.lstAt (E : Kp α H α' H') {a : Addr} {xs : List V} (h : LstAt K α H a xs) : LstAt K α' H' a xs := by
 rcases h with h | h
 ·exact .inl (E.lst a xs h.1 h.2)
 ·exact .inr h
mutual
theorem Rep.kp (E : Kp α H α' H') : ∀ {d : D} {v : V}, Rep K α H d v -> Rep K α' H' d v
 | .non, _, h => by simpa [Rep] using h
 | .bl _, _, h => by simpa [Rep] using h
 | .int _, _, h => by simpa [Rep] using h
 | .str _, _, h => by simpa [Rep] using h
 | .flt _, _, h => by simpa [Rep] using h
 | .byt _, _, h => by simpa [Rep] using h
 | .ob k, _, h => by
  rw [Rep] at h ⊢
  obtain ⟨a, h1, h2⟩ := h
  obtain ⟨β, rfl⟩ := E.pre
  exact ⟨a, by rw [List.getElem?_append_left (List.getElem?_eq_some_iff.mp h1).1]; exact h1, h2⟩
 | .tup ds, _, h => by
  rw [Rep] at h ⊢
  obtain ⟨a, xs, e, h1, h2⟩ := h
  refine ⟨a, xs, e, ?_, RepL.kp E h2⟩
  rcases h1 with h1 | h1
  ·exact .inl (E.tup a xs h1)
  ·exact .inr h1
 | .lst ds, _, h => by
  rw [Rep] at h ⊢
  obtain ⟨a, xs, e, n, h1, h2⟩ := h
  exact ⟨a, xs, e, (E.lst a xs n h1).1, (E.lst a xs n h1).2, RepL.kp E h2⟩
 | .scr ds, _, h => by
  rw [Rep] at h ⊢
  obtain ⟨a, xs, e, h1, h2⟩ := h
  exact ⟨a, xs, e, E.lstAt h1, RepL.kp E h2⟩
 | .exn c ds, _, h => by
  rw [Rep] at h ⊢
  obtain ⟨a, C, dd, xs, e, n, h1, h2, h3⟩ := h
  exact ⟨a, C, dd, xs, e, n, E.ext _ _ h1, E.xdAt h2, RepL.kp E h3⟩
theorem RepL.kp (E : Kp α H α' H') : ∀ {ds : List D} {vs : List V}, RepL K α H ds vs -> RepL K α' H' ds vs
 | [], _, h => by rw [RepL] at h ⊢; exact h
 | _ :: _, _, h => by
  rw [RepL] at h ⊢
  obtain ⟨v, r, e, h1, h2⟩ := h
  exact ⟨v, r, e, Rep.kp E h1, RepL.kp E h2⟩
end
theorem Rep.mono (W : Wd K cl α m H) (E : Ext α H α' H') {d : D} {v : V} (h : Rep K α H d v) : Rep K α' H' d v := h.kp (E.kp W)
theorem RepL.mono (W : Wd K cl α m H) (E : Ext α H α' H') {ds : List D} {vs : List V} (h : RepL K α H ds vs) : RepL K α' H' ds vs := h.kp (E.kp W)
theorem Ext.refl (W : Wd K cl α m H) : Ext α H α H := ⟨⟨[], by simp, fun _ h => nomatch h⟩, fun _ _ h _ => h, fun _ h => W.has h, fun _ _ _ h => h⟩
theorem Ext.trans (a : Ext α H α' H') (b : Ext α' H' α2 H2) : Ext α H α2 H2 := by
 obtain ⟨β, rfl, hb⟩ := a.pre
 obtain ⟨γ, rfl, hc⟩ := b.pre
 refine ⟨⟨β ++ γ, by simp, fun c h => ?_⟩, fun x o h n => b.keep x o (a.keep x o h n) fun z => ?_, fun x h => b.there x (List.mem_append_left _ h), fun x o u h => b.frzs x o u (a.frzs x o u h)⟩
 ·rcases List.mem_append.mp h with h | h
  ·exact hb c h
  ·cases e : H c with
   | none => rfl
   | some o =>
    by_cases hm : c ∈ α
    ·exact absurd (hc c h) (a.there c hm)
    ·have := a.keep c o e hm
     rw [hc c h] at this
     cases this
 ·rcases List.mem_append.mp z with z | z
  ·exact n z
  ·rw [hb x z] at h
   cases h
theorem Ext.of_same (W : Wd K cl α m H) (s : Same H H') : Ext α H α H' := by
 refine ⟨⟨[], by simp, fun _ h => nomatch h⟩, fun a o h _ => s a o h, fun a ha z => ?_, fun a o u h => s a _ h⟩
 cases e : H a with
 | none => exact W.has ha e
 | some o => rw [s a o e] at z; cases z
theorem RepKV.kp (E : Kp α H α' H') : ∀ {ds : List (L2.Key × D)} {vs : List (L2.Key × V)}, RepKV K α H ds vs -> RepKV K α' H' ds vs
 | [], _, h => h
 | _ :: _, _, ⟨v, r, e, h1, h2⟩ => ⟨v, r, e, Rep.kp E h1, RepKV.kp E h2⟩
theorem RepF.kp (E : Kp α H α' H') : ∀ {ds : List (Str × D)} {vs : List (Str × V)}, RepF K α H ds vs -> RepF K α' H' ds vs
 | [], _, h => h
 | _ :: _, _, ⟨v, r, e, h1, h2⟩ => ⟨v, r, e, Rep.kp E h1, RepF.kp E h2⟩
theorem MoRep.kp (E : Kp α H α' H') {a : Addr} (s : ∀ o, H a = some o -> H' a = some o) : ∀ {o : MO}, MoRep K cl α H a o -> MoRep K cl α' H' a o
 | .lst _, ⟨xs, h1, h2⟩ => ⟨xs, s _ h1, h2.kp E⟩
 | .dct _, ⟨xs, h1, h2⟩ => ⟨xs, s _ h1, h2.kp E⟩
 | .ins _ _, ⟨dx, xs, h1, h2⟩ => ⟨dx, xs, s _ h1, h2.kp E⟩
 | .hid, ⟨o, xs, h1⟩ => ⟨o, xs, s _ h1⟩
theorem MoRep.mono (W : Wd K cl α m H) (E : Ext α H α' H') {a : Addr} (s : ∀ o, H a = some o -> H' a = some o) {o : MO} (h : MoRep K cl α H a o) : MoRep K cl α' H' a o := h.kp (E.kp W) s
theorem Wd.same (W : Wd K cl α m H) (s : Same H H') : Wd K cl α m H' := ⟨W.len, W.nd, fun k a o h1 h2 => (W.at' k a o h1 h2).mono W (Ext.of_same W s) fun o h => s a o h⟩
theorem Wd.join (W : Wd K cl α m H) {p : Addr} {u : HO} {o : MO} (hn : p ∉ α) (kp : Kp α H (α ++ [p]) (upd H p u)) (h : MoRep K cl (α ++ [p]) (upd H p u) p o) : Wd K cl (α ++ [p]) (m ++ [o]) (upd H p u) := by
 refine ⟨by rw [List.length_append, List.length_append, W.len]; rfl, ?_, fun k a o' h1 h2 => ?_⟩
 ·rw [List.nodup_append]
  exact ⟨W.nd, by simp, fun a ha b hb e => hn (by rw [<- List.mem_singleton.mp hb, <- e]; exact ha)⟩
 ·by_cases hk : k < α.length
  ·rw [List.getElem?_append_left hk] at h1
   rw [List.getElem?_append_left (by rw [<- W.len]; exact hk)] at h2
   exact (W.at' k a o' h1 h2).kp kp fun o h => by rw [upd_ne (fun z => hn (by rw [<- z]; exact List.mem_of_getElem? h1))]; exact h
  ·have hk2 : k = α.length := by
    have := (List.getElem?_eq_some_iff.mp h1).1
    rw [List.length_append] at this
    have : [p].length = 1 := rfl
    omega
   subst hk2
   rw [List.getElem?_append_right (Nat.le_refl _)] at h1
   rw [W.len, List.getElem?_append_right (Nat.le_refl _)] at h2
   simp at h1 h2
   subst h1 h2
   exact h
theorem Wd.new (W : Wd K cl α m H) {p : Addr} {u : HO} {o : MO} (hp : H p = none) (h : MoRep K cl (α ++ [p]) (upd H p u) p o) : Wd K cl (α ++ [p]) (m ++ [o]) (upd H p u) /\ Ext α H (α ++ [p]) (upd H p u) := by
 have s : Same H (upd H p u) := fun b o e => by rw [upd_ne (ne_of_none e hp)]; exact e
 have E : Ext α H (α ++ [p]) (upd H p u) := ⟨⟨[p], rfl, fun b hb => by rw [List.mem_singleton.mp hb]; exact hp⟩, fun a o h _ => s a o h, (Ext.of_same W s).there, fun a o u h => s a _ h⟩
 exact ⟨W.join (fun z => W.has z hp) (E.kp W) h, E⟩
end
theorem ex3 {A B C : Type} {P Q R : A -> B -> C -> Prop} {G : Prop} (h : ∃ a b c, P a b c /\ Q a b c /\ R a b c) (k : ∀ a b c, P a b c -> Q a b c -> R a b c -> G) : G := h.elim fun a h => h.elim fun b h => h.elim fun c h => k a b c h.1 h.2.1 h.2.2
abbrev XD := Exc -> List Addr -> Sto -> Hp -> Prop
abbrev RD (τ : Type) := τ -> List Addr -> Sto -> Hp -> Prop
def PQ (K : PySem.W.Frag) (cl : Str -> Addr) (ex : XD) {τ : Type} (r : Res τ) (α : List Addr) (H : Hp) (R : RD τ) : Prop :=
 Post r (fun d m' => ∀ α' H', Ext α H α' H' -> Wd K cl α' m' H' -> R d α' m' H') fun c m' => ∀ α' H', Ext α H α' H' -> Wd K cl α' m' H' -> ex c α' m' H'
structure RepE (K : PySem.W.Frag) (α : List Addr) (H : Hp) (ρ : En) (σ : L2.St) : Prop where
 len : ρ.length = σ.length
 at' : ∀ (i : Nat) (d : D), ρ[i]? = some (some d) -> ∃ v, σ[i]? = some (some v) /\ Rep K α H d v
section
variable {K : PySem.W.Frag} {cl : Str -> Addr} {ex : XD} {α α' α2 : List Addr} {m m' : Sto} {H H' H2 : Hp} {ρ ρ' : En} {σ σ' : L2.St} {τ υ : Type}
theorem RepE.mono (W : Wd K cl α m H) (E : Ext α H α' H') (h : RepE K α H ρ σ) : RepE K α' H' ρ σ := ⟨h.len, fun i d e => let ⟨v, a, b⟩ := h.at' i d e; ⟨v, a, b.mono W E⟩⟩
theorem RepE.set {i : Nat} {d : D} {v : V} (h : RepE K α H ρ σ) (r : Rep K α H d v) : RepE K α H (ρ.set i (some d)) (σ.set i (some v)) := by
 refine ⟨by rw [List.length_set, List.length_set, h.len], fun j e hj => ?_⟩
 by_cases hij : i = j
 ·subst hij
  have hl : i < ρ.length := by
   have := (List.getElem?_eq_some_iff.mp hj).1
   rwa [List.length_set] at this
  rw [List.getElem?_set_self hl] at hj
  cases hj
  exact ⟨v, List.getElem?_set_self (by rw [<- h.len]; exact hl), r⟩
 ·rw [List.getElem?_set_ne hij] at hj ⊢
  exact h.at' j e hj
theorem RepE.more (h : RepE K α H ρ σ) (n : Nat) : RepE K α H (ρ ++ List.replicate n none) (σ ++ List.replicate n none) := by
 refine ⟨by simp [h.len], fun j e hj => ?_⟩
 by_cases hl : j < ρ.length
 ·rw [List.getElem?_append_left hl] at hj
  rw [List.getElem?_append_left (by rw [<- h.len]; exact hl)]
  exact h.at' j e hj
 ·rw [List.getElem?_append_right (by omega), List.getElem?_replicate] at hj
  split at hj <;> cases hj
theorem PQ.mono {r : Res τ} {R R' : RD τ} (E : Ext α H α' H') (h : PQ K cl ex r α H R) (hR : ∀ d α2 m2 H2, Ext α' H' α2 H2 -> Wd K cl α2 m2 H2 -> R d α2 m2 H2 -> R' d α2 m2 H2) : PQ K cl ex r α' H' R' := by
 cases r with
 | ok d m2 => exact fun α2 H2 E2 W2 => hR d α2 m2 H2 E2 W2 (h α2 H2 (E.trans E2) W2)
 | exc c m2 => exact fun α2 H2 E2 W2 => h α2 H2 (E.trans E2) W2
 | bad => exact h
theorem PQ.bind {r : Res τ} {k : τ -> Sto -> Res υ} {R : RD υ} (h : PQ K cl ex (r.bind k) α H R) : PQ K cl ex r α H fun d α1 m1 H1 => PQ K cl ex (k d m1) α1 H1 R := by
 cases r with
 | ok d m1 => exact fun α1 H1 E1 _ => PQ.mono E1 h fun _ _ _ _ _ _ q => q
 | exc c m1 => exact h
 | bad => exact h
theorem PQ.ok {d : τ} {R : RD τ} (W : Wd K cl α m H) (h : PQ K cl ex (.ok d m) α H R) : R d α m H := h α H (Ext.refl W) W
theorem PQ.okS {d : τ} {R : RD τ} (W : Wd K cl α m H) (s : Same H H') (h : PQ K cl ex (.ok d m) α H R) : R d α m H' := h α H' (Ext.of_same W s) (W.same s)
def tD (K : PySem.W.Frag) (cl : Str -> Addr) (ex : XD) (f : En -> Sto -> Res D) : TE := fun σ H Q => ∃ α ρ m, Wd K cl α m H /\ RepE K α H ρ σ /\ PQ K cl ex (f ρ m) α H fun d α' _ H' => ∀ v, Rep K α' H' d v -> Q v H'
def tDT (K : PySem.W.Frag) (cl : Str -> Addr) (ex : XD) (f : En -> Sto -> Res Bool) : TT := fun σ H Q => ∃ α ρ m, Wd K cl α m H /\ RepE K α H ρ σ /\ PQ K cl ex (f ρ m) α H fun d _ _ H' => Q d H'
def tDA (K : PySem.W.Frag) (cl : Str -> Addr) (ex : XD) (f : En -> Sto -> Res (List D)) : TA := fun σ H Q => ∃ α ρ m, Wd K cl α m H /\ RepE K α H ρ σ /\ PQ K cl ex (f ρ m) α H fun d α' _ H' => ∀ v, RepL K α' H' d v -> Q v H'
theorem tD.use {f : En -> Sto -> Res D} {k : D -> Sto -> Res τ} {R : RD τ} {Q : VK} (W : Wd K cl α m H) (hr : RepE K α H ρ σ) (h : PQ K cl ex ((f ρ m).bind k) α H R)
  (hQ : ∀ α1 m1 H1 d v, Ext α H α1 H1 -> Wd K cl α1 m1 H1 -> RepE K α1 H1 ρ σ -> Rep K α1 H1 d v -> PQ K cl ex (k d m1) α1 H1 R -> Q v H1) : tD K cl ex f σ H Q :=
 ⟨α, ρ, m, W, hr, PQ.mono (Ext.refl W) h.bind fun d α1 m1 H1 E1 W1 q v rv => hQ α1 m1 H1 d v E1 W1 (hr.mono W E1) rv q⟩
theorem tDT.use {f : En -> Sto -> Res Bool} {k : Bool -> Sto -> Res τ} {R : RD τ} {Q : Bool -> Hp -> Prop} (W : Wd K cl α m H) (hr : RepE K α H ρ σ) (h : PQ K cl ex ((f ρ m).bind k) α H R)
  (hQ : ∀ α1 m1 H1 d, Ext α H α1 H1 -> Wd K cl α1 m1 H1 -> RepE K α1 H1 ρ σ -> PQ K cl ex (k d m1) α1 H1 R -> Q d H1) : tDT K cl ex f σ H Q :=
 ⟨α, ρ, m, W, hr, PQ.mono (Ext.refl W) h.bind fun d α1 m1 H1 E1 W1 q => hQ α1 m1 H1 d E1 W1 (hr.mono W E1) q⟩
theorem tDA.use {f : En -> Sto -> Res (List D)} {k : List D -> Sto -> Res τ} {R : RD τ} {Q : List V -> Hp -> Prop} (W : Wd K cl α m H) (hr : RepE K α H ρ σ) (h : PQ K cl ex ((f ρ m).bind k) α H R)
  (hQ : ∀ α1 m1 H1 d v, Ext α H α1 H1 -> Wd K cl α1 m1 H1 -> RepE K α1 H1 ρ σ -> RepL K α1 H1 d v -> PQ K cl ex (k d m1) α1 H1 R -> Q v H1) : tDA K cl ex f σ H Q :=
 ⟨α, ρ, m, W, hr, PQ.mono (Ext.refl W) h.bind fun d α1 m1 H1 E1 W1 q v rv => hQ α1 m1 H1 d v E1 W1 (hr.mono W E1) rv q⟩
end
section
variable (X : Cx) (cl : Str -> Addr) (ex : XD)
abbrev EV := En -> Sto -> Res D
abbrev TV := En -> Sto -> Res Bool
abbrev AV := En -> Sto -> Res (List D)
structure QE (e : Expr) (f : EV) : Prop where
 out : PE X e (tD X.K cl ex f)
structure QT (e : Expr) (f : TV) : Prop where
 out : PT X e (tDT X.K cl ex f)
structure QW (e : Expr) (f : TV) : Prop where
 out : PW X e (tDT X.K cl ex f)
structure QA (es : List Expr) (f : AV) : Prop where
 out : PA X es (tDA X.K cl ex f)
end
theorem PE.weak {X : Cx} {e : Expr} {t t' : TE} (h : PE X e t) (w : ∀ σ H Q, t' σ H Q -> t σ H Q) : PE X e t' := fun pins s σ H Q I q => h pins s σ H Q I (w σ H Q q)
theorem PT.weak {X : Cx} {e : Expr} {t t' : TT} (h : PT X e t) (w : ∀ σ H Q, t' σ H Q -> t σ H Q) : PT X e t' := fun pins s σ H Q I q => h pins s σ H Q I (w σ H Q q)
theorem PW.weak {X : Cx} {e : Expr} {t t' : TT} (h : PW X e t) (w : ∀ σ H Q, t' σ H Q -> t σ H Q) : PW X e t' := fun wh pins s σ H Q I q => h wh pins s σ H Q I (w σ H Q q)
theorem PA.weak {X : Cx} {e : List Expr} {t t' : TA} (h : PA X e t) (w : ∀ σ H Q, t' σ H Q -> t σ H Q) : PA X e t' := fun p pins s σ H Q I q => h p pins s σ H Q I (w σ H Q q)
theorem PS.weak {X : Cx} {e : Stmt} {t t' : TS} (h : PS X e t) (w : ∀ D σ H, t' D σ H -> t D σ H) : PS X e t' := fun pins s σ H D I q => h pins s σ H D I (w D σ H q)
theorem PSs.weak {X : Cx} {e : List Stmt} {t t' : TS} (h : PSs X e t) (w : ∀ D σ H, t' D σ H -> t D σ H) : PSs X e t' := fun pins s σ H D I q => h pins s σ H D I (w D σ H q)
def eVar (i : Nat) : EV := fun ρ m => match ρ[i]? with
 | some (some d) => .ok d m
 | _ => .bad
def eC (d : D) : EV := fun _ m => .ok d m
def eOp (g : D -> D -> Sto -> Res D) (fa fb : EV) : EV := fun ρ m => (fa ρ m).bind fun x m1 => (fb ρ m1).bind fun y m2 => g x y m2
def eUn (g : D -> Sto -> Res D) (fa : EV) : EV := fun ρ m => (fa ρ m).bind g
def eIf (c : TV) (fa fb : EV) : EV := fun ρ m => (c ρ m).bind fun b m1 => if b = true then fa ρ m1 else fb ρ m1
def aNil : AV := fun _ m => .ok [] m
def aCons (fa : EV) (fr : AV) : AV := fun ρ m => (fa ρ m).bind fun x m1 => (fr ρ m1).bind fun xs m2 => .ok (x :: xs) m2
def eFn (g : List D -> Sto -> Res D) (fa : AV) : EV := fun ρ m => (fa ρ m).bind g
def asB (d : D) (m : Sto) : Res Bool := match d with
 | .bl b => .ok b m
 | _ => .bad
def tV (fa : EV) : TV := fun ρ m => (fa ρ m).bind asB
def tAndM (a b : TV) : TV := fun ρ m => (a ρ m).bind fun c m1 => if c = true then b ρ m1 else .ok false m1
def tOrM (a b : TV) : TV := fun ρ m => (a ρ m).bind fun c m1 => if c = true then .ok true m1 else b ρ m1
def tNotM (a : TV) : TV := fun ρ m => (a ρ m).bind fun c m1 => .ok (!c) m1
def eAnd (a b : EV) : EV := fun ρ m => (a ρ m).bind fun c m1 => (asB c m1).bind fun c m1 => if c = true then b ρ m1 else .ok (.bl false) m1
def eOr (a b : EV) : EV := fun ρ m => (a ρ m).bind fun c m1 => (asB c m1).bind fun c m1 => if c = true then .ok (.bl true) m1 else b ρ m1
def eNot (a : EV) : EV := fun ρ m => (a ρ m).bind fun c m1 => (asB c m1).bind fun c m1 => .ok (.bl (!c)) m1
def OpD (K : PySem.W.Frag) (cl : Str -> Addr) (ex : XD) (r : R2) (g : D -> D -> Sto -> Res D) : Prop :=
 ∀ (α : List Addr) (m : Sto) (H : Hp) (x y : D) (vx vy : V) (Q : VK), Wd K cl α m H -> Rep K α H x vx -> Rep K α H y vy -> PQ K cl ex (g x y m) α H (fun d α' _ H' => ∀ v, Rep K α' H' d v -> Q v H') -> r vx vy H Q
def UnD (K : PySem.W.Frag) (cl : Str -> Addr) (ex : XD) (r : V -> Hp -> VK -> Prop) (g : D -> Sto -> Res D) : Prop :=
 ∀ (α : List Addr) (m : Sto) (H : Hp) (x : D) (vx : V) (Q : VK), Wd K cl α m H -> Rep K α H x vx -> PQ K cl ex (g x m) α H (fun d α' _ H' => ∀ v, Rep K α' H' d v -> Q v H') -> r vx H Q
def FnD (K : PySem.W.Frag) (cl : Str -> Addr) (ex : XD) (r : List V -> Hp -> VK -> Prop) (g : List D -> Sto -> Res D) : Prop :=
 ∀ (α : List Addr) (m : Sto) (H : Hp) (x : List D) (vx : List V) (Q : VK), Wd K cl α m H -> RepL K α H x vx -> PQ K cl ex (g x m) α H (fun d α' _ H' => ∀ v, Rep K α' H' d v -> Q v H') -> r vx H Q
section
variable {X : Cx} {cl : Str -> Addr} {ex : XD} {a b c e : Expr} {es rest : List Expr} {fa fb : EV} {ta tb : TV} {fr : AV} {pos : Pos}
theorem qe_var (i : Nat) {x : Str} (hN : autoParam (X.N[i]? = some x) AutoP.a3._auto_1) (hv : Vis X.env.scope x := by first | exact Or.inl rfl | exact Or.inr (Or.inl rfl) | exact Or.inr (Or.inr rfl)) (hd : autoParam ((x == ("__debug__" : Str)) = false) AutoP.a1._auto_1) (hcd : autoParam ((x == ("__classdict__" : Str)) = false) AutoP.a1._auto_1) : QE X cl ex (.Name x pos) (eVar i) :=
 ⟨PE.weak (pe_var hN hv hd hcd) fun σ H Q hh => ex3 hh fun α ρ m W hr h => by
  unfold eVar at h
  split at h
  ·rename_i d e
   obtain ⟨v, e1, r⟩ := hr.at' i d e
   exact ⟨v, e1, PQ.ok W h v r⟩
  ·exact h.elim⟩
theorem qe_c {d : D} {v : V} (h : PE X e (tC v)) (r : ∀ α H, Rep X.K α H d v) : QE X cl ex e (eC d) :=
 ⟨PE.weak h fun σ H Q hh => ex3 hh fun α ρ m W hr h => PQ.ok W h v (r α H)⟩
theorem qe_int {i : Int} {j} : QE X cl ex (.Constant (.int i) j pos) (eC (.int i)) := qe_c pe_int fun α H => by rw [Rep]
theorem qe_bl {i : Bool} {j} : QE X cl ex (.Constant (.bool i) j pos) (eC (.bl i)) := qe_c pe_bl fun α H => by rw [Rep]
theorem qe_non {j} : QE X cl ex (.Constant .none j pos) (eC .non) := qe_c pe_non fun α H => by rw [Rep]
theorem qe_str {i : Str} {j} : QE X cl ex (.Constant (.str i) j pos) (eC (.str i)) := qe_c pe_str fun α H => by rw [Rep]
theorem tOp_of {r : R2} {g : D -> D -> Sto -> Res D} (hd : OpD X.K cl ex r g) : ∀ σ H Q, tD X.K cl ex (eOp g fa fb) σ H Q -> tOp r (tD X.K cl ex fa) (tD X.K cl ex fb) σ H Q := fun σ H Q hh => ex3 hh fun α ρ m W hr h =>
 tD.use W hr h fun α1 m1 H1 d v E1 W1 hr1 rv h1 => tD.use W1 hr1 h1 fun α2 m2 H2 d2 v2 E2 W2 hr2 rv2 h2 => hd α2 m2 H2 d d2 v v2 Q W2 (rv.mono W1 E2) rv2 h2
theorem qe_op {op : Operator} {r : R2} {g : D -> D -> Sto -> Res D} (ho : OpR X (binaryOp op) r) (hd : OpD X.K cl ex r g) (ha : QE X cl ex a fa) (hb : QE X cl ex b fb) : QE X cl ex (.BinOp a op b pos) (eOp g fa fb) :=
 ⟨PE.weak (pe_op ho ha.out hb.out) (tOp_of hd)⟩
theorem qe_un {op : UnaryOp} {r : V -> Hp -> VK -> Prop} {g : D -> Sto -> Res D} (ho : UnR X (unaryOp op) r) (hd : UnD X.K cl ex r g) (ha : QE X cl ex a fa) : QE X cl ex (.UnaryOp op a pos) (eUn g fa) :=
 ⟨PE.weak (pe_un ho ha.out) fun σ H Q hh => ex3 hh fun α ρ m W hr h => tD.use W hr h fun α1 m1 H1 d v E1 W1 hr1 rv h1 => hd α1 m1 H1 d v Q W1 rv h1⟩
theorem qe_ix {r : R2} {g : D -> D -> Sto -> Res D} (ho : IxR X r) (hd : OpD X.K cl ex r g) (ha : QE X cl ex a fa) (hb : QE X cl ex b fb) (hs : PlainIx b) : QE X cl ex (.Subscript a b pos) (eOp g fa fb) :=
 ⟨PE.weak (pe_ix ho ha.out hb.out hs) (tOp_of hd)⟩
theorem qe_cmp {op : CmpOp} {r : R2} {g : D -> D -> Sto -> Res D} (ho : OpR X (compareOp op) r) (hd : OpD X.K cl ex r g) (ha : QE X cl ex a fa) (hb : QE X cl ex b fb) (hm : behindInMarks op b = false) : QE X cl ex (.Compare a [op] [b] pos) (eOp g fa fb) :=
 ⟨PE.weak (pe_cmpR ho ha.out hb.out hm) (tOp_of hd)⟩
theorem tTest_of {t : TE} (h : ∀ σ H Q, tD X.K cl ex fa σ H Q -> t σ H Q) : ∀ σ H Q, tDT X.K cl ex (tV fa) σ H Q -> tTest t σ H Q := fun σ H Q hh => ex3 hh fun α ρ m W hr q =>
 h σ H _ (tD.use W hr q fun α1 m1 H1 d v E1 W1 hr1 rv h1 => by
  cases d with
  | bl b => rw [Rep] at rv; exact ⟨b, rv, PQ.ok W1 h1⟩
  | _ => exact h1.elim)
theorem qt_cmp {op : CmpOp} {r : R2} {g : D -> D -> Sto -> Res D} (ho : OpR X (compareOp op) r) (hd : OpD X.K cl ex r g) (ha : QE X cl ex a fa) (hb : QE X cl ex b fb) (hm : behindInMarks op b = false) : QT X cl ex (.Compare a [op] [b] pos) (tV (eOp g fa fb)) :=
 ⟨PT.weak (pt_cmpR ho ha.out hb.out hm) (tTest_of (tOp_of hd))⟩
theorem qt_val (hq : QE X cl ex e fa) (he : autoParam (∀ whole, isTrue e X.env whole = (do let v <- whole; standAt e.pos; holding [v] (truthy v))) AutoP.a2._auto_1) : QT X cl ex e (tV fa) :=
 ⟨PT.weak (pt_val hq.out he) (tTest_of fun _ _ _ h => h)⟩
def eChain (g g' : D -> D -> Sto -> Res D) (fa fb fc : EV) : EV := fun ρ m => (fa ρ m).bind fun x m1 => (fb ρ m1).bind fun y m2 => (g x y m2).bind fun z m3 => (asB z m3).bind fun k m3 => if k = true then (fc ρ m3).bind fun w m4 => g' y w m4 else .ok (.bl false) m3
theorem qw_or1 (ha : QT X cl ex a ta) : QW X cl ex (.BoolOp .Or [a] pos) ta := ⟨pw_or1 ha.out⟩
theorem qw_or (ha : QT X cl ex a ta) (hb : QW X cl ex (.BoolOp .Or (b :: rest) pos) tb) : QW X cl ex (.BoolOp .Or (a :: b :: rest) pos) (tOrM ta tb) :=
 ⟨PW.weak (pw_or ha.out hb.out) fun σ H Q hh => ex3 hh fun α ρ m W hr h => tDT.use W hr h fun α1 m1 H1 d E1 W1 hr1 h1 => by
  cases d with
  | false => exact ⟨α1, ρ, m1, W1, hr1, h1⟩
  | true => exact PQ.ok W1 h1⟩
theorem qt_bool (hq : QW X cl ex a ta) : QT X cl ex a ta := ⟨PW.pt hq.out⟩
theorem qt_not (ha : QT X cl ex a ta) : QT X cl ex (.UnaryOp .Not a pos) (tNotM ta) :=
 ⟨PT.weak (pt_not ha.out) fun σ H Q hh => ex3 hh fun α ρ m W hr h => tDT.use W hr h fun α1 m1 H1 d E1 W1 hr1 h1 => PQ.ok W1 h1⟩
theorem qe_one {op} (ha : QE X cl ex a fa) : QE X cl ex (.BoolOp op [a] pos) fa := ⟨pe_one ha.out⟩
theorem asB.use {d : D} {v : V} {τ : Type} {k : Bool -> Sto -> Res τ} {R : RD τ} {α : List Addr} {m : Sto} {H : Hp} (W : Wd X.K cl α m H) (rv : Rep X.K α H d v) (h : PQ X.K cl ex ((asB d m).bind k) α H R) : ∃ b, v = .bl b /\ PQ X.K cl ex (k b m) α H R := by
 cases d with
 | bl b => rw [Rep] at rv; exact ⟨b, rv, h⟩
 | _ => exact h.elim
theorem qe_and (ha : QE X cl ex a fa) (hb : QE X cl ex (.BoolOp .And (b :: rest) pos) fb) : QE X cl ex (.BoolOp .And (a :: b :: rest) pos) (eAnd fa fb) :=
 ⟨PE.weak (pe_and ha.out hb.out) fun σ H Q hh => ex3 hh fun α ρ m W hr h => tD.use W hr h fun α1 m1 H1 d v E1 W1 hr1 rv h1 => by
  obtain ⟨c, e, h2⟩ := asB.use W1 rv h1
  refine ⟨c, e, ?_⟩
  cases c with
  | true => exact ⟨α1, ρ, m1, W1, hr1, h2⟩
  | false => exact PQ.ok W1 h2 _ (by rw [Rep])⟩
theorem qe_not (ha : QE X cl ex a fa) : QE X cl ex (.UnaryOp .Not a pos) (eNot fa) :=
 ⟨PE.weak (pe_not ha.out) fun σ H Q hh => ex3 hh fun α ρ m W hr h => tD.use W hr h fun α1 m1 H1 d v E1 W1 hr1 rv h1 => by
  obtain ⟨c, e, h2⟩ := asB.use W1 rv h1
  exact ⟨c, e, PQ.ok W1 h2 _ (by rw [Rep])⟩⟩
theorem qe_if (hc : QT X cl ex c ta) (ha : QE X cl ex a fa) (hb : QE X cl ex b fb) : QE X cl ex (.IfExp c a b pos) (eIf ta fa fb) :=
 ⟨PE.weak (pe_ifExp hc.out ha.out hb.out) fun σ H Q hh => ex3 hh fun α ρ m W hr h => tDT.use W hr h fun α1 m1 H1 d E1 W1 hr1 h1 => by
  cases d with
  | true => exact ⟨α1, ρ, m1, W1, hr1, h1⟩
  | false => exact ⟨α1, ρ, m1, W1, hr1, h1⟩⟩
theorem qa_nil : QA X cl ex [] aNil := ⟨PA.weak pa_nil fun σ H Q hh => ex3 hh fun α ρ m W hr h => PQ.ok W h _ (by rw [RepL])⟩
theorem qa_cons (ha : QE X cl ex e fa) (hrq : QA X cl ex es fr) (hs : autoParam (starEach (e :: es) X.env = (false, eval e X.env) :: starEach es X.env) AutoP.a3._auto_1) : QA X cl ex (e :: es) (aCons fa fr) :=
 ⟨PA.weak (pa_cons ha.out hrq.out hs) fun σ H Q hh => ex3 hh fun α ρ m W hr h => tD.use W hr h fun α1 m1 H1 d v E1 W1 hr1 rv h1 => tDA.use W1 hr1 h1 fun α2 m2 H2 d2 v2 E2 W2 hr2 rv2 h2 => PQ.ok W2 h2 _ (by rw [RepL]; exact ⟨v, v2, rfl, rv.mono W1 E2, rv2⟩)⟩
theorem RepL.length {K : PySem.W.Frag} {α : List Addr} {H : Hp} : ∀ {ds : List D} {vs : List V}, RepL K α H ds vs -> ds.length = vs.length
 | [], _, h => by rw [RepL] at h; rw [h]; rfl
 | _ :: _, _, h => by
  rw [RepL] at h
  obtain ⟨v, r, rfl, _, h2⟩ := h
  rw [List.length_cons, List.length_cons, RepL.length h2]
def gTup : List D -> Sto -> Res D := fun ds m => if ds.length <= sizeLine then .ok (.tup ds) m else .bad
def gLst : List D -> Sto -> Res D := fun ds m => if ds.length <= sizeLine then .ok (.lst ds) m else .bad
def gNewL : List D -> Sto -> Res D := fun ds m => if ds.length <= sizeLine then .ok (.ob m.length) (m ++ [.lst ds]) else .bad
theorem PQ.if {K : PySem.W.Frag} {τ : Type} {c : Prop} [Decidable c] {r : Res τ} {α : List Addr} {H : Hp} {R : RD τ} (h : PQ K cl ex (if c then r else .bad) α H R) : c /\ PQ K cl ex r α H R := by
 by_cases hc : c
 ·rw [if_pos hc] at h; exact ⟨hc, h⟩
 ·rw [if_neg hc] at h; exact h.elim
theorem Same.new {H : Hp} {p : Addr} {o : HO} (hp : H p = none) : Same H (upd H p o) := fun b u e => by rw [upd_ne (ne_of_none e hp)]; exact e
theorem qe_tup {x1} (hq : QA X cl ex es fr) : QE X cl ex (.Tuple es x1 pos) (eFn gTup fr) :=
 ⟨PE.weak (pe_tup hq.out) fun σ H Q hh => ex3 hh fun α ρ m W hr h => tDA.use W hr h fun α1 m1 H1 d v E1 W1 hr1 rv h1 => by
  obtain ⟨hl, h2⟩ := h1.if
  refine ⟨by rw [<- rv.length]; exact hl, fun p hp => ?_⟩
  have s := Same.new (o := .tup v) hp
  exact PQ.okS W1 s h2 _ (by rw [Rep]; exact ⟨p, v, rfl, .inl upd_same, rv.mono W1 (Ext.of_same W1 s)⟩)⟩
theorem Wd.nin {K : PySem.W.Frag} {α : List Addr} {m : Sto} {H : Hp} (W : Wd K cl α m H) {p : Addr} (hp : H p = none) : p ∉ α := fun z => W.has z hp
theorem rep_lst {K : PySem.W.Frag} {α : List Addr} {m : Sto} {H : Hp} {p : Addr} {ds : List D} {vs : List V} (W : Wd K cl α m H) (hp : H p = none) (r : RepL K α H ds vs) : Rep K α (upd H p (.lst vs)) (.lst ds) (.ref p) := by
 rw [Rep]
 exact ⟨p, vs, rfl, W.nin hp, .inl upd_same, r.mono W (Ext.of_same W (Same.new hp))⟩
theorem qe_lst (hq : QA X cl ex es fr) : QE X cl ex (.List es pos) (eFn gLst fr) :=
 ⟨PE.weak (pe_lst hq.out) fun σ H Q hh => ex3 hh fun α ρ m W hr h => tDA.use W hr h fun α1 m1 H1 d v E1 W1 hr1 rv h1 => by
  obtain ⟨hl, h2⟩ := h1.if
  exact ⟨by rw [<- rv.length]; exact hl, fun p hp => PQ.okS W1 (Same.new hp) h2 _ (rep_lst W1 hp rv)⟩⟩
theorem new_lst {K : PySem.W.Frag} {α : List Addr} {m : Sto} {H : Hp} {p : Addr} {ds : List D} {vs : List V} {R : RD D} (W : Wd K cl α m H) (hp : H p = none) (r : RepL K α H ds vs) (h : PQ K cl ex (.ok (.ob m.length) (m ++ [.lst ds])) α H R) : ∃ α' m', R (.ob m.length) α' m' (upd H p (.lst vs)) /\ Rep K α' (upd H p (.lst vs)) (.ob m.length) (.ref p) := by
 have E0 : Ext α H (α ++ [p]) (upd H p (.lst vs)) := ⟨⟨[p], rfl, fun b hb => by rw [List.mem_singleton.mp hb]; exact hp⟩, fun a o h _ => Same.new hp a o h, (Ext.of_same W (Same.new hp)).there, fun a o u h => Same.new hp a _ h⟩
 obtain ⟨W2, E2⟩ := W.new (u := .lst vs) (o := .lst ds) hp ⟨vs, upd_same, r.mono W E0⟩
 refine ⟨_, _, h _ _ E2 W2, ?_⟩
 rw [Rep]
 refine ⟨p, ?_, rfl⟩
 rw [<- W.len, List.getElem?_append_right (Nat.le_refl _)]
 simp
theorem qe_newl (hq : QA X cl ex es fr) : QE X cl ex (.List es pos) (eFn gNewL fr) :=
 ⟨PE.weak (pe_lst hq.out) fun σ H Q hh => ex3 hh fun α ρ m W hr h => tDA.use W hr h fun α1 m1 H1 d v E1 W1 hr1 rv h1 => by
  obtain ⟨hl, h2⟩ := h1.if
  refine ⟨by rw [<- rv.length]; exact hl, fun p hp => ?_⟩
  obtain ⟨_, _, q, r⟩ := new_lst W1 hp rv h2
  exact q _ r⟩
theorem tCB_of {r : List V -> Hp -> VK -> Prop} {g : List D -> Sto -> Res D} (hd : FnD X.K cl ex r g) : ∀ σ H Q, tD X.K cl ex (eFn g fr) σ H Q -> tCB r (tDA X.K cl ex fr) σ H Q := fun σ H Q hh => ex3 hh fun α ρ m W hr h =>
 tDA.use W hr h fun α1 m1 H1 d v E1 W1 hr1 rv h1 => hd α1 m1 H1 d v Q W1 rv h1
theorem qe_callB {x : Str} {id : String} {p : Pos} {r : List V -> Hp -> VK -> Prop} {g : List D -> Sto -> Res D} (hc : CallR X (.builtin id) r) (hd : FnD X.K cl ex r g) (hg : Gl X x) (hm : X.mg x = none) (hv : bootBuiltins x = some (.builtin id)) (ha : QA X cl ex (e :: es) fr) (hn : autoParam (x ≠ "__name__") AutoP.a1._auto_1) (hdb : autoParam ((x == ("__debug__" : Str)) = false) AutoP.a1._auto_1)
  (he : autoParam (starEach (e :: es) X.env = (false, eval e X.env) :: starEach es X.env) AutoP.a3._auto_1) (hpl : autoParam ((backTo pos (starEach es X.env)).any (·.1) = false) AutoP.a3._auto_1) : QE X cl ex (.Call (.Name x p) (e :: es) [] pos) (eFn g fr) :=
 ⟨PE.weak (pe_callB hc hg hm hv ha.out hn hdb he hpl) (tCB_of hd)⟩
theorem qe_callTy {x : Str} {T : String} {p : Pos} {r : List V -> Hp -> VK -> Prop} {g : List D -> Sto -> Res D} (hc : CallR X (.type T) r) (hd : FnD X.K cl ex r g) (hg : Gl X x) (hm : X.mg x = none) (hv : bootBuiltins x = some (.type T)) (ha : QA X cl ex (e :: es) fr) (hn : autoParam (x ≠ "__name__") AutoP.a1._auto_1) (hdb : autoParam ((x == ("__debug__" : Str)) = false) AutoP.a1._auto_1)
  (he : autoParam (starEach (e :: es) X.env = (false, eval e X.env) :: starEach es X.env) AutoP.a3._auto_1) (hpl : autoParam ((backTo pos (starEach es X.env)).any (·.1) = false) AutoP.a3._auto_1) : QE X cl ex (.Call (.Name x p) (e :: es) [] pos) (eFn g fr) :=
 ⟨PE.weak (pe_callTy hc hg hm hv ha.out hn hdb he hpl) (tCB_of hd)⟩
end
inductive Fl where
 | nx (ρ : En) | rt (d : D) | bk (ρ : En) | ct (ρ : En)
abbrev SV := En -> Sto -> Res Fl
def EndsOk (K : PySem.W.Frag) (D : Ends) (fl : Fl) (α : List Addr) (H : Hp) : Prop := match fl with
 | .nx ρ => ∀ σ, RepE K α H ρ σ -> D.nx σ H
 | .rt d => ∀ v, Rep K α H d v -> D.rt v H
 | .bk ρ => ∀ σ, RepE K α H ρ σ -> D.bk σ H
 | .ct ρ => ∀ σ, RepE K α H ρ σ -> D.ct σ H
def tDS (K : PySem.W.Frag) (cl : Str -> Addr) (ex : XD) (f : SV) : TS := fun D σ H => ∃ α ρ m, Wd K cl α m H /\ RepE K α H ρ σ /\ PQ K cl ex (f ρ m) α H fun fl α' _ H' => EndsOk K D fl α' H'
abbrev GV := D -> En -> Sto -> Res En
def tDG (K : PySem.W.Frag) (cl : Str -> Addr) (ex : XD) (f : GV) : TG := fun v σ H Q => ∃ α ρ m d, Wd K cl α m H /\ RepE K α H ρ σ /\ Rep K α H d v /\ PQ K cl ex (f d ρ m) α H fun ρ' α' _ H' => ∀ σ', RepE K α' H' ρ' σ' -> Q σ' H'
def tDGs (K : PySem.W.Frag) (cl : Str -> Addr) (ex : XD) (f : List D -> En -> Sto -> Res En) : TGs := fun v σ H Q => ∃ α ρ m d, Wd K cl α m H /\ RepE K α H ρ σ /\ RepL K α H d v /\ PQ K cl ex (f d ρ m) α H fun ρ' α' _ H' => ∀ σ', RepE K α' H' ρ' σ' -> Q σ' H'
def ItD (K : PySem.W.Frag) (cl : Str -> Addr) (α : List Addr) (H : Hp) (J : It) (ds : List D) : Prop :=
 ∀ (i : Nat) (α1 : List Addr) (m1 : Sto) (H1 : Hp), Ext α H α1 H1 -> Wd K cl α1 m1 H1 -> (∀ d, ds[i]? = some d -> J.go i H1 /\ ∀ x H2, J.yld i H1 x H2 -> Same H1 H2 /\ Rep K α1 H2 d x) /\ (i = ds.length -> J.stop i H1)
def tDI (K : PySem.W.Frag) (cl : Str -> Addr) (ex : XD) (f : AV) : TI := fun σ H R => ∃ α ρ m, Wd K cl α m H /\ RepE K α H ρ σ /\ PQ K cl ex (f ρ m) α H fun ds α' _ H' => ∀ J, ItD K cl α' H' J ds -> R J H'
section
variable (X : Cx) (cl : Str -> Addr) (ex : XD)
structure QS (st : Stmt) (f : SV) : Prop where
 out : PS X st (tDS X.K cl ex f)
structure QSs (st : List Stmt) (f : SV) : Prop where
 out : PSs X st (tDS X.K cl ex f)
structure QG (tg : Expr) (f : GV) : Prop where
 out : PG X tg (tDG X.K cl ex f)
structure QGs (tg : List Expr) (f : List D -> En -> Sto -> Res En) : Prop where
 out : PGs X tg (tDGs X.K cl ex f)
structure QI (tg it : Expr) (f : AV) : Prop where
 out : PI X tg it (tDI X.K cl ex f)
end
theorem PG.weak {X : Cx} {e : Expr} {t t' : TG} (h : PG X e t) (w : ∀ v σ H Q, t' v σ H Q -> t v σ H Q) : PG X e t' := fun pins s σ H v u Q I r q => h pins s σ H v u Q I r (w v σ H Q q)
theorem PGs.weak {X : Cx} {e : List Expr} {t t' : TGs} (h : PGs X e t) (w : ∀ v σ H Q, t' v σ H Q -> t v σ H Q) : PGs X e t' := fun pins s σ H v u Q I r q => h pins s σ H v u Q I r (w v σ H Q q)
theorem PI.weak {X : Cx} {tg e : Expr} {t t' : TI} (h : PI X tg e t) (w : ∀ σ H Q, t' σ H Q -> t σ H Q) : PI X tg e t' := fun pins s σ H Q I q => h pins s σ H Q I (w σ H Q q)
def sSeq (f g : SV) : SV := fun ρ m => (f ρ m).bind fun fl m1 => match fl with
 | .nx ρ1 => g ρ1 m1
 | fl => .ok fl m1
def sNil : SV := fun ρ m => .ok (.nx ρ) m
def sRet (f : EV) : SV := fun ρ m => (f ρ m).bind fun d m1 => .ok (.rt d) m1
def sRetN : SV := fun _ m => .ok (.rt .non) m
def sDrop (f : EV) : SV := fun ρ m => (f ρ m).bind fun _ m1 => .ok (.nx ρ) m1
def sIf (c : TV) (f g : SV) : SV := fun ρ m => (c ρ m).bind fun b m1 => if b = true then f ρ m1 else g ρ m1
def sAsg (f : EV) (g : GV) : SV := fun ρ m => (f ρ m).bind fun d m1 => (g d ρ m1).bind fun ρ1 m2 => .ok (.nx ρ1) m2
def gN (i : Nat) : GV := fun d ρ m => .ok (ρ.set i (some d)) m
def gsNil : List D -> En -> Sto -> Res En := fun ds ρ m => match ds with
 | [] => .ok ρ m
 | _ :: _ => .bad
def gsCons (g : GV) (gs : List D -> En -> Sto -> Res En) : List D -> En -> Sto -> Res En := fun ds ρ m => match ds with
 | [] => .bad
 | d :: r => (g d ρ m).bind fun ρ1 m1 => gs r ρ1 m1
def gT (n : Nat) (gs : List D -> En -> Sto -> Res En) : GV := fun d ρ m => match d with
 | .tup ds => if ds.length = n then gs ds ρ m else .bad
 | _ => .bad
def sPar (i j : Nat) (fa : AV) : SV := fun ρ m => (fa ρ m).bind fun ds m1 => match ds with
 | [x, y] => .ok (.nx ((ρ.set i (some x)).set j (some y))) m1
 | _ => .bad
def sPar3 (i j k : Nat) (fa : AV) : SV := fun ρ m => (fa ρ m).bind fun ds m1 => match ds with
 | [x, y, z] => .ok (.nx (((ρ.set i (some x)).set j (some y)).set k (some z))) m1
 | _ => .bad
def loopF (g : GV) (body : SV) : List D -> En -> Sto -> Res Fl
 | [], ρ, m => .ok (.nx ρ) m
 | d :: r, ρ, m => (g d ρ m).bind fun ρ1 m1 => (body ρ1 m1).bind fun fl m2 => match fl with
  | .nx ρ2 => loopF g body r ρ2 m2
  | .ct ρ2 => loopF g body r ρ2 m2
  | .bk ρ2 => .ok (.nx ρ2) m2
  | .rt d => .ok (.rt d) m2
def sFor (it : AV) (g : GV) (body : SV) : SV := fun ρ m => (it ρ m).bind fun ds m1 => loopF g body ds ρ m1
def loopW (c : TV) (body : SV) : Nat -> En -> Sto -> Res Fl
 | 0, _, _ => .bad
 | n + 1, ρ, m => (c ρ m).bind fun b m1 => if b = true then (body ρ m1).bind fun fl m2 => match fl with
  | .nx ρ2 => loopW c body n ρ2 m2
  | .ct ρ2 => loopW c body n ρ2 m2
  | .bk ρ2 => .ok (.nx ρ2) m2
  | .rt d => .ok (.rt d) m2 else .ok (.nx ρ) m1
def sWhile (n : Nat) (c : TV) (body : SV) : SV := fun ρ m => loopW c body n ρ m
def compM (g : GV) (c : TV) (el : EV) (ρ : En) : List D -> Sto -> Res (List D)
 | [], m => .ok [] m
 | d :: r, m => (g d ρ m).bind fun ρ1 m1 => (c ρ1 m1).bind fun b m2 => if b = true then (el ρ1 m2).bind fun x m3 => (compM g c el ρ r m3).bind fun xs m4 => .ok (x :: xs) m4 else compM g c el ρ r m2
def aComp (n : Nat) (it : AV) (g : GV) (c : TV) (el : EV) : AV := fun ρ m => (it ρ m).bind fun ds m1 => if ds.length <= 1000000 then compM g c el (ρ ++ List.replicate n none) ds m1 else .bad
def tYesM : TV := fun _ m => .ok true m
section
variable {X : Cx} {cl : Str -> Addr} {ex : XD} {a b c e tg it : Expr} {es : List Expr} {fa fb : EV} {ta tb : TV} {fr : AV} {pos : Pos} {st : Stmt} {sts sts' : List Stmt} {f g : SV} {gt : GV}
theorem qss_nil : QSs X cl ex [] sNil := ⟨PSs.weak pss_nil fun D σ H hh => ex3 hh fun α ρ m W hr h => PQ.ok W h σ hr⟩
theorem qss_one (hq : QS X cl ex st f) : QSs X cl ex [st] f := ⟨pss_one hq.out⟩
theorem qss_cons (h1 : QS X cl ex st f) (h2 : QSs X cl ex sts g) : QSs X cl ex (st :: sts) (sSeq f g) :=
 ⟨PSs.weak (pss_cons h1.out h2.out) fun D σ H hh => ex3 hh fun α ρ m W hr h => ⟨α, ρ, m, W, hr, PQ.mono (Ext.refl W) h.bind fun fl α1 m1 H1 E1 W1 q => by
  cases fl with
  | nx ρ1 => exact fun σ1 hr1 => ⟨α1, ρ1, m1, W1, hr1, q⟩
  | rt d => exact PQ.ok W1 q
  | bk ρ1 => exact PQ.ok W1 q
  | ct ρ1 => exact PQ.ok W1 q⟩⟩
theorem qs_ret (he : QE X cl ex e fa) : QS X cl ex (.Return (some e) pos) (sRet fa) :=
 ⟨PS.weak (ps_ret he.out) fun D σ H hh => ex3 hh fun α ρ m W hr h => tD.use W hr h fun α1 m1 H1 d v E1 W1 hr1 rv h1 => PQ.ok W1 h1 v rv⟩
theorem qs_if (hc : QT X cl ex c ta) (ha : QSs X cl ex sts f) (hb : QSs X cl ex sts' g) : QS X cl ex (.If c sts sts' pos) (sIf ta f g) :=
 ⟨PS.weak (ps_if hc.out ha.out hb.out) fun D σ H hh => ex3 hh fun α ρ m W hr h => tDT.use W hr h fun α1 m1 H1 d E1 W1 hr1 h1 => by
  cases d with
  | true => exact ⟨α1, ρ, m1, W1, hr1, h1⟩
  | false => exact ⟨α1, ρ, m1, W1, hr1, h1⟩⟩
theorem qg_name {i : Nat} {x : Str} (hN : X.N.Nodup) (hi : X.N[i]? = some x) (hx : Loc X.env.scope x) (hf : autoParam (X.fn x = true ∨ X.env.scope.names.lookup x = some .local) AutoP.a0._auto_1) : QG X cl ex (.Name x pos) (gN i) :=
 ⟨PG.weak (pg_name hN hi hx hf) fun v σ H Q ⟨α, ρ, m, d, W, hr, rv, h⟩ => PQ.ok W h _ (hr.set rv)⟩
theorem qgs_nil : QGs X cl ex [] gsNil := ⟨PGs.weak pgs_nil fun v σ H Q ⟨α, ρ, m, d, W, hr, rv, h⟩ => by
 cases d with
 | nil => rw [RepL] at rv; exact ⟨rv, PQ.ok W h _ hr⟩
 | cons d r => exact h.elim⟩
theorem qgs_cons {gs : List D -> En -> Sto -> Res En} (h1 : QG X cl ex e gt) (h2 : QGs X cl ex es gs) (hs : autoParam ((assignEach (e :: es) X.env).map (·.2) = assign e X.env :: (assignEach es X.env).map (·.2)) AutoP.a3._auto_1) : QGs X cl ex (e :: es) (gsCons gt gs) :=
 ⟨PGs.weak (pgs_cons h1.out h2.out hs) fun v σ H Q ⟨α, ρ, m, d, W, hr, rv, h⟩ => by
  cases d with
  | nil => exact h.elim
  | cons d r =>
   rw [RepL] at rv
   obtain ⟨v0, vr, rfl, r0, rr⟩ := rv
   refine ⟨v0, vr, rfl, α, ρ, m, d, W, hr, r0, PQ.mono (Ext.refl W) (show PQ X.K cl ex ((gt d ρ m).bind fun ρ1 m1 => gs r ρ1 m1) α H _ from h).bind fun ρ1 α1 m1 H1 E1 W1 q σ1 hr1 => ?_⟩
   exact ⟨α1, ρ1, m1, r, W1, hr1, rr.mono W E1, q⟩⟩
theorem qg_tup {k n : Nat} {gs : List D -> En -> Sto -> Res En} (hc : X.calm = true) (hq : QGs X cl ex es gs) (hn : autoParam ((assignEach es X.env).length = n) AutoP.a3._auto_1) (hst : autoParam ((assignEach es X.env).findIdx? (·.1) = none) AutoP.a3._auto_1) : QG X cl ex (.Tuple es k pos) (gT n gs) :=
 ⟨PG.weak (pg_tup hc hq.out hn hst) fun v σ H Q ⟨α, ρ, m, d, W, hr, rv, h⟩ => by
  cases d with
  | tup ds =>
   rw [Rep] at rv
   obtain ⟨a, xs, e, h1, h2⟩ := rv
   obtain ⟨hl, h3⟩ := PQ.if h
   exact ⟨a, xs, e, h1.sq, by rw [<- h2.length]; exact hl, α, ρ, m, ds, W, hr, h2, h3⟩
  | _ => exact h.elim⟩
theorem tAsg_of {t : TE} {u : TG} (h1 : ∀ σ H Q, tD X.K cl ex fa σ H Q -> t σ H Q) (h2 : ∀ v σ H Q, tDG X.K cl ex gt v σ H Q -> u v σ H Q) : ∀ D σ H, tDS X.K cl ex (sAsg fa gt) D σ H -> tAsg t u D σ H := fun D σ H hh => ex3 hh fun α ρ m W hr h =>
 h1 σ H _ (tD.use W hr h fun α1 m1 H1 d v E1 W1 hr1 rv q => h2 v σ H1 _ ⟨α1, ρ, m1, d, W1, hr1, rv, PQ.mono (Ext.refl W1) q.bind fun ρ2 α2 m2 H2 E2 W2 q2 => PQ.ok W2 q2⟩)
theorem qs_set {i : Nat} {x : Str} {pos' : Pos} (hN : X.N.Nodup) (hi : X.N[i]? = some x) (hx : Loc X.env.scope x) (he : QE X cl ex e fa) (hs : autoParam (swapsWith e (some (.Name x pos')) pos.line X.env = pure false) AutoP.a3._auto_1) (hf : autoParam (X.fn x = true ∨ X.env.scope.names.lookup x = some .local) AutoP.a0._auto_1) :
  QS X cl ex (.Assign [.Name x pos'] e pos) (sAsg fa (gN i)) :=
 ⟨PS.weak (ps_set hN hi hx he.out hs hf) (tAsg_of (fun _ _ _ h => h) fun v σ H Q ⟨α, ρ, m, d, W, hr, rv, h⟩ => PQ.ok W h _ (hr.set rv))⟩
theorem qs_asg (he : QE X cl ex e fa) (hg : QG X cl ex tg gt) (hs : autoParam (swapsWithSole [tg] e pos.line X.env = pure false) AutoP.a3._auto_1) (hw : autoParam (swappedStores [tg] e X.env = pure none) AutoP.a3._auto_1)
  (h1 : autoParam ((assignEach [tg] X.env).map (·.2) = [assign tg X.env]) AutoP.a3._auto_1) : QS X cl ex (.Assign [tg] e pos) (sAsg fa gt) :=
 ⟨PS.weak (ps_asg he.out hg.out hs hw h1) (tAsg_of (fun _ _ _ h => h) fun _ _ _ _ h => h)⟩
theorem qs_for (hp : PassesOwn (model X.prog X.w) X.A X.env X.xe) (hc : X.calm = true) (hi : QI X cl ex tg it fr) (hg : QG X cl ex tg gt) (hb : QSs X cl ex sts f)
  (hs : autoParam (∀ x, foldedSetIterable it X.env x = pure x) AutoP.a2._auto_1) : QS X cl ex (.For tg it sts [] pos) (sFor fr gt f) :=
 ⟨PS.weak (ps_for hp hc hi.out hg.out hb.out hs) fun D σ H hh => ex3 hh fun α ρ m W hr h => ⟨α, ρ, m, W, hr, PQ.mono (Ext.refl W) h.bind fun ds α1 m1 H1 E1 W1 q J hJ => by
  refine ⟨fun i n σ2 H2 => n = ds.length - i /\ i <= ds.length /\ ∃ α2 m2 ρ2, Ext α1 H1 α2 H2 /\ Wd X.K cl α2 m2 H2 /\ RepE X.K α2 H2 ρ2 σ2 /\ PQ X.K cl ex (loopF gt f (ds.drop i) ρ2 m2) α2 H2 fun fl α' _ H' => EndsOk X.K D fl α' H',
   ⟨ds.length, by simp, Nat.zero_le _, α1, m1, ρ, Ext.refl W1, W1, hr.mono W E1, q⟩, ?_⟩
  rintro i n σ2 H2 ⟨rfl, hi, α2, m2, ρ2, E2, W2, hr2, q2⟩
  obtain ⟨go, stop⟩ := hJ i α2 m2 H2 E2 W2
  by_cases hlt : i < ds.length
  ·have hd : ds[i]? = some ds[i] := by simp [hlt]
   obtain ⟨g1, g2⟩ := go _ hd
   rw [List.drop_eq_getElem_cons hlt, loopF] at q2
   refine .inr ⟨g1, fun σ3 H3 => ∃ α3 m3 ρ3, Ext α1 H1 α3 H3 /\ Wd X.K cl α3 m3 H3 /\ RepE X.K α3 H3 ρ3 σ3 /\ PQ X.K cl ex (loopF gt f (ds.drop (i + 1)) ρ3 m3) α3 H3 fun fl α' _ H' => EndsOk X.K D fl α' H',
    fun σ3 H3 ⟨α3, m3, ρ3, E3, W3, hr3, q3⟩ => ⟨ds.length - (i + 1), by omega, rfl, hlt, α3, m3, ρ3, E3, W3, hr3, q3⟩, fun x H3 y => ?_⟩
   obtain ⟨sm, rx⟩ := g2 x H3 y
   have Es := Ext.of_same W2 sm
   have W3 := W2.same sm
   refine ⟨α2, ρ2, m2, ds[i], W3, hr2.mono W2 Es, rx, PQ.mono Es q2.bind fun ρ4 α4 m4 H4 E4 W4 q4 σ4 hr4 => ?_⟩
   have E04 := E2.trans (Es.trans E4)
   refine ⟨α4, ρ4, m4, W4, hr4, PQ.mono (Ext.refl W4) q4.bind fun fl α5 m5 H5 E5 W5 q5 => ?_⟩
   cases fl with
   | nx ρ5 => exact fun σ5 hr5 => ⟨α5, m5, ρ5, E04.trans E5, W5, hr5, q5⟩
   | ct ρ5 => exact fun σ5 hr5 => ⟨α5, m5, ρ5, E04.trans E5, W5, hr5, q5⟩
   | bk ρ5 => exact PQ.ok W5 q5
   | rt d => exact PQ.ok W5 q5
  ·have e : i = ds.length := by omega
   subst e
   rw [List.drop_of_length_le (Nat.le_refl _), loopF] at q2
   exact .inl ⟨stop rfl, PQ.ok W2 q2 σ2 hr2⟩⟩⟩
theorem qs_while {n : Nat} (hp : PassesOwn (model X.prog X.w) X.A X.env X.xe) (hc : QT X cl ex c ta) (hb : QSs X cl ex sts f) : QS X cl ex (.While c sts [] pos) (sWhile n ta f) :=
 ⟨PS.weak (ps_while hp hc.out hb.out) fun D σ H hh => ex3 hh fun α ρ m W hr h => by
  refine ⟨fun k σ2 H2 => ∃ α2 m2 ρ2, Wd X.K cl α2 m2 H2 /\ RepE X.K α2 H2 ρ2 σ2 /\ PQ X.K cl ex (loopW ta f k ρ2 m2) α2 H2 fun fl α' _ H' => EndsOk X.K D fl α' H', ⟨n, α, m, ρ, W, hr, h⟩, ?_⟩
  rintro k σ2 H2 ⟨α2, m2, ρ2, W2, hr2, q2⟩
  cases k with
  | zero => exact q2.elim
  | succ k =>
   rw [loopW] at q2
   refine tDT.use W2 hr2 q2 fun α3 m3 H3 b E3 W3 hr3 q3 => ?_
   cases b with
   | false => exact PQ.ok W3 q3 σ2 hr3
   | true =>
    refine ⟨fun σ4 H4 => ∃ α4 m4 ρ4, Wd X.K cl α4 m4 H4 /\ RepE X.K α4 H4 ρ4 σ4 /\ PQ X.K cl ex (loopW ta f k ρ4 m4) α4 H4 fun fl α' _ H' => EndsOk X.K D fl α' H', fun σ4 H4 q4 => ⟨k, Nat.lt_succ_self _, q4⟩, ?_⟩
    refine ⟨α3, ρ2, m3, W3, hr3, PQ.mono (Ext.refl W3) q3.bind fun fl α5 m5 H5 E5 W5 q5 => ?_⟩
    cases fl with
    | nx ρ5 => exact fun σ5 hr5 => ⟨α5, m5, ρ5, W5, hr5, q5⟩
    | ct ρ5 => exact fun σ5 hr5 => ⟨α5, m5, ρ5, W5, hr5, q5⟩
    | bk ρ5 => exact PQ.ok W5 q5
    | rt d => exact PQ.ok W5 q5⟩
end
end MD
namespace L2
open PySem PySem.Spec PyProof.Rows
end L2
set_option autoImplicit false
namespace MD
open PySem PySem.Spec PyProof.Rows L2
theorem Res.bind_assoc {α β γ : Type} (r : Res α) (k : α -> Sto -> Res β) (l : β -> Sto -> Res γ) : (r.bind k).bind l = r.bind fun a m => (k a m).bind l := by
 cases r <;> rfl
theorem Res.bind_ok' {α : Type} (r : Res α) : (r.bind fun a m => .ok a m) = r := by cases r <;> rfl
theorem RepL.append {K : PySem.W.Frag} {α : List Addr} {H : Hp} : ∀ {ds es : List D} {vs ws : List V}, RepL K α H ds vs -> RepL K α H es ws -> RepL K α H (ds ++ es) (vs ++ ws)
 | [], _, _, _, h1, h2 => by rw [RepL] at h1; subst h1; exact h2
 | _ :: _, _, _, _, h1, h2 => by
  rw [RepL] at h1
  obtain ⟨v, r, rfl, a, b⟩ := h1
  rw [List.cons_append, RepL]
  exact ⟨v, r ++ _, rfl, a, RepL.append b h2⟩
theorem RepL.one {K : PySem.W.Frag} {α : List Addr} {H : Hp} {d : D} {v : V} (h : Rep K α H d v) : RepL K α H [d] [v] := by
 rw [RepL]
 exact ⟨v, [], rfl, h, by rw [RepL]⟩
theorem RepL.get {K : PySem.W.Frag} {α : List Addr} {H : Hp} : ∀ {ds : List D} {vs : List V} {i : Nat} {d : D}, RepL K α H ds vs -> ds[i]? = some d -> ∃ v, vs[i]? = some v /\ Rep K α H d v
 | [], _, _, _, _, e => by simp at e
 | _ :: _, _, 0, _, h, e => by
  rw [RepL] at h
  obtain ⟨v, r, rfl, a, b⟩ := h
  simp at e
  subst e
  exact ⟨v, rfl, a⟩
 | _ :: _, _, i + 1, d, h, e => by
  rw [RepL] at h
  obtain ⟨v, r, rfl, a, b⟩ := h
  obtain ⟨w, h1, h2⟩ := RepL.get (i := i) (d := d) b (by simpa using e)
  exact ⟨w, by simpa using h1, h2⟩
section
variable {K : PySem.W.Frag} {cl : Str -> Addr} {ex : XD} {gt : GV} {ta : TV} {fa : EV} {fr : AV}
theorem tComp_of {n : Nat} {fin : List V -> Hp -> Prop} {σ : L2.St} {H : Hp} (h : ∃ α ρ m, Wd K cl α m H /\ RepE K α H ρ σ /\ PQ K cl ex (aComp n fr gt ta fa ρ m) α H fun ds α' _ H' => ∀ vs, RepL K α' H' ds vs -> fin vs H') :
  tComp n (tDI K cl ex fr) (tDG K cl ex gt) (tDT K cl ex ta) (tD K cl ex fa) fin σ H := by
 obtain ⟨α, ρ, m, W, hr, h⟩ := h
 refine ⟨α, ρ, m, W, hr, PQ.mono (Ext.refl W) h.bind fun ds α1 m1 H1 E1 W1 q J hJ => ?_⟩
 obtain ⟨hk, q⟩ := PQ.if q
 have hr1 := hr.mono W E1
 refine comp_by (k := ds.length) (fun i ys H2 => ∃ α2 m2 done, Ext α1 H1 α2 H2 /\ Wd K cl α2 m2 H2 /\ RepL K α2 H2 done ys /\ done.length <= i /\ PQ K cl ex ((compM gt ta fa (ρ ++ List.replicate n none) (ds.drop i) m2).bind fun xs m4 => .ok (done ++ xs) m4) α2 H2 fun ds α' _ H' => ∀ vs, RepL K α' H' ds vs -> fin vs H') hk ?_ ?_ ?_ ?_
 ·refine ⟨α1, m1, [], Ext.refl W1, W1, by rw [RepL], Nat.le_refl _, ?_⟩
  simp only [List.nil_append, List.drop_zero, Res.bind_ok']
  exact q
 ·rintro i ys H2 ⟨_, _, done, _, _, r, l, _⟩
  rw [<- r.length]
  exact l
 ·rintro i ys H2 hi ⟨α2, m2, done, E2, W2, r2, l2, q2⟩
  have hd : ds[i]? = some ds[i] := by simp [hi]
  obtain ⟨g1, g2⟩ := (hJ i α2 m2 H2 E2 W2).1 _ hd
  refine ⟨g1, fun x H3 y => ?_⟩
  obtain ⟨sm, rx⟩ := g2 x H3 y
  have Es := Ext.of_same W2 sm
  have W3 := W2.same sm
  rw [List.drop_eq_getElem_cons hi, compM, Res.bind_assoc] at q2
  have E23 := E2.trans Es
  refine ⟨α2, ρ ++ List.replicate n none, m2, ds[i], W3, (hr1.mono W1 E23).more n, rx, PQ.mono Es q2.bind fun ρ4 α4 m4 H4 E4 W4 q4 σ4 hr4 => ?_⟩
  rw [Res.bind_assoc] at q4
  refine tDT.use W4 hr4 q4 fun α5 m5 H5 b E5 W5 hr5 q5 => ?_
  have E45 := E4.trans E5
  cases b with
  | false => exact ⟨α5, m5, done, E23.trans E45, W5, (r2.mono W2 Es).mono W3 E45, Nat.le_succ_of_le l2, q5⟩
  | true =>
   have q5' : PQ K cl ex (((fa ρ4 m5).bind fun x m3 => (compM gt ta fa (ρ ++ List.replicate n none) (ds.drop (i + 1)) m3).bind fun xs m4 => .ok (x :: xs) m4).bind fun xs m4 => .ok (done ++ xs) m4) α5 H5 fun ds α' _ H' => ∀ vs, RepL K α' H' ds vs -> fin vs H' := q5
   rw [Res.bind_assoc] at q5'
   refine tD.use W5 hr5 q5' fun α6 m6 H6 d v E6 W6 hr6 rv q6 => ?_
   rw [Res.bind_assoc] at q6
   refine ⟨α6, m6, done ++ [d], E23.trans (E45.trans E6), W6, RepL.append (((r2.mono W2 Es).mono W3 E45).mono W5 E6) (RepL.one rv), by rw [List.length_append]; show done.length + 1 <= i + 1; omega, ?_⟩
   simp only [List.append_assoc, List.singleton_append]
   exact q6
 ·rintro ys H2 ⟨α2, m2, done, E2, W2, r2, l2, q2⟩
  rw [List.drop_of_length_le (Nat.le_refl _), compM] at q2
  refine ⟨(hJ ds.length α2 m2 H2 E2 W2).2 rfl, ?_⟩
  have q3 : PQ K cl ex (.ok (done ++ []) m2) α2 H2 fun ds α' _ H' => ∀ vs, RepL K α' H' ds vs -> fin vs H' := q2
  rw [List.append_nil] at q3
  exact PQ.ok W2 q3 ys r2
end
def gL1 (ds : List D) (m : Sto) : Res D := .ok (.lst ds) m
def signs (z : Str) : List D := (List.range z.cps.size).map fun i => .str ⟨#[z.cps.getD i 0]⟩
def asSeq (d : D) (m : Sto) : Res (List D) := match d with
 | .tup ds => .ok ds m
 | .lst ds => .ok ds m
 | .str z => .ok (signs z) m
 | .scr ds => .ok ds m
 | _ => .bad
def aIt (fa : EV) : AV := fun ρ m => (fa ρ m).bind asSeq
def intsD (lo : Int) (n : Nat) : List D := (List.range n).map fun i => .int (lo + (i : Nat))
def rng1R (ds : List D) (m : Sto) : Res (List D) := match ds with
 | [.int j] => if -(2 ^ 62) <= j /\ j < 2 ^ 62 then .ok (intsD 0 j.toNat) m else .bad
 | _ => .bad
theorem rng1_ex : ∃ f : List D -> Sto -> Res (List D), f = rng1R := ⟨_, rfl⟩
def rng1 : List D -> Sto -> Res (List D) := Classical.choose rng1_ex
theorem rng1_eq : rng1 = rng1R := Classical.choose_spec rng1_ex
def aRng (g : List D -> Sto -> Res (List D)) (fr : AV) : AV := fun ρ m => (fr ρ m).bind g
def enumD (i : Nat) : List D -> List D
 | [] => []
 | d :: r => .tup [.int i, d] :: enumD (i + 1) r
def asSq2 (d : D) (m : Sto) : Res (List D) := match d with
 | .tup ds => .ok ds m
 | .lst ds => .ok ds m
 | _ => .bad
def aEnum (fa : EV) : AV := fun ρ m => (fa ρ m).bind fun d m1 => (asSq2 d m1).bind fun ds m2 => .ok (enumD 0 ds) m2
def zipD : List D -> List D -> List D
 | x :: xs, y :: ys => .tup [x, y] :: zipD xs ys
 | _, _ => []
def zipD3 : List D -> List D -> List D -> List D
 | x :: xs, y :: ys, z :: zs => .tup [x, y, z] :: zipD3 xs ys zs
 | _, _, _ => []
def zip2 (x y : D) (m : Sto) : Res (List D) := match x, y with
 | .tup xs, .tup ys => if xs.length <= ys.length then .ok (zipD xs ys) m else .bad
 | .tup xs, .lst ys => if xs.length <= ys.length then .ok (zipD xs ys) m else .bad
 | _, _ => .bad
def aZip (fa fb : EV) : AV := fun ρ m => (fa ρ m).bind fun x m1 => (fb ρ m1).bind fun y m2 => zip2 x y m2
def zip3 (x y z : D) (m : Sto) : Res (List D) := match x, y, z with
 | .tup xs, .tup ys, .tup zs => if xs.length <= ys.length /\ xs.length <= zs.length then .ok (zipD3 xs ys zs) m else .bad
 | _, _, _ => .bad
def aZip3 (fa fb fc : EV) : AV := fun ρ m => (fa ρ m).bind fun x m1 => (fb ρ m1).bind fun y m2 => (fc ρ m2).bind fun z m3 => zip3 x y z m3
section
variable {X : Cx} {N0 : List Str} {cl : Str -> Addr} {ex : XD} {a b c e tg it : Expr} {es ifs : List Expr} {fa fb fc : EV} {ta tb : TV} {fr : AV} {pos p : Pos} {gt : GV} {scope : Scope} {xs : List Str} {clo : List (Str × Addr)}
theorem qe_comp (hc : X.calm = true) (hx : X.xe = fun _ _ => False) (S : CompOk X N0 scope xs clo) (hi : QI X cl ex tg it fr)
  (hg : ∀ C s H fp, QG (X.comp N0 scope xs clo C s H fp) cl ex tg gt) (hf : ∀ C s H fp, PIf (X.comp N0 scope xs clo C s H fp) ifs (tDT X.K cl ex ta)) (he : ∀ C s H fp, QE (X.comp N0 scope xs clo C s H fp) cl ex e fa)
  (hs : autoParam (∀ x, foldedSetIterable it X.env x = pure x) AutoP.a2._auto_1) : QE X cl ex (.ListComp e [⟨tg, it, ifs, 0⟩] scope pos) (eFn gL1 (aComp xs.length fr gt ta fa)) :=
 ⟨PE.weak (pe_comp (g := tDG X.K cl ex gt) (tf := tDT X.K cl ex ta) (te := tD X.K cl ex fa) hc hx S hi.out (fun C s H fp => (hg C s H fp).out) hf (fun C s H fp => (he C s H fp).out) hs) fun σ H Q hh => ex3 hh fun α ρ m W hr h => tComp_of ⟨α, ρ, m, W, hr, PQ.mono (Ext.refl W) h.bind fun ds α1 m1 H1 E1 W1 q vs rv p hp => PQ.okS W1 (Same.new hp) q _ (rep_lst W1 hp rv)⟩⟩
theorem qs_setC {i : Nat} {y : Str} {py spos : Pos} (hc : X.calm = true) (hx : X.xe = fun _ _ => False) (hN : X.N.Nodup) (hy : X.N[i]? = some y) (hl : X.env.scope.names.lookup y = some .local) (S : CompOk X N0 scope xs clo) (hi : QI X cl ex tg it fr)
  (hg : ∀ C s H fp, QG (X.comp N0 scope xs clo C s H fp) cl ex tg gt) (hf : ∀ C s H fp, PIf (X.comp N0 scope xs clo C s H fp) ifs (tDT X.K cl ex ta)) (he : ∀ C s H fp, QE (X.comp N0 scope xs clo C s H fp) cl ex e fa)
  (hsw : autoParam (swapsWith (.ListComp e [⟨tg, it, ifs, 0⟩] scope pos) (some (.Name y py)) spos.line X.env = pure true) AutoP.a4._auto_1)
  (hs : autoParam (∀ x, foldedSetIterable it X.env x = pure x) AutoP.a2._auto_1) : QS X cl ex (.Assign [.Name y py] (.ListComp e [⟨tg, it, ifs, 0⟩] scope pos) spos) (sAsg (eFn gL1 (aComp xs.length fr gt ta fa)) (gN i)) :=
 ⟨PS.weak (ps_setC (g := tDG X.K cl ex gt) (tf := tDT X.K cl ex ta) (te := tD X.K cl ex fa) hc hx hN hy hl S hi.out (fun C s H fp => (hg C s H fp).out) hf (fun C s H fp => (he C s H fp).out) hsw hs) fun D σ H hh => ex3 hh fun α ρ m W hr h => tComp_of ⟨α, ρ, m, W, hr, by
  have h2 : PQ X.K cl ex (((aComp xs.length fr gt ta fa ρ m).bind gL1).bind fun d m1 => (gN i d ρ m1).bind fun ρ1 m2 => .ok (.nx ρ1) m2) α H fun fl α' _ H' => EndsOk X.K D fl α' H' := h
  rw [Res.bind_assoc] at h2
  exact PQ.mono (Ext.refl W) h2.bind fun ds α1 m1 H1 E1 W1 q vs rv p hp => PQ.okS W1 (Same.new hp) (show PQ X.K cl ex (.ok (.nx (ρ.set i (some (.lst ds)))) m1) α1 H1 fun fl α' _ H' => EndsOk X.K D fl α' H' from q) _ (((hr.mono W E1).mono W1 (Ext.of_same W1 (Same.new hp))).set (rep_lst W1 hp rv))⟩⟩
theorem qif_nil : PIf X [] (tDT X.K cl ex tYesM) := fun pins s σ H Q I hh => ex3 hh fun α ρ m W hr h => pif_nil pins s σ H Q I (PQ.ok W h)
theorem qif_one (hq : QT X cl ex c ta) : PIf X [c] (tDT X.K cl ex ta) := pif_one hq.out
theorem PI.or {t t' : TI} (h : PI X tg it t) (h' : PI X tg it t') : PI X tg it fun σ H R => t σ H R ∨ t' σ H R := fun pins s σ H R I q => q.elim (h pins s σ H R I) (h' pins s σ H R I)
end
section
variable {K : PySem.W.Frag} {cl : Str -> Addr} {ex : XD} {α α' : List Addr} {m m1 : Sto} {H H' : Hp} {ρ : En} {σ : L2.St}
theorem tD.at {f : EV} {d : D} {Q : VK} (W : Wd K cl α m H) (hr : RepE K α H ρ σ) (hf : f ρ m = .ok d m1) (hQ : ∀ α1 H1 v, Ext α H α1 H1 -> Wd K cl α1 m1 H1 -> RepE K α1 H1 ρ σ -> Rep K α1 H1 d v -> Q v H1) : tD K cl ex f σ H Q :=
 ⟨α, ρ, m, W, hr, by rw [hf]; exact fun α1 H1 E1 W1 v rv => hQ α1 H1 v E1 W1 (hr.mono W E1) rv⟩
theorem tDA.at {f : AV} {d : List D} {Q : List V -> Hp -> Prop} (W : Wd K cl α m H) (hr : RepE K α H ρ σ) (hf : f ρ m = .ok d m1) (hQ : ∀ α1 H1 v, Ext α H α1 H1 -> Wd K cl α1 m1 H1 -> RepE K α1 H1 ρ σ -> RepL K α1 H1 d v -> Q v H1) : tDA K cl ex f σ H Q :=
 ⟨α, ρ, m, W, hr, by rw [hf]; exact fun α1 H1 E1 W1 v rv => hQ α1 H1 v E1 W1 (hr.mono W E1) rv⟩
theorem tD.exc {f : EV} {τ : Type} {c : Exc} {k : D -> Sto -> Res τ} {R : RD τ} {Q : VK} (W : Wd K cl α m H) (hr : RepE K α H ρ σ) (hf : f ρ m = .exc c m1) (q : PQ K cl ex ((f ρ m).bind k) α H R) : tD K cl ex f σ H Q :=
 ⟨α, ρ, m, W, hr, by rw [hf] at q ⊢; exact q⟩
theorem tDA.exc {f : AV} {τ : Type} {c : Exc} {k : List D -> Sto -> Res τ} {R : RD τ} {Q : List V -> Hp -> Prop} (W : Wd K cl α m H) (hr : RepE K α H ρ σ) (hf : f ρ m = .exc c m1) (q : PQ K cl ex ((f ρ m).bind k) α H R) : tDA K cl ex f σ H Q :=
 ⟨α, ρ, m, W, hr, by rw [hf] at q ⊢; exact q⟩
theorem itd_l {l : Addr} {ds : List D} {vs : List V} (W : Wd K cl α m H) (n : l ∉ α) (h : Rd H l (.lst vs)) (r : RepL K α H ds vs) : ItD K cl α H (Itl K l) ds := fun i α1 m1 H1 E1 W1 => by
 have sq : SqL K H1 l vs := .inl (E1.rd h n)
 refine ⟨fun d e => ?_, fun e => ⟨vs, sq, by rw [e, r.length]; exact Nat.le_refl _⟩⟩
 obtain ⟨v, h1, h2⟩ := (r.mono W E1).get e
 refine ⟨⟨vs, v, sq, h1⟩, fun x H2 y => ?_⟩
 obtain ⟨rfl, y⟩ := y
 have := y vs sq
 rw [h1] at this
 cases this
 exact ⟨Same.refl _, h2⟩
theorem itd_s {l : Addr} {ds : List D} {vs : List V} (W : Wd K cl α m H) (h : LstAt K α H l vs) (r : RepL K α H ds vs) : ItD K cl α H (Itl K l) ds := fun i α1 m1 H1 E1 W1 => by
 have sq : SqL K H1 l vs := ((E1.kp W).lstAt h).sq
 refine ⟨fun d e => ?_, fun e => ⟨vs, sq, by rw [e, r.length]; exact Nat.le_refl _⟩⟩
 obtain ⟨v, h1, h2⟩ := (r.mono W E1).get e
 refine ⟨⟨vs, v, sq, h1⟩, fun x H2 y => ?_⟩
 obtain ⟨rfl, y⟩ := y
 have := y vs sq
 rw [h1] at this
 cases this
 exact ⟨Same.refl _, h2⟩
theorem itd_t {l : Addr} {ds : List D} {vs : List V} (W : Wd K cl α m H) (h : SqT K H l vs) (r : RepL K α H ds vs) : ItD K cl α H (Itt K l) ds := fun i α1 m1 H1 E1 W1 => by
 have sq : SqT K H1 l vs := E1.sqt W h
 refine ⟨fun d e => ?_, fun e => ⟨vs, sq, by rw [e, r.length]; exact Nat.le_refl _⟩⟩
 obtain ⟨v, h1, h2⟩ := (r.mono W E1).get e
 refine ⟨⟨vs, v, sq, h1⟩, fun x H2 y => ?_⟩
 obtain ⟨rfl, y⟩ := y
 have := y vs sq
 rw [h1] at this
 cases this
 exact ⟨Same.refl _, h2⟩
theorem itd_f {f : Nat -> V} {g : Nat -> D} {n : Nat} (hg : ∀ i α H, Rep K α H (g i) (f i)) : ItD K cl α H (Itf f n) ((List.range n).map g) := fun i α1 m1 H1 E1 W1 => by
 refine ⟨fun d e => ?_, fun e => by rw [List.length_map, List.length_range] at e; exact e⟩
 obtain ⟨hi, e⟩ := List.getElem?_eq_some_iff.mp e
 rw [List.length_map, List.length_range] at hi
 simp only [List.getElem_map, List.getElem_range] at e
 subst e
 refine ⟨hi, fun x H2 y => ?_⟩
 obtain ⟨rfl, rfl⟩ := y
 exact ⟨Same.refl _, hg _ _ _⟩
theorem itd_r {lo : Int} {n : Nat} : ItD K cl α H (Itr lo n) (intsD lo n) := fun i α1 m1 H1 E1 W1 => by
 unfold intsD
 refine ⟨fun d e => ?_, fun e => by rw [List.length_map, List.length_range] at e; exact Nat.le_of_eq e.symm⟩
 obtain ⟨hi, e⟩ := List.getElem?_eq_some_iff.mp e
 rw [List.length_map, List.length_range] at hi
 simp only [List.getElem_map, List.getElem_range] at e
 subst e
 refine ⟨hi, fun x H2 y => ?_⟩
 obtain ⟨rfl, rfl⟩ := y
 exact ⟨Same.refl _, by rw [Rep]⟩
theorem rep_new_tup {T : Addr} {ds : List D} {vs : List V} (W : Wd K cl α m H) (hT : H T = none) (r : RepL K α H ds vs) : Rep K α (upd H T (.tup vs)) (.tup ds) (.ref T) := by
 rw [Rep]
 exact ⟨T, vs, rfl, .inl upd_same, r.mono W (Ext.of_same W (Same.new hT))⟩
end
section
variable {X : Cx} {cl : Str -> Addr} {ex : XD} {a b c e tg it : Expr} {es ifs : List Expr} {fa fb fc : EV} {ta tb : TV} {fr : AV} {pos p : Pos} {gt : GV}
theorem qi_seq (hq : QE X cl ex e fa) : QI X cl ex tg e (aIt fa) :=
 ⟨PI.weak (PI.or (pi_list hq.out) (PI.or (pi_tup hq.out) (pi_txt hq.out))) fun σ H R hh => ex3 hh fun α ρ m W hr q => by
  unfold aIt at q
  cases hf : fa ρ m with
  | bad => rw [hf] at q; exact q.elim
  | exc c m1 => exact .inl (tD.exc W hr hf q)
  | ok d m1 =>
   rw [hf] at q
   cases d with
   | lst ds =>
    refine .inl (tD.at W hr hf fun α1 H1 v E1 W1 hr1 rv => ?_)
    rw [Rep] at rv
    obtain ⟨l, vs, rfl, n, h1, h2⟩ := rv
    exact ⟨l, rfl, ⟨vs, .inl h1⟩, q α1 H1 E1 W1 _ (itd_l W1 n h1 h2)⟩
   | tup ds =>
    refine .inr (.inl (tD.at W hr hf fun α1 H1 v E1 W1 hr1 rv => ?_))
    rw [Rep] at rv
    obtain ⟨l, vs, rfl, h1, h2⟩ := rv
    exact ⟨l, rfl, ⟨vs, h1.sq⟩, q α1 H1 E1 W1 _ (itd_t W1 h1.sq h2)⟩
   | str z =>
    refine .inr (.inr (tD.at W hr hf fun α1 H1 v E1 W1 hr1 rv => ?_))
    rw [Rep] at rv
    exact ⟨z, rv, q α1 H1 E1 W1 _ (itd_f fun i α H => by rw [Rep]; rfl)⟩
   | scr ds =>
    refine .inl (tD.at W hr hf fun α1 H1 v E1 W1 hr1 rv => ?_)
    rw [Rep] at rv
    obtain ⟨l, vs, rfl, h1, h2⟩ := rv
    exact ⟨l, rfl, ⟨vs, h1.sq⟩, q α1 H1 E1 W1 _ (itd_s W1 h1 h2)⟩
   | _ => exact q.elim⟩
theorem qi_rng1 (hg : Gl X "range") (hm : X.mg "range" = none) (ha : QA X cl ex [a] fr) (hs : autoParam (starEach [a] X.env = [(false, eval a X.env)]) AutoP.a3._auto_1) : QI X cl ex tg (.Call (.Name "range" p) [a] [] pos) (aRng rng1 fr) :=
 ⟨PI.weak (pi_range1 hg hm ha.out hs) fun σ H R hh => ex3 hh fun α ρ m W hr q => tDA.use W hr q fun α1 m1 H1 d v E1 W1 hr1 rv q1 => by
  rw [rng1_eq] at q1; unfold rng1R at q1
  split at q1
  ·obtain ⟨h1, h2⟩ := PQ.if q1
   rw [RepL] at rv
   obtain ⟨v, r, rfl, a1, a2⟩ := rv
   rw [Rep] at a1
   rw [RepL] at a2
   subst a1 a2
   exact ⟨_, rfl, h1.1, h1.2, PQ.ok W1 h2 _ itd_r⟩
  ·exact q1.elim⟩
variable {elts : List Expr} {kt : Nat} {pt : Pos}
end
def finF (fl : Fl) (m : Sto) : Res D := match fl with
 | .nx _ => .ok .non m
 | .rt d => .ok d m
 | _ => .bad
def runF (n : Nat) (body : SV) : List D -> Sto -> Res D := fun ds m => (body (ds.map some ++ List.replicate (n - ds.length) none) m).bind finF
def spD (K : PySem.W.Frag) (cl : Str -> Addr) (ex : XD) (n : Nat) (g : List D -> Sto -> Res D) : Sp := fun vs H Q _ => vs.length = n /\ ∃ α m ds, Wd K cl α m H /\ RepL K α H ds vs /\ PQ K cl ex (g ds m) α H fun d α' _ H' => ∀ v, Rep K α' H' d v -> Q v H'
theorem repE_start {K : PySem.W.Frag} {α : List Addr} {H : Hp} {N : List Str} : ∀ {ds : List D} {vs : List V}, RepL K α H ds vs -> RepE K α H (ds.map some ++ List.replicate (N.length - ds.length) none) (L2.start N vs) := by
 intro ds vs r
 unfold L2.start
 rw [r.length]
 refine RepE.more ⟨by rw [List.length_map, List.length_map, r.length], fun i d e => ?_⟩ _
 rw [List.getElem?_map] at e
 cases h : ds[i]? with
 | none => rw [h] at e; cases e
 | some d' =>
  rw [h] at e
  cases e
  obtain ⟨v, h1, h2⟩ := r.get h
  exact ⟨v, by rw [List.getElem?_map, h1]; rfl, h2⟩
theorem fn_d {K : PySem.W.Frag} {cl : Str -> Addr} {ex : XD} {n : Nat} {N : List Str} {body : SV} {vs : List V} {H : Hp} {Q : VK} {E : XK} (h : spD K cl ex n (runF N.length body) vs H Q E) : tDS K cl ex body { nx := fun _ H' => Q .non H', rt := Q } (L2.start N vs) H := by
 obtain ⟨_, α, m, ds, W, r, q⟩ := h
 refine ⟨α, _, m, W, repE_start r, PQ.mono (Ext.refl W) q.bind fun fl α1 m1 H1 E1 W1 q1 => ?_⟩
 cases fl with
 | nx ρ => exact fun σ _ => PQ.ok W1 q1 _ (by rw [Rep])
 | rt d => exact PQ.ok W1 q1
 | bk ρ => exact q1.elim
 | ct ρ => exact q1.elim
def X0 : XD := fun _ _ _ _ => False
theorem qe_call {X : Cx} {cl : Str -> Addr} {e : Expr} {es : List Expr} {fr : AV} {p pos : Pos} {x : Str} {k n : Nat} {f : Addr} {fd : FuncData} {ps : List Str} {g : List D -> Sto -> Res D} (F : FnOk X.prog X.w X.K X.mg X.base CX0 k f fd ps (spD X.K cl X0 n g)) (hn : n = (e :: es).length) (hr : Room k X.A) (hg : Gl X x) (hm : X.mg x = some (.ref f)) (hk : PySem.W.keepIn X.K (.ref f) = true) (hb : Binds X.K fd ps [])
  (ha : QA X cl X0 (e :: es) fr) (hlen : ∀ ρ m ds m1, fr ρ m = .ok ds m1 -> ds.length = (e :: es).length) (hdb : autoParam ((x == ("__debug__" : Str)) = false) AutoP.a1._auto_1) (he : autoParam (starEach (e :: es) X.env = (false, eval e X.env) :: starEach es X.env) AutoP.a3._auto_1) (hpl : autoParam ((backTo pos (starEach es X.env)).any (·.1) = false) AutoP.a3._auto_1) :
  QE X cl X0 (.Call (.Name x p) (e :: es) [] pos) (eFn g fr) :=
 ⟨PE.weak (pe_call (E := E0) F hr hg hm hk hb .nil pass0 ha.out hdb he hpl) fun σ H Q hh => ex3 hh fun α ρ m W hr h => by
  unfold eFn at h
  cases hf : fr ρ m with
  | bad => rw [hf] at h; exact h.elim
  | exc c m1 => exact tDA.exc W hr hf h
  | ok ds m1 =>
   rw [hf] at h
   refine tDA.at W hr hf fun α1 H1 v E1 W1 hr1 rv => ?_
   refine ⟨?_, α1, m1, ds, W1, by rw [List.append_nil]; exact rv, PQ.mono E1 h fun _ _ _ _ _ _ z => z⟩
   rw [List.append_nil, <- rv.length, hlen ρ m ds m1 hf, hn]⟩
theorem aNil_len : ∀ ρ m ds m1, aNil ρ m = .ok ds m1 -> ds.length = ([] : List Expr).length := fun ρ m ds m1 h => by cases h; rfl
theorem aCons_len {fa : EV} {fr : AV} {e : Expr} {es : List Expr} (h : ∀ ρ m ds m1, fr ρ m = .ok ds m1 -> ds.length = es.length) : ∀ ρ m ds m1, aCons fa fr ρ m = .ok ds m1 -> ds.length = (e :: es).length := fun ρ m ds m1 q => by
 unfold aCons at q
 cases hf : fa ρ m with
 | ok x m2 =>
  rw [hf] at q
  have q : ((fr ρ m2).bind fun xs m3 => Res.ok (x :: xs) m3) = .ok ds m1 := q
  cases hr : fr ρ m2 with
  | ok xs m3 => rw [hr] at q; cases q; rw [List.length_cons, List.length_cons, h ρ m2 xs _ hr]
  | _ => rw [hr] at q; cases q
 | _ => rw [hf] at q; cases q
end MD
set_option autoImplicit false
namespace L2
open PySem PySem.Spec PyProof.Rows
section
variable {X : Cx}
def rCatQ (K : PySem.W.Frag) : R2 := fun x y H Q => ∃ a b xs ys, x = .ref a /\ y = .ref b /\ MD.TupAt K H a xs /\ MD.TupAt K H b ys /\ xs.length + ys.length <= sizeLine /\ ∀ r H', MD.TupAt K H' r (xs ++ ys) -> Same H H' -> Q (.ref r) H'
end
end L2
namespace MD
open PySem PySem.Spec PyProof.Rows L2
def addD (x y : D) (m : Sto) : Res D := match x, y with
 | .int i, .int j => .ok (.int (i + j)) m
 | .str a, .str b => if a.length + b.length <= sizeLine then .ok (.str (a ++ b)) m else .bad
 | .tup a, .tup b => if a.length + b.length <= sizeLine then .ok (.tup (a ++ b)) m else .bad
 | .lst a, .lst b => if a.length + b.length <= sizeLine then .ok (.lst (a ++ b)) m else .bad
 | _, _ => .bad
def subD (x y : D) (m : Sto) : Res D := match x, y with
 | .int i, .int j => .ok (.int (i - j)) m
 | _, _ => .bad
def mulR (x y : D) (m : Sto) : Res D := match x, y with
 | .int i, .int j => if (-(2 ^ 64) < i /\ i < 2 ^ 64) ∨ (-(2 ^ 64) < j /\ j < 2 ^ 64) then .ok (.int (i * j)) m else .bad
 | .str z, .int n => if 0 <= n /\ n <= 1000 /\ z.length <= 1000 then .ok (.str (Txt.mul z n)) m else .bad
 | .tup [d], .int n => if 1 <= n /\ n <= 1000 then .ok (.tup (List.replicate n.toNat d)) m else .bad
 | _, _ => .bad
theorem mulD_ex : ∃ f : D -> D -> Sto -> Res D, f = mulR := ⟨_, rfl⟩
def mulD : D -> D -> Sto -> Res D := Classical.choose mulD_ex
theorem mulD_eq : mulD = mulR := Classical.choose_spec mulD_ex
def fdivR (x y : D) (m : Sto) : Res D := match x, y with
 | .int i, .int j => if 0 < j /\ j < 2 ^ 64 then .ok (.int (i / j)) m else .bad
 | _, _ => .bad
theorem fdivD_ex : ∃ f : D -> D -> Sto -> Res D, f = fdivR := ⟨_, rfl⟩
def fdivD : D -> D -> Sto -> Res D := Classical.choose fdivD_ex
theorem fdivD_eq : fdivD = fdivR := Classical.choose_spec fdivD_ex
def modD (x y : D) (m : Sto) : Res D := match x, y with
 | .int i, .int j => if 0 < j then .ok (.int (i % j)) m else .bad
 | _, _ => .bad
def powR (x y : D) (m : Sto) : Res D := match x, y with
 | .int i, .int j => if 0 <= j /\ j <= 1000000 /\ i.natAbs < 2 ^ 64 then .ok (.int (i ^ j.toNat)) m else .bad
 | _, _ => .bad
theorem powD_ex : ∃ f : D -> D -> Sto -> Res D, f = powR := ⟨_, rfl⟩
def powD : D -> D -> Sto -> Res D := Classical.choose powD_ex
theorem powD_eq : powD = powR := Classical.choose_spec powD_ex
def shlR (x y : D) (m : Sto) : Res D := match x, y with
 | .int i, .int j => if 0 <= j /\ j <= 1000000 /\ i.natAbs < 2 ^ 64 then .ok (.int (i * 2 ^ j.toNat)) m else .bad
 | _, _ => .bad
theorem shlD_ex : ∃ f : D -> D -> Sto -> Res D, f = shlR := ⟨_, rfl⟩
def shlD : D -> D -> Sto -> Res D := Classical.choose shlD_ex
theorem shlD_eq : shlD = shlR := Classical.choose_spec shlD_ex
def negD (x : D) (m : Sto) : Res D := match x with
 | .int i => .ok (.int (-i)) m
 | _ => .bad
section
variable {X : Cx} {K : PySem.W.Frag} {cl : Str -> Addr} {ex : XD}
theorem repI {α : List Addr} {H : Hp} {i : Int} : Rep K α H (.int i) (.int i) := by rw [Rep]
theorem repS {α : List Addr} {H : Hp} {i : Str} : Rep K α H (.str i) (.str i) := by rw [Rep]
theorem repB {α : List Addr} {H : Hp} {i : Bool} : Rep K α H (.bl i) (.bl i) := by rw [Rep]
theorem od_sub : OpD K cl ex (rI0 fun i j => .int (i - j)) subD := fun α m H x y vx vy Q W rx ry h => by
 unfold subD at h
 split at h
 ·rw [Rep] at rx ry; exact ⟨_, _, rx, ry, PQ.ok W h _ repI⟩
 ·exact h.elim
theorem od_fdiv : OpD K cl ex (rI (fun _ j => 0 < j /\ j < 2 ^ 64) fun i j => .int (i / j)) fdivD := fun α m H x y vx vy Q W rx ry h => by
 rw [fdivD_eq] at h; unfold fdivR at h
 split at h
 ·rw [Rep] at rx ry; obtain ⟨hc, h⟩ := PQ.if h; exact ⟨_, _, rx, ry, hc, PQ.ok W h _ repI⟩
 ·exact h.elim
theorem od_mod : OpD K cl ex (rI (fun _ j => 0 < j) fun i j => .int (i % j)) modD := fun α m H x y vx vy Q W rx ry h => by
 unfold modD at h
 split at h
 ·rw [Rep] at rx ry; obtain ⟨hc, h⟩ := PQ.if h; exact ⟨_, _, rx, ry, hc, PQ.ok W h _ repI⟩
 ·exact h.elim
theorem od_pow : OpD K cl ex (rI CPow fun i j => .int (i ^ j.toNat)) powD := fun α m H x y vx vy Q W rx ry h => by
 rw [powD_eq] at h; unfold powR at h
 split at h
 ·rw [Rep] at rx ry; obtain ⟨hc, h⟩ := PQ.if h; exact ⟨_, _, rx, ry, hc, PQ.ok W h _ repI⟩
 ·exact h.elim
theorem od_shl : OpD K cl ex (rI CPow fun i j => .int (i * 2 ^ j.toNat)) shlD := fun α m H x y vx vy Q W rx ry h => by
 rw [shlD_eq] at h; unfold shlR at h
 split at h
 ·rw [Rep] at rx ry; obtain ⟨hc, h⟩ := PQ.if h; exact ⟨_, _, rx, ry, hc, PQ.ok W h _ repI⟩
 ·exact h.elim
theorem ud_neg : UnD K cl ex (rU fun i => .int (-i)) negD := fun α m H x vx Q W rx h => by
 unfold negD at h
 split at h
 ·rw [Rep] at rx; exact ⟨_, rx, PQ.ok W h _ repI⟩
 ·exact h.elim
theorem op_catQ : OpR X (binaryOp .Add) (rCatQ X.K) := by
 intro pins s σ H x y v u Q I rx ry h
 obtain ⟨a, b, xs, ys, rfl, rfl, ha, hb, hz, q⟩ := h
 by_cases hx : xs = []
 ·subst hx
  cases rx
  cases ry
  obtain ⟨its, r1, p1, _⟩ := I.tuple ha.sq
  obtain ⟨its2, r2, p2, _⟩ := I.tuple hb.sq
  cases r1
  obtain ⟨⟨cls, dd, data, sl⟩, ho, hc, n, hd⟩ := id p1
  obtain ⟨⟨cls2, dd2, data2, sl2⟩, ho2, hc2, n2, hd2⟩ := id p2
  simp only at hc hd hc2 hd2
  subst hc hd hc2 hd2
  exact concat_meets ⟨_, ho, rfl⟩ ⟨_, ho2, rfl⟩ noFill_tuple_add seq_tuple_add PySem.F.slot_tuple_add PySem.F.entry_tuple_add (PySem.F.args_tuple_add_2 _ _)
   (tuple_addW0 a b #[] its2.toArray n n2 dd dd2 sl sl2 rfl) ⟨ho, ho2, ⟨.ref b, H, I, rfl, q b H (by rw [List.nil_append]; exact hb) (L2.Same.refl H)⟩⟩
 ·refine op_catT pins s σ H (.ref a) (.ref b) v u Q I rx ry ⟨a, b, xs, ys, rfl, rfl, ha.sq, hb.sq, hx, hz, fun e => ?_, fun _ p hp => ?_⟩
  ·subst e
   exact q a H (by rw [List.append_nil]; exact ha) (L2.Same.refl H)
  ·exact q p _ (.inl upd_same) (MD.Same.new hp)
def rCatR : R2 := fun x y H Q => ∃ l b xs zs, x = .ref l /\ y = .ref b /\ Rd H l (.lst xs) /\ Rd H b (.lst zs) /\ xs.length + zs.length <= sizeLine /\ ∀ p, H p = none -> Q (.ref p) (upd H p (.lst (xs ++ zs)))
theorem op_catR : OpR X (binaryOp .Add) rCatR := by
 intro pins s σ H x y v u Q I rx ry h
 obtain ⟨l, b, xs, zs, rfl, rfl, hH, hB, hz, q⟩ := h
 cases rx
 cases ry
 obtain ⟨z, its, n, r, e⟩ := hH.ok I.hok
 obtain ⟨z2, its2, n2, r2, e2⟩ := hB.ok I.hok
 have hl := r.length
 have hl2 := r2.length
 refine PySem.P.add_list e e2 ?_ (by rw [List.size_toArray, List.size_toArray]; omega)
 have ea : its.toArray ++ its2.toArray = (its ++ its2).toArray := by simp
 rw [ea]
 exact ⟨.ref _, _, I.lnew (t' := s.toks) (r.append r2) (by rw [List.length_append]; omega), rfl, q _ I.fresh⟩
def rAddA (K : PySem.W.Frag) : R2 := fun x y H Q => (rI0 (fun i j => .int (i + j))) x y H Q ∨ (∃ i j, x = .str i /\ y = .str j /\ i.length + j.length <= sizeLine /\ Q (.str (i ++ j)) H) ∨ rCatQ K x y H Q ∨ rCatR x y H Q
theorem op_addA : OpR X (binaryOp .Add) (rAddA X.K) := OpR.or op_add (OpR.or op_add_str (OpR.or op_catQ op_catR))
theorem od_add : OpD K cl ex (rAddA K) addD := fun α m H x y vx vy Q W rx ry h => by
 unfold addD at h
 split at h
 ·rw [Rep] at rx ry; exact .inl ⟨_, _, rx, ry, PQ.ok W h _ repI⟩
 ·rw [Rep] at rx ry; obtain ⟨hc, h⟩ := PQ.if h; exact .inr (.inl ⟨_, _, rx, ry, hc, PQ.ok W h _ repS⟩)
 ·obtain ⟨hc, h⟩ := PQ.if h
  rw [Rep] at rx ry
  obtain ⟨a, xs, rfl, h1, r1⟩ := rx
  obtain ⟨b, ys, rfl, h2, r2⟩ := ry
  refine .inr (.inr (.inl ⟨a, b, xs, ys, rfl, rfl, h1, h2, by rw [<- r1.length, <- r2.length]; exact hc, fun r H' hr sm => ?_⟩))
  exact PQ.okS W sm h _ (by rw [Rep]; exact ⟨r, _, rfl, hr, (RepL.append r1 r2).mono W (Ext.of_same W sm)⟩)
 ·obtain ⟨hc, h⟩ := PQ.if h
  rw [Rep] at rx ry
  obtain ⟨a, xs, rfl, n1, h1, r1⟩ := rx
  obtain ⟨b, ys, rfl, n2, h2, r2⟩ := ry
  refine .inr (.inr (.inr ⟨a, b, xs, ys, rfl, rfl, h1, h2, by rw [<- r1.length, <- r2.length]; exact hc, fun p hp => ?_⟩))
  exact PQ.okS W (Same.new hp) h _ (rep_lst W hp (RepL.append r1 r2))
 ·exact h.elim
def rMulQ (K : PySem.W.Frag) : R2 := fun x y H Q => ∃ a v n, x = .ref a /\ y = .int n /\ TupAt K H a [v] /\ 1 <= n /\ n <= 1000 /\ ∀ r H', TupAt K H' r (List.replicate n.toNat v) -> L2.Same H H' -> Q (.ref r) H'
theorem op_mulQ : OpR X (binaryOp .Mult) (rMulQ X.K) := by
 intro pins s σ H x y v u Q I rx ry h
 obtain ⟨a, w, n, rfl, rfl, ha, n1, n2, q⟩ := h
 cases rx
 obtain ⟨t, rfl⟩ := ry
 obtain ⟨its, r1, p1, _⟩ := I.tuple ha.sq
 obtain ⟨u, rfl, ru⟩ := vals1 r1
 obtain ⟨⟨cls, dd, data, sl⟩, ho, hc, k, hd⟩ := id p1
 simp only at hc hd
 subst hc hd
 refine wpAny_binaryOp_repeat_ref (by decide) ⟨_, ho, rfl⟩ (fun s' => typeIs_int s' n t) noFill_tuple_mul F.fills_int_mul F.slot_int_rmul repeat_tuple F.slot_int_index.lookup
  (call_meets F.slot_int_rmul (typeIs_int s n t) F.entry_int_rmul (F.args_int_rmul_2 _ _) (int_rmul_tup n t a _ k dd sl) ⟨ho, rfl, ⟨_, ho, rfl⟩, ?_⟩)
 by_cases e : n = 1
 ·subst e
  exact call_meets F.slot_tuple_mul ⟨_, ho, rfl⟩ F.entry_tuple_mul (F.args_tuple_mul_2 _ _) (tup_mul1 a u t k dd sl) ⟨ho, ⟨.ref a, H, I, rfl, q a H ha (L2.Same.refl H)⟩⟩
 ·refine call_meets F.slot_tuple_mul ⟨_, ho, rfl⟩ F.entry_tuple_mul (F.args_tuple_mul_2 _ _) (tup_mulN a u n t k dd sl (by omega) n2) ⟨ho, ?_⟩
  rw [fold_rep]
  have z : (List.replicate n.toNat w).length <= sizeLine := by
   rw [List.length_replicate]
   have : sizeLine = 16777216 := by decide
   omega
  exact ⟨.ref s.heap.objs.size, upd H s.heap.objs.size (.tup (List.replicate n.toNat w)), I.laid (t' := s.toks) (fun b o e => Heap.get?_push_of_some _ e) (Nat.le_refl _) ⟨z, List.replicate n.toNat u, vals_rep ru _, ⟨_, Heap.get?_push_size _ rfl, rfl, 0, rfl⟩, _, Heap.get?_push_size _ rfl, rfl⟩, rfl, q _ _ (.inl upd_same) (Same.new (I.hok.fresh (Nat.le_refl _)))⟩
theorem mulOk_small {z : Str} {n : Int} (h : 0 <= n /\ n <= 1000 /\ z.length <= 1000) : MulOk z n := by
 obtain ⟨h0, h1, h2⟩ := h
 refine ⟨by simp; omega, fun h3 _ => ?_, fun h3 _ => ?_⟩
 ·have h4 : (1000 : Int) <= (2 ^ 63 - 1) / n := (Int.le_ediv_iff_mul_le (by omega)).mpr (by omega)
  omega
 ·have h6 : z.length * n.toNat <= 1000 * 1000 := Nat.mul_le_mul h2 (by omega)
  have h7 := sizeLine_eq
  unfold Builtin.Str.tooLong
  simp
  omega
def rMulA (K : PySem.W.Frag) : R2 := fun x y H Q => (rI CMul fun i j => .int (i * j)) x y H Q ∨ (∃ z n, x = .str z /\ y = .int n /\ MulOk z n /\ Q (.str (Txt.mul z n)) H) ∨ rMulQ K x y H Q
theorem op_mulA : OpR X (binaryOp .Mult) (rMulA X.K) := OpR.or op_mul (OpR.or op_mul_str op_mulQ)
theorem RepL.rep {α : List Addr} {H : Hp} {d : D} {v : V} (h : Rep K α H d v) : ∀ n : Nat, RepL K α H (List.replicate n d) (List.replicate n v)
 | 0 => by simp [RepL]
 | n + 1 => by
  rw [List.replicate_succ, List.replicate_succ, RepL]
  exact ⟨v, _, rfl, h, RepL.rep h n⟩
theorem od_mul : OpD K cl ex (rMulA K) mulD := fun α m H x y vx vy Q W rx ry h => by
 rw [mulD_eq] at h; unfold mulR at h
 split at h
 ·rw [Rep] at rx ry; obtain ⟨hc, h⟩ := PQ.if h; exact .inl ⟨_, _, rx, ry, hc, PQ.ok W h _ repI⟩
 ·rw [Rep] at rx; rw [Rep] at ry; obtain ⟨hc, h⟩ := PQ.if h; exact .inr (.inl ⟨_, _, rx, ry, mulOk_small hc, PQ.ok W h _ repS⟩)
 ·obtain ⟨hc, h⟩ := PQ.if h
  rw [Rep] at rx
  rw [Rep] at ry
  obtain ⟨a, xs, rfl, h1, r1⟩ := rx
  rw [RepL] at r1
  obtain ⟨v, r, rfl, rv, r2⟩ := r1
  rw [RepL] at r2
  subst r2
  refine .inr (.inr ⟨a, v, _, rfl, ry, h1, hc.1, hc.2, fun r H' hr sm => ?_⟩)
  exact PQ.okS W sm h _ (by rw [Rep]; exact ⟨r, _, rfl, hr, (RepL.rep rv _).mono W (Ext.of_same W sm)⟩)
 ·exact h.elim
end
mutual
def py : D -> PyData
 | .bl b => .bool b
 | .int i => .int i
 | .str x => .str x
 | .tup ds => .tuple (pyL ds)
 | .lst ds => .list (pyL ds)
 | _ => .none
def pyL : List D -> List PyData
 | [] => []
 | d :: r => py d :: pyL r
end
mutual
def pyOk : D -> Bool
 | .non => true
 | .bl _ => true
 | .int _ => true
 | .str _ => true
 | .tup ds => pyOkL ds
 | .lst ds => pyOkL ds
 | _ => false
def pyOkL : List D -> Bool
 | [] => true
 | d :: r => pyOk d && pyOkL r
end
def deep (d : D) : Bool := pyOk d && SeqAt.shaped (py d)
def eqB (x y : D) : Option Bool := match x, y with
 | .int i, .int j => some (decide (i = j))
 | .str a, .str b => some (decide (a = b))
 | .bl a, .bl b => some (decide (a = b))
 | .non, .non => some true
 | .non, .int _ => some false
 | .non, .str _ => some false
 | .non, .bl _ => some false
 | .int _, .non => some false
 | .str _, .non => some false
 | .bl _, .non => some false
 | .int _, .str _ => some false
 | .str _, .int _ => some false
 | .bl _, .str _ => some false
 | .str _, .bl _ => some false
 | x, y => if deep x && deep y then some (PyData.eqv (py x) (py y)) else none
def rs (m : Sto) (d : D) : D := match d with
 | .ob k => match m[k]? with
  | some (.lst xs) => .lst xs
  | _ => .ob k
 | d => d
def eqD (x y : D) (m : Sto) : Res D := match eqB (rs m x) (rs m y) with
 | some b => .ok (.bl b) m
 | none => .bad
def neD (x y : D) (m : Sto) : Res D := match eqB (rs m x) (rs m y) with
 | some b => .ok (.bl (!b)) m
 | none => .bad
section
variable {X : Cx} {K : PySem.W.Frag} {cl : Str -> Addr} {ex : XD} {pins : List (Addr × Obj)} {σ : L2.St} {H : Hp} {s : Shared} {α : List Addr}
mutual
theorem rep_reads (I : Inv X pins σ H s) : ∀ {d : D} {v : V} {u : Value}, pyOk d = true -> Rep X.K α H d v -> RelV v u -> ∃ as, Reads s.heap u (py d) as
 | .non, v, u, _, r, rv => by rw [Rep] at r; subst r; cases rv; exact ⟨_, .none⟩
 | .bl b, v, u, _, r, rv => by rw [Rep] at r; subst r; cases rv; exact ⟨_, .bool b⟩
 | .int i, v, u, _, r, rv => by rw [Rep] at r; subst r; obtain ⟨t, rfl⟩ := rv; exact ⟨_, .int i t⟩
 | .str x, v, u, _, r, rv => by rw [Rep] at r; subst r; obtain ⟨t, rfl⟩ := rv; exact ⟨_, .str x t⟩
 | .tup ds, v, u, ok, r, rv => by
  rw [Rep] at r
  obtain ⟨a, xs, rfl, h1, h2⟩ := r
  cases rv
  obtain ⟨its, r1, ⟨o, e1, e2, n, e3⟩, _⟩ := I.tuple h1.sq
  obtain ⟨as, h⟩ := rep_readsL I (by rw [pyOk] at ok; exact ok) h2 r1
  exact ⟨as, .tuple e1 e2 e3 (by simpa using h)⟩
 | .lst ds, v, u, ok, r, rv => by
  rw [Rep] at r
  obtain ⟨a, xs, rfl, _, h1, h2⟩ := r
  cases rv
  obtain ⟨its, r1, ⟨o, n, e1, e2, _, e3⟩, _⟩ := I.list (xs := xs) (.inl h1)
  obtain ⟨as, h⟩ := rep_readsL I (by rw [pyOk] at ok; exact ok) h2 r1
  exact ⟨_, .list e1 e2 e3 (by simpa using h)⟩
 | .flt _, _, _, ok, _, _ => by simp [pyOk] at ok
 | .byt _, _, _, ok, _, _ => by simp [pyOk] at ok
 | .exn _ _, _, _, ok, _, _ => by simp [pyOk] at ok
 | .ob _, _, _, ok, _, _ => by simp [pyOk] at ok
 | .scr _, _, _, ok, _, _ => by simp [pyOk] at ok
theorem rep_readsL (I : Inv X pins σ H s) : ∀ {ds : List D} {vs : List V} {us : List Value}, pyOkL ds = true -> RepL X.K α H ds vs -> Vals vs us -> ∃ as, ReadsAll s.heap us (pyL ds) as
 | [], vs, us, _, r, rv => by rw [RepL] at r; subst r; cases rv; exact ⟨_, .nil⟩
 | d :: ds, vs, us, ok, r, rv => by
  rw [RepL] at r
  obtain ⟨v, r', rfl, h1, h2⟩ := r
  rw [pyOkL, Bool.and_eq_true] at ok
  cases rv with
  | cons a b =>
   obtain ⟨as, q1⟩ := rep_reads I ok.1 h1 a
   obtain ⟨bs, q2⟩ := rep_readsL I ok.2 h2 b
   exact ⟨_, .cons q1 q2⟩
end
def rDeep (K : PySem.W.Frag) (f : Bool -> Bool) : R2 := fun vx vy H Q => ∃ x y α, Rep K α H x vx /\ Rep K α H y vy /\ deep x = true /\ deep y = true /\ Q (.bl (f (PyData.eqv (py x) (py y)))) H
theorem op_eqDeep (hu : X.A.units + 64 < cLine) : OpR X (compareOp .Eq) (rDeep X.K id) := by
 intro pins s σ H vx vy v u Q I rx ry h
 obtain ⟨x, y, α, r1, r2, d1, d2, q⟩ := h
 rw [deep, Bool.and_eq_true] at d1 d2
 obtain ⟨as, h1⟩ := rep_reads I d1.1 r1 rx
 obtain ⟨bs, h2⟩ := rep_reads I d2.1 r2 ry
 exact eq_dataH h1 h2 d1.2 d2.2 hu ⟨.bl _, H, I, rfl, q⟩
theorem op_neDeep (hu : X.A.units + 64 < cLine) : OpR X (compareOp .NotEq) (rDeep X.K not) := by
 intro pins s σ H vx vy v u Q I rx ry h
 obtain ⟨x, y, α, r1, r2, d1, d2, q⟩ := h
 rw [deep, Bool.and_eq_true] at d1 d2
 obtain ⟨as, h1⟩ := rep_reads I d1.1 r1 rx
 obtain ⟨bs, h2⟩ := rep_reads I d2.1 r2 ry
 exact ne_dataH h1 h2 d1.2 d2.2 hu ⟨.bl _, H, I, rfl, q⟩
def rEqA (K : PySem.W.Frag) : R2 := fun x y H Q => rEq x y H Q ∨ rDeep K id x y H Q
def rNeA (K : PySem.W.Frag) : R2 := fun x y H Q => rNe x y H Q ∨ rDeep K not x y H Q
theorem op_eqA (hu : X.A.units + 64 < cLine) : OpR X (compareOp .Eq) (rEqA X.K) := OpR.or op_eq (op_eqDeep hu)
theorem op_neA (hu : X.A.units + 64 < cLine) : OpR X (compareOp .NotEq) (rNeA X.K) := OpR.or op_ne (op_neDeep hu)
mutual
theorem Rep.bare {K : PySem.W.Frag} {α : List Addr} {H : Hp} : ∀ {d : D} {v : V}, pyOk d = true -> Rep K α H d v -> Rep K [] H d v
 | .non, _, _, h => by simpa [Rep] using h
 | .bl _, _, _, h => by simpa [Rep] using h
 | .int _, _, _, h => by simpa [Rep] using h
 | .str _, _, _, h => by simpa [Rep] using h
 | .flt _, _, c, _ => by simp [pyOk] at c
 | .byt _, _, c, _ => by simp [pyOk] at c
 | .exn _ _, _, c, _ => by simp [pyOk] at c
 | .ob _, _, c, _ => by simp [pyOk] at c
 | .scr _, _, c, _ => by simp [pyOk] at c
 | .tup ds, _, c, h => by
  rw [Rep] at h ⊢
  obtain ⟨a, xs, e, h1, h2⟩ := h
  rw [pyOk] at c
  exact ⟨a, xs, e, h1, RepL.bare c h2⟩
 | .lst ds, _, c, h => by
  rw [Rep] at h ⊢
  obtain ⟨a, xs, e, n, h1, h2⟩ := h
  rw [pyOk] at c
  exact ⟨a, xs, e, (by simp), h1, RepL.bare c h2⟩
theorem RepL.bare {K : PySem.W.Frag} {α : List Addr} {H : Hp} : ∀ {ds : List D} {vs : List V}, pyOkL ds = true -> RepL K α H ds vs -> RepL K [] H ds vs
 | [], _, _, h => by rw [RepL] at h ⊢; exact h
 | _ :: _, _, c, h => by
  rw [RepL] at h ⊢
  obtain ⟨v, r, e, h1, h2⟩ := h
  rw [pyOkL, Bool.and_eq_true] at c
  exact ⟨v, r, e, Rep.bare c.1 h1, RepL.bare c.2 h2⟩
end
def RepW (K : PySem.W.Frag) (α : List Addr) (H : Hp) (x : D) (v : V) : Prop := Rep K α H x v ∨ ∃ xs a ys, x = .lst xs /\ v = .ref a /\ H a = some (.lst ys) /\ RepL K α H xs ys
theorem RepW.bare {x : D} {v : V} (c : deep x = true) (h : RepW K α H x v) : Rep K [] H x v := by
 rw [deep, Bool.and_eq_true] at c
 rcases h with h | ⟨xs, a, ys, rfl, rfl, h1, h2⟩
 ·exact h.bare c.1
 ·rw [Rep]
  have c1 := c.1
  rw [pyOk] at c1
  exact ⟨a, ys, rfl, (by simp), .inl h1, h2.bare c1⟩
theorem rs_rep {m : Sto} (W : Wd K cl α m H) {x : D} {v : V} (r : Rep K α H x v) : RepW K α H (rs m x) v := by
 unfold rs
 split
 ·split
  ·rename_i xs hx
   rw [Rep] at r
   obtain ⟨a, h1, rfl⟩ := r
   obtain ⟨ys, h2, h3⟩ := (show MoRep K cl α H a (.lst xs) from W.at' _ a _ h1 hx)
   exact .inr ⟨_, a, ys, rfl, rfl, h2, h3⟩
  ·exact .inl r
 ·exact .inl r
theorem eqB_use {x y : D} {vx vy : V} {b : Bool} (e : eqB x y = some b) (rx : RepW K α H x vx) (ry : RepW K α H y vy) : (scal vx vy = true /\ decide (vx = vy) = b) ∨ (deep x = true /\ deep y = true /\ PyData.eqv (py x) (py y) = b) := by
 unfold eqB at e
 split at e
 case h_15 =>
  split at e
  ·rename_i hc
   rw [Bool.and_eq_true] at hc
   exact .inr ⟨hc.1, hc.2, Option.some.inj e⟩
  ·cases e
 all_goals (
  rcases rx with rx | ⟨_, _, _, z, _⟩
  case inr => cases z
  rcases ry with ry | ⟨_, _, _, z, _⟩
  case inr => cases z
  rw [Rep] at rx; rw [Rep] at ry; subst rx ry; refine .inl ⟨rfl, ?_⟩; rw [<- Option.some.inj e]; simp)
theorem od_eq : OpD K cl ex (rEqA K) eqD := fun α m H x y vx vy Q W rx ry h => by
 unfold eqD at h
 split at h
 ·rename_i b e
  have rx := rs_rep W rx
  have ry := rs_rep W ry
  rcases eqB_use e rx ry with ⟨h1, h2⟩ | ⟨h1, h2, h3⟩
  ·exact .inl ⟨h1, by rw [h2]; exact PQ.ok W h _ repB⟩
  ·exact .inr ⟨_, _, [], rx.bare h1, ry.bare h2, h1, h2, by rw [h3]; exact PQ.ok W h _ repB⟩
 ·exact h.elim
theorem od_ne : OpD K cl ex (rNeA K) neD := fun α m H x y vx vy Q W rx ry h => by
 unfold neD at h
 split at h
 ·rename_i b e
  have rx := rs_rep W rx
  have ry := rs_rep W ry
  rcases eqB_use e rx ry with ⟨h1, h2⟩ | ⟨h1, h2, h3⟩
  ·exact .inl ⟨h1, by rw [h2]; exact PQ.ok W h _ repB⟩
  ·exact .inr ⟨_, _, [], rx.bare h1, ry.bare h2, h1, h2, by rw [h3]; exact PQ.ok W h _ repB⟩
 ·exact h.elim
end
def ltS (x y : Str) : Bool := decide (x.cps.toList < y.cps.toList)
def ltD (x y : D) (m : Sto) : Res D := match x, y with
 | .int i, .int j => .ok (.bl (decide (i < j))) m
 | .str a, .str b => .ok (.bl (ltS a b)) m
 | _, _ => .bad
def leD (x y : D) (m : Sto) : Res D := match x, y with
 | .int i, .int j => .ok (.bl (decide (i <= j))) m
 | .str a, .str b => .ok (.bl (!ltS b a)) m
 | _, _ => .bad
def gtD (x y : D) (m : Sto) : Res D := match x, y with
 | .int i, .int j => .ok (.bl (decide (j < i))) m
 | _, _ => .bad
def geD (x y : D) (m : Sto) : Res D := match x, y with
 | .int i, .int j => .ok (.bl (decide (j <= i))) m
 | _, _ => .bad
def isB (x y : D) : Option Bool := match x, y with
 | .bl a, .bl b => some (a == b)
 | .non, .non => some true
 | _, .non => some false
 | _, _ => none
def isD (x y : D) (m : Sto) : Res D := match isB x y with
 | some b => .ok (.bl b) m
 | none => .bad
def isntD (x y : D) (m : Sto) : Res D := match isB x y with
 | some b => .ok (.bl (!b)) m
 | none => .bad
section
variable {X : Cx} {K : PySem.W.Frag} {cl : Str -> Addr} {ex : XD}
def rLtA : R2 := fun x y H Q => (rI0 (fun i j => .bl (decide (i < j)))) x y H Q ∨ ∃ i j, x = .str i /\ y = .str j /\ Q (.bl (decide (i.cps.toList < j.cps.toList))) H
theorem op_ltA : OpR X (compareOp .Lt) rLtA := OpR.or op_lt op_lt_str
theorem od_lt : OpD K cl ex rLtA ltD := fun α m H x y vx vy Q W rx ry h => by
 unfold ltD at h
 split at h
 ·rw [Rep] at rx ry; exact .inl ⟨_, _, rx, ry, PQ.ok W h _ repB⟩
 ·rw [Rep] at rx ry; exact .inr ⟨_, _, rx, ry, PQ.ok W h _ repB⟩
 ·exact h.elim
theorem od_gt : OpD K cl ex (rI0 (fun i j => .bl (decide (j < i)))) gtD := fun α m H x y vx vy Q W rx ry h => by
 unfold gtD at h
 split at h
 ·rw [Rep] at rx ry; exact ⟨_, _, rx, ry, PQ.ok W h _ repB⟩
 ·exact h.elim
theorem od_ge : OpD K cl ex (rI0 (fun i j => .bl (decide (j <= i)))) geD := fun α m H x y vx vy Q W rx ry h => by
 unfold geD at h
 split at h
 ·rw [Rep] at rx ry; exact ⟨_, _, rx, ry, PQ.ok W h _ repB⟩
 ·exact h.elim
end
section
variable {K : PySem.W.Frag} {cl : Str -> Addr} {ex : XD} {α : List Addr} {m : Sto} {H : Hp}
theorem Wd.lst (W : Wd K cl α m H) {k : Nat} {a : Addr} {ds : List D} (h1 : α[k]? = some a) (h2 : m[k]? = some (.lst ds)) : ∃ xs, H a = some (.lst xs) /\ RepL K α H ds xs := W.at' k a _ h1 h2
theorem Wd.dct (W : Wd K cl α m H) {k : Nat} {a : Addr} {ds : List (L2.Key × D)} (h1 : α[k]? = some a) (h2 : m[k]? = some (.dct ds)) : ∃ xs, H a = some (.dK xs) /\ RepKV K α H ds xs := W.at' k a _ h1 h2
theorem Wd.set (W : Wd K cl α m H) {k : Nat} {a : Addr} {u : HO} {o : MO} (h1 : α[k]? = some a) (h2 : ∀ _ : Ext α H α (upd H a u), MoRep K cl α (upd H a u) a o) (hn : autoParam (∀ o v, H a ≠ some (.frz o v)) AutoP.a5._auto_1) : Wd K cl α (m.set k o) (upd H a u) /\ Ext α H α (upd H a u) := by
 have ha : a ∈ α := List.mem_of_getElem? h1
 have E : Ext α H α (upd H a u) := by
  refine ⟨⟨[], by simp, fun _ h => nomatch h⟩, fun b o h n => by rw [upd_ne (fun z => n (by rw [z]; exact ha))]; exact h, fun b hb => ?_, fun b o v q => by rw [upd_ne fun z => hn o v (by rw [<- z]; exact q)]; exact q⟩
  by_cases hba : b = a
  ·rw [hba, upd_same]; exact fun z => nomatch z
  ·rw [upd_ne hba]; exact W.has hb
 refine ⟨⟨by rw [List.length_set]; exact W.len, W.nd, fun j b o' e1 e2 => ?_⟩, E⟩
 by_cases hj : k = j
 ·subst hj
  rw [h1] at e1
  cases e1
  have hk : k < m.length := by rw [<- W.len]; exact (List.getElem?_eq_some_iff.mp h1).1
  rw [List.getElem?_set_self hk] at e2
  cases e2
  exact h2 E
 ·rw [List.getElem?_set_ne hj] at e2
  have hne : b ≠ a := fun z => by
   subst z
   obtain ⟨hk, e3⟩ := List.getElem?_eq_some_iff.mp h1
   obtain ⟨hk2, e4⟩ := List.getElem?_eq_some_iff.mp e1
   exact hj ((List.getElem_inj W.nd).mp (e3.trans e4.symm))
  exact (W.at' j b o' e1 e2).mono W E fun o h => by rw [upd_ne hne]; exact h
end
theorem RepL.atI {K : PySem.W.Frag} {α : List Addr} {H : Hp} {ds : List D} {vs : List V} {i : Int} {d : D} (r : RepL K α H ds vs) (h : L2.atI ds i = some d) : ∃ v, L2.atI vs i = some v /\ Rep K α H d v := by
 unfold L2.atI at h ⊢
 rw [r.length] at h
 cases e : ixN vs.length i with
 | none => rw [e] at h; cases h
 | some j =>
  rw [e] at h
  exact r.get (i := j) h
def valD (kvs : List (L2.Key × D)) (k : L2.Key) : Option D := match kvs with
 | [] => none
 | p :: r => if p.1 = k then some p.2 else valD r k
def putD (kvs : List (L2.Key × D)) (k : L2.Key) (d : D) : List (L2.Key × D) := match kvs with
 | [] => [(k, d)]
 | p :: r => if p.1 = k then (p.1, d) :: r.map (fun q => if q.1 = k then (q.1, d) else q) else p :: putD r k d
theorem RepKV.val {K : PySem.W.Frag} {α : List Addr} {H : Hp} {k : L2.Key} : ∀ {ds : List (L2.Key × D)} {vs : List (L2.Key × V)}, RepKV K α H ds vs -> (∀ d, valD ds k = some d -> ∃ v, valV vs k = some v /\ Rep K α H d v) /\ (valD ds k = none -> valV vs k = none)
 | [], _, h => by
  cases (show _ = [] from h)
  exact ⟨fun d e => (nomatch e), fun _ => rfl⟩
 | p :: r, _, ⟨v, r', e, h1, h2⟩ => by
  subst e
  have ih := RepKV.val (k := k) h2
  unfold valD
  by_cases hk : p.1 = k
  ·rw [if_pos hk, valV_pos hk]
   exact ⟨fun d e => by cases e; exact ⟨v, rfl, h1⟩, fun e => nomatch e⟩
  ·rw [if_neg hk, valV_neg hk]
   exact ih
theorem RepKV.length {K : PySem.W.Frag} {α : List Addr} {H : Hp} : ∀ {ds : List (L2.Key × D)} {vs : List (L2.Key × V)}, RepKV K α H ds vs -> ds.length = vs.length
 | [], _, h => by
  have h : _ = [] := h
  subst h; rfl
 | p :: r, _, ⟨v, r', e, h1, h2⟩ => by subst e; rw [List.length_cons, List.length_cons, RepKV.length h2]
def opt {τ : Type} (o : Option τ) (m : Sto) : Res τ := match o with
 | some d => .ok d m
 | none => .bad
def ixD (x y : D) (m : Sto) : Res D := match x, y with
 | .tup ds, .int i => opt (L2.atI ds i) m
 | .lst ds, .int i => opt (L2.atI ds i) m
 | .str z, .int i => if z.length <= sizeLine then opt ((L2.atI z.cps.toList i).map fun c => D.str ⟨#[c]⟩) m else .bad
 | .ob k, .int i => match m[k]? with
  | some (.lst ds) => opt (L2.atI ds i) m
  | some (.dct kvs) => opt (valD kvs (.inl i)) m
  | _ => .bad
 | .ob k, .str z => match m[k]? with
  | some (.dct kvs) => opt (valD kvs (.inr z)) m
  | _ => .bad
 | _, _ => .bad
section
variable {X : Cx} {K : PySem.W.Frag} {cl : Str -> Addr} {ex : XD}
def rIxD : R2 := fun x y H Q => ∃ a v, x = .ref a /\ DGet H a y (some v) /\ Q v H
theorem ix_dict (hu : X.A.units + 1 < cLine) : IxR X rIxD := by
 intro value slice pins s σ H x y v u Q I rx ry h hs
 obtain ⟨a, w, rfl, g, q⟩ := h
 cases rx
 have hT := dict_typeIs I g
 unfold subscriptTail
 refine wpAny_bind ?_
 rw [getitemInPython_of_ne hT.not_modules]
 refine wpAny_bind (wpAny_specialOf hT PySem.F.slot_dict_getitem.lookup ?_)
 have fin : wpAny (model X.prog X.w) X.A (subscripted slice false (.ref a) u) (fun r s₃ => wpAny (model X.prog X.w) X.A (letTemporaryGo value (.ref a) r >>= fun _ => pure r) (EP X pins σ Q) X.xe s₃) X.xe s := by
  rw [hs]
  exact wpAny_operating (wpAny_mono (d_getItem hu I g ry fun w' s3 I3 rw' => (⟨w, H, I3, rw', q⟩ : EP X pins σ Q w' s3)) (fun r s₃ h₃ => wpAny_bind (wpAny_letTemporaryGo (wpAny_pure h₃))) fun _ _ x => x)
 first
  | exact wpAny_pure (wpAny_bind fin)
  | exact wpAny_bind (wpAny_pure (wpAny_bind fin))
  | exact wpAny_bind fin
def rIxA (K : PySem.W.Frag) : R2 := fun x y H Q => rIx K x y H Q ∨ rIxD x y H Q
theorem ix_A (hu : X.A.units + 1 < cLine) : IxR X (rIxA X.K) := IxR.or ix_seq (ix_dict hu)
theorem opt_use {τ : Type} {o : Option τ} {α : List Addr} {m : Sto} {H : Hp} {R : RD τ} (h : PQ K cl ex (opt o m) α H R) : ∃ d, o = some d /\ PQ K cl ex (.ok d m) α H R := by
 cases o with
 | none => exact h.elim
 | some d => exact ⟨d, rfl, h⟩
theorem od_ix : OpD K cl ex (rIxA K) ixD := fun α m H x y vx vy Q W rx ry h => by
 unfold ixD at h
 split at h
 ·obtain ⟨d, e, h⟩ := opt_use h
  rw [Rep] at rx
  rw [Rep] at ry
  obtain ⟨a, xs, rfl, h1, r1⟩ := rx
  obtain ⟨v, e2, rv⟩ := r1.atI e
  exact .inl (.inr (.inl ⟨a, xs, _, v, rfl, ry, h1.sq, e2, PQ.ok W h _ rv⟩))
 ·obtain ⟨d, e, h⟩ := opt_use h
  rw [Rep] at rx
  rw [Rep] at ry
  obtain ⟨a, xs, rfl, _, h1, r1⟩ := rx
  obtain ⟨v, e2, rv⟩ := r1.atI e
  exact .inl (.inl ⟨a, xs, _, v, rfl, ry, .inl h1, e2, PQ.ok W h _ rv⟩)
 ·obtain ⟨hc, h⟩ := PQ.if h
  obtain ⟨d, e, h⟩ := opt_use h
  rw [Rep] at rx
  rw [Rep] at ry
  obtain ⟨c, e2, rfl⟩ := Option.map_eq_some_iff.mp e
  exact .inl (.inr (.inr ⟨_, _, c, rx, ry, hc, e2, PQ.ok W h _ repS⟩))
 ·rw [Rep] at rx
  rw [Rep] at ry
  obtain ⟨a, ha, rfl⟩ := rx
  split at h
  ·obtain ⟨d, e, h⟩ := opt_use h
   obtain ⟨xs, h1, r1⟩ := W.lst ha ‹_›
   obtain ⟨v, e2, rv⟩ := r1.atI e
   exact .inl (.inl ⟨a, xs, _, v, rfl, ry, SqL.of h1, e2, PQ.ok W h _ rv⟩)
  ·obtain ⟨d, e, h⟩ := opt_use h
   obtain ⟨xs, h1, r1⟩ := W.dct ha ‹_›
   obtain ⟨v, e2, rv⟩ := (RepKV.val r1).1 d e
   refine .inr ⟨a, v, rfl, ?_, PQ.ok W h _ rv⟩
   rw [ry, <- e2]
   exact DGet.k (k := .inl _) h1
  ·exact h.elim
 ·rw [Rep] at rx
  rw [Rep] at ry
  obtain ⟨a, ha, rfl⟩ := rx
  split at h
  ·obtain ⟨d, e, h⟩ := opt_use h
   obtain ⟨xs, h1, r1⟩ := W.dct ha ‹_›
   obtain ⟨v, e2, rv⟩ := (RepKV.val r1).1 d e
   refine .inr ⟨a, v, rfl, ?_, PQ.ok W h _ rv⟩
   rw [ry, <- e2]
   exact DGet.k (k := .inr _) h1
  ·exact h.elim
 ·exact h.elim
end
def cutD {τ : Type} (xs : List τ) (lo hi : Option Int) : List τ := (xs.drop (HT.sIx xs.length 0 lo)).take (HT.sIx xs.length xs.length hi - HT.sIx xs.length 0 lo)
abbrev OV := En -> Sto -> Res (Option Int)
def oNone : OV := fun _ m => .ok none m
def oSome (f : EV) : OV := fun ρ m => (f ρ m).bind fun d m1 => match d with
 | .int i => .ok (some i) m1
 | _ => .bad
def slD (x : D) (lo hi : Option Int) (m : Sto) : Res D := match x with
 | .tup ds => if HT.sIx ds.length 0 lo = 0 /\ HT.sIx ds.length ds.length hi = ds.length then .bad else .ok (.tup (cutD ds lo hi)) m
 | .lst ds => .ok (.lst (cutD ds lo hi)) m
 | .scr ds => .ok (.lst (cutD ds lo hi)) m
 | .str z => if z.length <= sizeLine then .ok (.str (Txt.slice z lo hi)) m else .bad
 | .ob k => match m[k]? with
  | some (.lst ds) => .ok (.lst (cutD ds lo hi)) m
  | _ => .bad
 | _ => .bad
def eSl (f : EV) (lo hi : OV) : EV := fun ρ m => (f ρ m).bind fun x m1 => (lo ρ m1).bind fun l m2 => (hi ρ m2).bind fun h m3 => slD x l h m3
section
variable {X : Cx} {K : PySem.W.Frag} {cl : Str -> Addr} {ex : XD} {α : List Addr} {m : Sto} {H : Hp}
theorem RepL.one_of {d : D} {vs : List V} (h : RepL K α H [d] vs) : ∃ v, vs = [v] /\ Rep K α H d v := by
 rw [RepL] at h
 obtain ⟨v, r, rfl, a, b⟩ := h
 rw [RepL] at b
 subst b
 exact ⟨v, rfl, a⟩
theorem RepL.two_of {d e : D} {vs : List V} (h : RepL K α H [d, e] vs) : ∃ v w, vs = [v, w] /\ Rep K α H d v /\ Rep K α H e w := by
 rw [RepL] at h
 obtain ⟨v, r, rfl, a, b⟩ := h
 obtain ⟨w, rfl, c⟩ := b.one_of
 exact ⟨v, w, rfl, a, c⟩
def lenF (ds : List D) (m : Sto) : Res D := match ds with
 | [.tup xs] => .ok (.int xs.length) m
 | [.lst xs] => .ok (.int xs.length) m
 | [.scr xs] => .ok (.int xs.length) m
 | [.str z] => if z.length <= sizeLine then .ok (.int z.length) m else .bad
 | [.ob k] => match m[k]? with
  | some (.lst xs) => .ok (.int xs.length) m
  | some (.dct xs) => .ok (.int xs.length) m
  | _ => .bad
 | _ => .bad
def rLen (K : PySem.W.Frag) : List V -> Hp -> VK -> Prop := fun xs H Q => (∃ p ys, xs = [.ref p] /\ (SqL K H p ys ∨ SqT K H p ys) /\ Q (.int ys.length) H) ∨ (∃ z, xs = [.str z] /\ z.length <= sizeLine /\ Q (.int z.length) H) ∨ ∃ a kvs, xs = [V.ref a] /\ H a = some (.dK kvs) /\ Q (.int kvs.length) H
theorem call_lenK : CallR X (.builtin "len") (fun xs H Q => ∃ a kvs, xs = [V.ref a] /\ H a = some (.dK kvs) /\ Q (.int kvs.length) H) := by
 intro pins s σ H xs us Q I r h
 obtain ⟨a, kvs, rfl, e, q⟩ := h
 obtain ⟨u, rfl, ru⟩ := vals1 r
 cases ru
 exact d_len I (.inl e) fun t s' I' => ⟨.int kvs.length, H, I', ⟨t, rfl⟩, q⟩
theorem call_lenA : CallR X (.builtin "len") (rLen X.K) := CallR.or call_len_seq (CallR.or call_len_str call_lenK)
theorem fd_len : FnD K cl ex (rLen K) lenF := fun α m H x vx Q W rx h => by
 unfold lenF at h
 split at h
 ·obtain ⟨v, rfl, rv⟩ := rx.one_of
  rw [Rep] at rv
  obtain ⟨a, xs, rfl, h1, r1⟩ := rv
  exact .inl ⟨a, xs, rfl, .inr h1.sq, by rw [<- r1.length]; exact PQ.ok W h _ repI⟩
 ·obtain ⟨v, rfl, rv⟩ := rx.one_of
  rw [Rep] at rv
  obtain ⟨a, xs, rfl, _, h1, r1⟩ := rv
  exact .inl ⟨a, xs, rfl, .inl (.inl h1), by rw [<- r1.length]; exact PQ.ok W h _ repI⟩
 ·obtain ⟨v, rfl, rv⟩ := rx.one_of
  rw [Rep] at rv
  obtain ⟨a, xs, rfl, h1, r1⟩ := rv
  exact .inl ⟨a, xs, rfl, .inl h1.sq, by rw [<- r1.length]; exact PQ.ok W h _ repI⟩
 ·obtain ⟨v, rfl, rv⟩ := rx.one_of
  rw [Rep] at rv
  subst rv
  obtain ⟨hc, h⟩ := PQ.if h
  exact .inr (.inl ⟨_, rfl, hc, PQ.ok W h _ repI⟩)
 ·obtain ⟨v, rfl, rv⟩ := rx.one_of
  rw [Rep] at rv
  obtain ⟨a, ha, rfl⟩ := rv
  split at h
  ·obtain ⟨xs, h1, r1⟩ := W.lst ha ‹_›
   exact .inl ⟨a, xs, rfl, .inl (SqL.of h1), by rw [<- r1.length]; exact PQ.ok W h _ repI⟩
  ·obtain ⟨xs, h1, r1⟩ := W.dct ha ‹_›
   exact .inr (.inr ⟨a, xs, rfl, h1, by rw [<- r1.length]; exact PQ.ok W h _ repI⟩)
  ·exact h.elim
 ·exact h.elim
def intF (ds : List D) (m : Sto) : Res D := match ds with
 | [.int i] => .ok (.int i) m
 | [.bl b] => .ok (.int (if b then 1 else 0)) m
 | [.str z] => match PySem.intText? z with
  | some n => if z.length <= 640 then .ok (.int n) m else .bad
  | none => .bad
 | _ => .bad
def rInt : List V -> Hp -> VK -> Prop := fun xs H Q => ((∃ i, xs = [.int i] /\ Q (.int i) H) ∨ ∃ k, xs = [.bl k] /\ Q (.int (if k then 1 else 0)) H) ∨ ∃ z n, xs = [.str z] /\ PySem.intText? z = some n /\ z.length <= 640 /\ Q (.int n) H
theorem call_intA : CallR X (.type "int") rInt := CallR.or call_int1 call_int_txt
theorem fd_int : FnD K cl ex rInt intF := fun α m H x vx Q W rx h => by
 unfold intF at h
 split at h
 ·obtain ⟨v, rfl, rv⟩ := rx.one_of
  rw [Rep] at rv; subst rv
  exact .inl (.inl ⟨_, rfl, PQ.ok W h _ repI⟩)
 ·obtain ⟨v, rfl, rv⟩ := rx.one_of
  rw [Rep] at rv; subst rv
  exact .inl (.inr ⟨_, rfl, PQ.ok W h _ repI⟩)
 ·obtain ⟨v, rfl, rv⟩ := rx.one_of
  rw [Rep] at rv; subst rv
  split at h
  ·obtain ⟨hc, h⟩ := PQ.if h
   exact .inr ⟨_, _, rfl, ‹_›, hc, PQ.ok W h _ repI⟩
  ·exact h.elim
 ·exact h.elim
def strF (ds : List D) (m : Sto) : Res D := match ds with
 | [.int i] => if i.natAbs.log2 < 1920 then .ok (.str (toString i)) m else .bad
 | _ => .bad
def absF (ds : List D) (m : Sto) : Res D := match ds with
 | [.int i] => .ok (.int (if i < 0 then -i else i)) m
 | _ => .bad
theorem fd_abs : FnD K cl ex (fun xs H Q => ∃ i, xs = [.int i] /\ Q (.int (if i < 0 then -i else i)) H) absF := fun α m H x vx Q W rx h => by
 unfold absF at h
 split at h
 ·obtain ⟨v, rfl, rv⟩ := rx.one_of
  rw [Rep] at rv; subst rv
  exact ⟨_, rfl, PQ.ok W h _ repI⟩
 ·exact h.elim
def max2F (ds : List D) (m : Sto) : Res D := match ds with
 | [.int i, .int j] => .ok (.int (if j > i then j else i)) m
 | _ => .bad
def min2F (ds : List D) (m : Sto) : Res D := match ds with
 | [.int i, .int j] => .ok (.int (if j < i then j else i)) m
 | _ => .bad
theorem fd_min2 : FnD K cl ex (fun xs H Q => ∃ i j, xs = [.int i, .int j] /\ Q (.int (if j < i then j else i)) H) min2F := fun α m H x vx Q W rx h => by
 unfold min2F at h
 split at h
 ·obtain ⟨v, w, rfl, rv, rw'⟩ := rx.two_of
  rw [Rep] at rv rw'; subst rv rw'
  exact ⟨_, _, rfl, PQ.ok W h _ repI⟩
 ·exact h.elim
def tupF (ds : List D) (m : Sto) : Res D := match ds with
 | [.lst xs] => .ok (.tup xs) m
 | [.tup xs] => .ok (.tup xs) m
 | [.ob k] => match m[k]? with
  | some (.lst xs) => .ok (.tup xs) m
  | _ => .bad
 | [.str z] => if z.cps.size <= sizeLine then .ok (.tup (signs z)) m else .bad
 | _ => .bad
def rTup (K : PySem.W.Frag) : List V -> Hp -> VK -> Prop := fun xs H Q => (∃ p ys, xs = [.ref p] /\ ((SqL K H p ys /\ ∀ l, H l = none -> Q (.ref l) (upd H l (.tup ys))) ∨ (SqT K H p ys /\ Q (.ref p) H))) ∨ ∃ z, xs = [.str z] /\ z.cps.size <= sizeLine /\ ∀ l, H l = none -> Q (.ref l) (upd H l (.tup ((List.range z.cps.size).map (sgn z))))
theorem call_tupA (hc : X.calm = true) : CallR X (.type "tuple") (rTup X.K) := CallR.or call_tuple_of (call_tuple_txt hc)
theorem rep_signs {z : Str} : RepL K α H (signs z) ((List.range z.cps.size).map (sgn z)) := by
 unfold signs
 generalize List.range z.cps.size = l
 induction l with
 | nil => simp [RepL]
 | cons i r ih => rw [List.map_cons, List.map_cons, RepL]; exact ⟨_, _, rfl, by rw [Rep]; rfl, ih⟩
theorem fd_tup : FnD K cl ex (rTup K) tupF := fun α m H x vx Q W rx h => by
 unfold tupF at h
 split at h
 ·obtain ⟨v, rfl, rv⟩ := rx.one_of
  rw [Rep] at rv
  obtain ⟨a, xs, rfl, _, h1, r1⟩ := rv
  exact .inl ⟨a, xs, rfl, .inl ⟨.inl h1, fun l hl => PQ.okS W (Same.new hl) h _ (rep_new_tup W hl r1)⟩⟩
 ·obtain ⟨v, rfl, rv⟩ := rx.one_of
  have rv2 := rv
  rw [Rep] at rv
  obtain ⟨a, xs, rfl, h1, r1⟩ := rv
  exact .inl ⟨a, xs, rfl, .inr ⟨h1.sq, PQ.ok W h _ rv2⟩⟩
 ·obtain ⟨v, rfl, rv⟩ := rx.one_of
  rw [Rep] at rv
  obtain ⟨a, ha, rfl⟩ := rv
  split at h
  ·obtain ⟨xs, h1, r1⟩ := W.lst ha ‹_›
   exact .inl ⟨a, xs, rfl, .inl ⟨SqL.of h1, fun l hl => PQ.okS W (Same.new hl) h _ (rep_new_tup W hl r1)⟩⟩
  ·exact h.elim
 ·obtain ⟨v, rfl, rv⟩ := rx.one_of
  rw [Rep] at rv; subst rv
  obtain ⟨hc, h⟩ := PQ.if h
  exact .inr ⟨_, rfl, hc, fun l hl => PQ.okS W (Same.new hl) h _ (rep_new_tup W hl rep_signs)⟩
 ·exact h.elim
def asInts : List D -> Option (List Int)
 | [] => some []
 | .int i :: r => (asInts r).map (i :: ·)
 | _ => none
def asBls : List D -> Option (List Bool)
 | [] => some []
 | .bl i :: r => (asBls r).map (i :: ·)
 | _ => none
def asStrs : List D -> Option (List Str)
 | [] => some []
 | .str i :: r => (asStrs r).map (i :: ·)
 | _ => none
theorem asInts_use : ∀ {ds : List D} {ns : List Int} {vs : List V}, asInts ds = some ns -> RepL K α H ds vs -> vs = ns.map V.int
 | [], ns, vs, e, r => by cases e; rw [RepL] at r; exact r
 | d :: t, ns, vs, e, r => by
  unfold asInts at e
  split at e
  ·exact absurd ‹d :: t = []› (by simp)
  ·rename_i i t' e1
   cases e1
   obtain ⟨ms, e2, rfl⟩ := Option.map_eq_some_iff.mp e
   rw [RepL] at r
   obtain ⟨v, r', rfl, a, b⟩ := r
   rw [Rep] at a
   subst a
   rw [asInts_use e2 b]
   rfl
  ·cases e
theorem asBls_use : ∀ {ds : List D} {ns : List Bool} {vs : List V}, asBls ds = some ns -> RepL K α H ds vs -> vs = ns.map V.bl
 | [], ns, vs, e, r => by cases e; rw [RepL] at r; exact r
 | d :: t, ns, vs, e, r => by
  unfold asBls at e
  split at e
  ·exact absurd ‹d :: t = []› (by simp)
  ·rename_i i t' e1
   cases e1
   obtain ⟨ms, e2, rfl⟩ := Option.map_eq_some_iff.mp e
   rw [RepL] at r
   obtain ⟨v, r', rfl, a, b⟩ := r
   rw [Rep] at a
   subst a
   rw [asBls_use e2 b]
   rfl
  ·cases e
def lOf (d : D) (m : Sto) : Option (List D) := match d with
 | .lst xs => some xs
 | .ob k => match m[k]? with
  | some (.lst xs) => some xs
  | _ => none
 | _ => none
theorem lOf_use {d : D} {v : V} {xs : List D} (W : Wd K cl α m H) (e : lOf d m = some xs) (rv : Rep K α H d v) : ∃ p ys, v = .ref p /\ SqL K H p ys /\ RepL K α H xs ys := by
 unfold lOf at e
 split at e
 ·cases e; rw [Rep] at rv; obtain ⟨a, ys, rfl, _, h1, r1⟩ := rv; exact ⟨a, ys, rfl, .inl h1, r1⟩
 ·rw [Rep] at rv
  obtain ⟨a, ha, rfl⟩ := rv
  split at e
  ·cases e; obtain ⟨ys, h1, r1⟩ := W.lst ha ‹_›; exact ⟨a, ys, rfl, SqL.of h1, r1⟩
  ·cases e
 ·cases e
def sumOk (ns : List Int) : Prop := (∀ a, a ∈ ns -> 0 <= a /\ a <= 2 ^ 50) /\ ns.length <= 1000
instance (ns : List Int) : Decidable (sumOk ns) := by unfold sumOk; infer_instance
def allF (ds : List D) (m : Sto) : Res D := match ds with
 | [d] => match (lOf d m).bind asBls with
  | some bs => .ok (.bl (bs.all id)) m
  | none => .bad
 | _ => .bad
theorem fd_all : FnD K cl ex (fun xs H Q => ∃ (l : Addr) (bs : List Bool), xs = [.ref l] /\ SqL K H l (bs.map V.bl) /\ Q (.bl (bs.all id)) H) allF := fun α m H x vx Q W rx h => by
 unfold allF at h
 split at h
 ·split at h
  ·rename_i ns e
   obtain ⟨v, rfl, rv⟩ := rx.one_of
   obtain ⟨xs, e1, e2⟩ := Option.bind_eq_some_iff.mp e
   obtain ⟨p, ys, rfl, h1, r1⟩ := lOf_use W e1 rv
   rw [asBls_use e2 r1] at h1
   exact ⟨p, ns, rfl, h1, PQ.ok W h _ repB⟩
  ·exact h.elim
 ·exact h.elim
end
def eMeth (ty : D -> Sto -> Bool) (g : D -> List D -> Sto -> Res D) (fo : EV) (fr : AV) : EV := fun ρ m => (fo ρ m).bind fun o m1 => if ty o m1 = true then (fr ρ m1).bind fun ds m2 => g o ds m2 else .bad
def isStr (d : D) (_ : Sto) : Bool := match d with
 | .str _ => true
 | _ => false
def isTup (d : D) (_ : Sto) : Bool := match d with
 | .tup _ => true
 | _ => false
section
variable {X : Cx} {K : PySem.W.Frag} {cl : Str -> Addr} {ex : XD} {α : List Addr} {m : Sto} {H : Hp} {o e : Expr} {es : List Expr} {fo : EV} {fr : AV} {name : Str} {apos cpos : Pos} {T id : String} {r : V -> List V -> Hp -> VK -> Prop} {g : D -> List D -> Sto -> Res D} {ty : D -> Sto -> Bool}
end
section
variable {X : Cx} {K : PySem.W.Frag} {cl : Str -> Addr} {ex : XD} {α : List Addr} {m : Sto} {H : Hp}
def tyN (d : D) (m : Sto) : Option String := match d with
 | .non => some "NoneType"
 | .bl _ => some "bool"
 | .int _ => some "int"
 | .str _ => some "str"
 | .flt _ => some "float"
 | .tup _ => some "tuple"
 | .lst _ => some "list"
 | .ob k => match m[k]? with
  | some (.lst _) => some "list"
  | some (.dct _) => some "dict"
  | _ => none
 | _ => none
def isiB (t n : String) : Bool := t == n || (t == "bool" && n == "int")
def isiD (n : String) (d : D) (m : Sto) : Res D := match tyN d m with
 | some t => .ok (.bl (isiB t n)) m
 | none => .bad
def askTy : List String := ["int", "bool", "str", "tuple", "list", "dict"]
theorem kit_tab {d : D} {t n : String} (h : tyN d m = some t) (hn : n ∈ askTy) : PySem.W.kitOne K (.type t) (.type n) = some (isiB t n) := by
 have ht : t ∈ ["NoneType", "bool", "int", "str", "float", "tuple", "list", "dict"] := by
  unfold tyN at h
  split at h <;> first | (cases h; simp; done) | (split at h <;> first | (cases h; simp; done) | cases h) | cases h
 simp only [askTy, List.mem_cons, List.not_mem_nil, or_false] at hn ht
 rcases hn with rfl | rfl | rfl | rfl | rfl | rfl <;> rcases ht with rfl | rfl | rfl | rfl | rfl | rfl | rfl | rfl <;> rfl
theorem call_isiD {n : String} (hn : n ∈ askTy) : CallR X (.builtin "isinstance") (fun xs H Q => ∃ cl α m d v t, xs = [v, .ty n] /\ Wd X.K cl α m H /\ Rep X.K α H d v /\ tyN d m = some t /\ Q (.bl (isiB t n)) H) := by
 intro pins s σ H xs us Q I r h
 obtain ⟨cl, α, m, d, v, t, rfl, W, rv, ht, q⟩ := h
 obtain ⟨u, w, rfl, ru, rw'⟩ := vals2 r
 cases rw'
 have kt := kit_tab (K := X.K) ht hn
 have old : ∀ {t' : Value}, TyOf X.K H v t' -> t' = .type t -> wpAny (model X.prog X.w) X.A (call (.builtin "isinstance") [u, .type n]) (EP X pins σ Q) X.xe s := fun {t'} ty e => by
  subst e
  exact isinst_ok I ru ty kt fun tk => ⟨.bl _, H, I.tok _, rfl, q⟩
 unfold tyN at ht
 split at ht
 ·cases ht; rw [Rep] at rv; subst rv; exact old .non rfl
 ·cases ht; rw [Rep] at rv; subst rv; exact old (.bl _) rfl
 ·cases ht; rw [Rep] at rv; subst rv; exact old (.int _) rfl
 ·cases ht; rw [Rep] at rv; subst rv; exact old (.str _) rfl
 ·cases ht; rw [Rep] at rv; subst rv; exact old (.flt _) rfl
 ·cases ht
  rw [Rep] at rv
  obtain ⟨a, xs, rfl, h1, _⟩ := rv
  rcases h1 with h1 | ⟨o, _, _, k1, k2, _⟩
  ·exact old (.tup h1) rfl
  ·cases ru
   exact PySem.W.kia_one PySem.W.kitx_tuple I.kIn ⟨o, I.kIn a o k1, k2⟩ kt (fun z => nomatch z) fun tk => ⟨.bl _, H, I.tok _, rfl, q⟩
 ·cases ht
  rw [Rep] at rv
  obtain ⟨a, xs, rfl, _, h1, _⟩ := rv
  rcases h1 with h1 | ⟨o, h1⟩
  ·exact old (.lst h1) rfl
  ·exact old (.frz h1) rfl
 ·rw [Rep] at rv
  obtain ⟨a, ha, rfl⟩ := rv
  split at ht
  ·cases ht; obtain ⟨xs, h1, _⟩ := W.lst ha ‹_›; exact old (.lst h1) rfl
  ·cases ht; obtain ⟨xs, h1, _⟩ := W.dct ha ‹_›; exact old (.dK h1) rfl
  ·cases ht
 ·cases ht
theorem qe_isi {e : Expr} {fa : EV} {p p2 pos : Pos} {x : Str} {n : String} (hn : n ∈ askTy) (hg : Gl X "isinstance") (hm : X.mg "isinstance" = none) (hg2 : Gl X x) (hm2 : X.mg x = none) (hv : bootBuiltins x = some (.type n)) (ha : QE X cl ex e fa) (hx : autoParam (x ≠ "__name__") AutoP.a1._auto_1) (hdb : autoParam ((x == ("__debug__" : Str)) = false) AutoP.a1._auto_1)
  (he : autoParam (starEach [e, .Name x p2] X.env = (false, eval e X.env) :: starEach [.Name x p2] X.env) AutoP.a3._auto_1) (he2 : autoParam (starEach [.Name x p2] X.env = (false, eval (.Name x p2) X.env) :: starEach [] X.env) AutoP.a3._auto_1) (hpl : autoParam ((backTo pos (starEach [.Name x p2] X.env)).any (·.1) = false) AutoP.a3._auto_1) :
  QE X cl ex (.Call (.Name "isinstance" p) [e, .Name x p2] [] pos) (eUn (isiD n) fa) :=
 ⟨PE.weak (pe_callB (call_isiD hn) hg hm boot_isinstance (pa_cons ha.out (pa_cons (pe_bltn (v := .ty n) hg2 hm2 hv rfl hx hdb) pa_nil he2) he) (by decide) (by decide) he hpl) fun σ H Q hh => ex3 hh fun α ρ m W hr h => tD.use W hr h fun α1 m1 H1 d v E1 W1 hr1 rv q1 => by
  unfold isiD at q1
  split at q1
  ·exact ⟨cl, α1, m1, d, v, _, rfl, W1, rv, ‹_›, PQ.ok W1 q1 _ repB⟩
  ·exact q1.elim⟩
end
section
variable {X : Cx} {cl : Str -> Addr} {ex : XD} {o i e value : Expr} {fo fi fv : EV} {fr : AV} {pos p pos' : Pos}
def keyOf (d : D) : Option L2.Key := match d with
 | .int i => some (.inl i)
 | .str z => some (.inr z)
 | _ => none
def putS (x y v : D) (m : Sto) : Res Unit := match x with
 | .ob k => match m[k]?, keyOf y with
  | some (.dct kvs), some q => if kvs.length < sizeLine then .ok () (m.set k (.dct (putD kvs q v))) else .bad
  | some (.lst ds), some (.inl i) => match ixN ds.length i with
   | some j => .ok () (m.set k (.lst (ds.set j v)))
   | none => .bad
  | _, _ => .bad
 | _ => .bad
def putDS (x y v : D) (m : Sto) : Res Unit := match x with
 | .ob k => match m[k]? with
  | some (.dct kvs) => match keyOf y with
   | some q => if kvs.length < sizeLine then .ok () (m.set k (.dct (putD kvs q v))) else .bad
   | none => .bad
  | _ => .bad
 | _ => .bad
def sPutD (fo fi fv : EV) : SV := fun ρ m => (fv ρ m).bind fun v m1 => (fo ρ m1).bind fun x m2 => (fi ρ m2).bind fun y m3 => (putDS x y v m3).bind fun _ m4 => .ok (.nx ρ) m4
end
structure FnX (P : Program) (w : World) (K : PySem.W.Frag) (mg : Str -> Option Value) (base : Heap) (cl : Str -> Addr) (x : Str) (k n : Nat) (g : List D -> Sto -> Res D) : Prop where
 ex : ∃ (f : Addr) (fd : FuncData) (ps : List Str), mg x = some (.ref f) /\ PySem.W.keepIn K (.ref f) = true /\ Binds K fd ps [] /\ FnOk P w K mg base CX0 k f fd ps (spD K cl X0 n g)
theorem qe_fn {X : Cx} {cl : Str -> Addr} {e : Expr} {es : List Expr} {fr : AV} {p pos : Pos} {x : Str} {k n : Nat} {g : List D -> Sto -> Res D} (h : FnX X.prog X.w X.K X.mg X.base cl x k n g) (hn : n = (e :: es).length) (hr : Room k X.A) (hg : Gl X x)
  (ha : QA X cl X0 (e :: es) fr) (hlen : ∀ ρ m ds m1, fr ρ m = .ok ds m1 -> ds.length = (e :: es).length) (hdb : autoParam ((x == ("__debug__" : Str)) = false) AutoP.a1._auto_1) (he : autoParam (starEach (e :: es) X.env = (false, eval e X.env) :: starEach es X.env) AutoP.a3._auto_1) (hpl : autoParam ((backTo pos (starEach es X.env)).any (·.1) = false) AutoP.a3._auto_1) :
  QE X cl X0 (.Call (.Name x p) (e :: es) [] pos) (eFn g fr) := by
 obtain ⟨f, fd, ps, h1, h2, h3, h4⟩ := h.ex
 exact qe_call h4 hn hr hg h1 h2 h3 ha hlen hdb he hpl
theorem FnX.mk' {P : Program} {w : World} {K : PySem.W.Frag} {mg : Str -> Option Value} {base : Heap} {cl : Str -> Addr} {x qual : Str} {st : Stmt} {f : Addr} {fd : FuncData} {N ps : List Str} {k n : Nat} {body : SV} (F : Fun K x qual st f fd) (b : Binds K fd ps []) (m : mg x = some (.ref f)) (S : FnScope N ps (defScope st)) (hn : n = ps.length)
  (h : ∀ (cdv : Value) (A : Around) (outer : List PySem.Env) (s : Shared) (H : Hp) (E : XK), Room k (A.deeper (envOfC qual (defScope st) s.heap.objs.size f cdv)) -> QSs (cxOf CX0 P w K mg base N qual (defScope st) f cdv A outer s H E).nox cl X0 (defBody st) body) : FnX P w K mg base cl x (k + 1) n (runF N.length body) :=
 ⟨f, fd, ps, m, F.kp, b, F.ok S (fun vs H Q E h => by rw [<- hn]; exact h.1) fun cdv A outer s H vs Q E hr q => ⟨_, (h cdv A outer s H E hr).out, fn_d q⟩⟩
theorem fnO {P : Program} {w : World} {K : PySem.W.Frag} {mg : Str -> Option Value} {base : Heap} {cl : Str -> Addr} {x qual : Str} {st : Stmt} {f : Addr} {fd : FuncData} {N ps : List Str} {k n : Nat} {body : SV} (F : Fun K x qual st f fd) (S : FnScope N ps (defScope st)) (hn : n = ps.length)
  (h : ∀ (cdv : Value) (A : Around) (outer : List PySem.Env) (s : Shared) (H : Hp) (E : XK), Room k (A.deeper (envOfC qual (defScope st) s.heap.objs.size f cdv)) -> QSs (cxOf CX0 P w K mg base N qual (defScope st) f cdv A outer s H E).nox cl X0 (defBody st) body) : FnOk P w K mg base CX0 (k + 1) f fd ps (spD K cl X0 n (runF N.length body)) :=
 F.ok S (fun vs H Q E h => by rw [<- hn]; exact h.1) fun cdv A outer s H vs Q E hr q => ⟨_, (h cdv A outer s H E hr).out, fn_d q⟩
def spLaw (K : PySem.W.Frag) : Sp := fun vs H Q _ => ∃ (a : Addr) (ns : List Int), vs = [.ref a] /\ SqL K H a (ns.map V.int) /\ ns.length <= 63 /\ ∀ H', Q (.bl true) H'
theorem repL_ints {K : PySem.W.Frag} {α : List Addr} {H : Hp} : ∀ ns : List Int, RepL K α H (ns.map D.int) (ns.map V.int)
 | [] => by simp [RepL]
 | a :: r => by
  rw [List.map_cons, List.map_cons, RepL]
  exact ⟨_, _, rfl, by rw [Rep], repL_ints r⟩
theorem law_sp {K : PySem.W.Frag} {cl : Str -> Addr} {g : List D -> Sto -> Res D} (h : ∀ ns : List Int, ns.length <= 63 -> ∃ a m, g [.scr (ns.map D.int)] [] = .ok a m /\ a = .bl true) : ∀ vs H Q E, spLaw K vs H Q E -> spD K cl X0 1 g vs H Q E := by
 rintro vs H Q E ⟨a, ns, rfl, hS, hlen, q⟩
 obtain ⟨_, m', e, rfl⟩ := h ns hlen
 refine ⟨rfl, [], [], [.scr (ns.map D.int)], ⟨rfl, List.nodup_nil, fun k a o h => by simp at h⟩, ?_, ?_⟩
 ·rw [RepL]
  refine ⟨_, _, rfl, ?_, by rw [RepL]⟩
  rw [Rep]
  refine ⟨a, _, rfl, ?_, repL_ints ns⟩
  rcases hS with hS | hS
  ·exact .inl ⟨by simp, hS⟩
  ·exact .inr hS
 ·rw [e]
  intro α' H' _ _ v r
  rw [Rep] at r
  subst r
  exact q H'
theorem law_fn {P : Program} {w : World} {K : PySem.W.Frag} {mg : Str -> Option Value} {base : Heap} {cl : Str -> Addr} {k : Nat} {f : Addr} {fd : FuncData} {ps : List Str} {g : List D -> Sto -> Res D} (F : FnOk P w K mg base CX0 k f fd ps (spD K cl X0 1 g)) (h : ∀ ns : List Int, ns.length <= 63 -> ∃ a m, g [.scr (ns.map D.int)] [] = .ok a m /\ a = .bl true) : FnOk P w K mg base CX0 k f fd ps (spLaw K) := F.imp (law_sp h)
theorem usS {us : List Value} {n : Nat} (hl : us.length = n + 1) : ∃ a r, us = a :: r /\ r.length = n := by
 cases us with
 | nil => exact absurd hl (by simp)
 | cons a r => exact ⟨a, r, rfl, Nat.succ.inj hl⟩
theorem us0 {us : List Value} (hl : us.length = 0) : us = [] := List.length_eq_zero_iff.mp hl
theorem us1 {us : List Value} (hl : us.length = 1) : ∃ (a0 : Value), us = [a0] := by
 obtain ⟨a0, r, rfl, h⟩ := usS hl
 obtain rfl := us0 h
 exact ⟨a0, rfl⟩
theorem us2 {us : List Value} (hl : us.length = 2) : ∃ (a0 a1 : Value), us = [a0, a1] := by
 obtain ⟨a0, r, rfl, h⟩ := usS hl
 obtain ⟨a1, rfl⟩ := us1 h
 exact ⟨a0, a1, rfl⟩
theorem us3 {us : List Value} (hl : us.length = 3) : ∃ (a0 a1 a2 : Value), us = [a0, a1, a2] := by
 obtain ⟨a0, r, rfl, h⟩ := usS hl
 obtain ⟨a1, a2, rfl⟩ := us2 h
 exact ⟨a0, a1, a2, rfl⟩
theorem us4 {us : List Value} (hl : us.length = 4) : ∃ (a0 a1 a2 a3 : Value), us = [a0, a1, a2, a3] := by
 obtain ⟨a0, r, rfl, h⟩ := usS hl
 obtain ⟨a1, a2, a3, rfl⟩ := us3 h
 exact ⟨a0, a1, a2, a3, rfl⟩
def maxV (ns : List Int) : Int := ns.getD (argBest (fun i j => decide (ns.getD i 0 > ns.getD j 0)) (ns.length - 1)) 0
theorem toks_of {ns : List Int} {its : List Value} (r : Vals (ns.map V.int) its) : ∃ xs : Array (Int × Tok), its.toArray = intItems xs /\ xs.size = ns.length /\ ∀ i, numAt xs i = ns.getD i 0 := by
 induction ns generalizing its with
 | nil => cases r; exact ⟨#[], by simp [intItems], rfl, fun i => by simp [numAt]⟩
 | cons a ns ih =>
  cases r with
  | cons h r =>
   obtain ⟨t, rfl⟩ := h
   obtain ⟨xs, e, hs, hx⟩ := ih r
   refine ⟨⟨(a, t) :: xs.toList⟩, ?_, by simp [hs], fun i => ?_⟩
   ·have e' := congrArg Array.toList e
    simp only [intItems] at e' ⊢
    apply Array.ext'
    simpa using e'
   ·cases i with
    | zero => rfl
    | succ i =>
     have := hx i
     simpa [numAt] using this
theorem call_maxL {X : Cx} (hc : X.calm = true) : CallR X (.builtin "max") (fun xs H Q => ∃ (l : Addr) (ns : List Int), xs = [.ref l] /\ SqL X.K H l (ns.map V.int) /\ ns ≠ [] /\ Q (.int (maxV ns)) H) := by
 intro pins s σ H xs us Q I r h
 obtain ⟨l, ns, rfl, hq, hne, q⟩ := h
 obtain ⟨u, rfl, rx⟩ := vals1 r
 cases rx
 obtain ⟨its, r', pl, hz⟩ := I.list hq
 have hl := pl.isList
 obtain ⟨ys, e, hs, hx⟩ := toks_of r'
 rw [e] at hl
 refine max_intList (I.ok.hd hc) hl (by rw [hs]; exact List.length_pos_iff.mpr hne) fun v h' tk hv hk => ?_
 obtain ⟨t, rfl⟩ := intItems_at hv
 refine ⟨_, H, I.kept hk, ?_, q⟩
 have ef : numAt ys = fun i => ns.getD i 0 := funext hx
 refine ⟨t, ?_⟩
 rw [ef, hs]
 rfl
section
variable {K : PySem.W.Frag} {cl : Str -> Addr} {ex : XD}
def maxLF (ds : List D) (m : Sto) : Res D := match ds with
 | [d] => match (lOf d m).bind asInts with
  | some ns => if ns ≠ [] then .ok (.int (maxV ns)) m else .bad
  | none => .bad
 | _ => .bad
theorem fd_maxL : FnD K cl ex (fun xs H Q => ∃ (l : Addr) (ns : List Int), xs = [.ref l] /\ SqL K H l (ns.map V.int) /\ ns ≠ [] /\ Q (.int (maxV ns)) H) maxLF := fun α m H x vx Q W rx h => by
 unfold maxLF at h
 split at h
 ·split at h
  ·rename_i ns e
   obtain ⟨hc, h⟩ := PQ.if h
   obtain ⟨v, rfl, rv⟩ := rx.one_of
   obtain ⟨xs, e1, e2⟩ := Option.bind_eq_some_iff.mp e
   obtain ⟨p, ys, rfl, h1, r1⟩ := lOf_use W e1 rv
   rw [asInts_use e2 r1] at h1
   exact ⟨p, ns, rfl, h1, hc, PQ.ok W h _ repI⟩
  ·exact h.elim
 ·exact h.elim
end
theorem argBest_le {bt : Nat -> Nat -> Bool} : ∀ n, argBest bt n <= n
 | 0 => Nat.le_refl _
 | n + 1 => by
  unfold argBest
  split
  ·exact Nat.le_refl _
  ·exact Nat.le_succ_of_le (argBest_le n)
theorem best_gt (f : Nat -> Int) : ∀ n i, i <= n -> f i <= f (argBest (fun i j => decide (f i > f j)) n)
 | 0, i, h => by
  have : i = 0 := by omega
  subst this
  exact Int.le_refl _
 | n + 1, i, h => by
  unfold argBest
  by_cases c : f (n + 1) > f (argBest (fun i j => decide (f i > f j)) n)
  ·rw [if_pos (decide_eq_true c)]
   rcases Nat.lt_or_ge n i with hi | hi
   ·rw [show i = n + 1 by omega]; exact Int.le_refl _
   ·have := best_gt f n i hi
    omega
  ·rw [if_neg (by rw [decide_eq_true_eq]; exact c)]
   rcases Nat.lt_or_ge n i with hi | hi
   ·rw [show i = n + 1 by omega]; omega
   ·exact best_gt f n i hi
theorem getD_mem {ns : List Int} {i : Nat} (h : i < ns.length) : ns.getD i 0 ∈ ns := by
 rw [List.getD_eq_getElem?_getD, List.getElem?_eq_getElem h]
 exact List.getElem_mem h
theorem maxV_mem {ns : List Int} (h : ns ≠ []) : maxV ns ∈ ns := getD_mem (by have := argBest_le (bt := fun i j => decide (ns.getD i 0 > ns.getD j 0)) (ns.length - 1); have := List.length_pos_iff.mpr h; omega)
theorem le_maxV {ns : List Int} {a : Int} (h : a ∈ ns) : a <= maxV ns := by
 obtain ⟨i, hi, rfl⟩ := List.mem_iff_getElem.mp h
 have := best_gt (fun i => ns.getD i 0) (ns.length - 1) i (by omega)
 have e : ns.getD i 0 = ns[i] := by rw [List.getD_eq_getElem?_getD, List.getElem?_eq_getElem hi]; rfl
 rw [<- e]
 exact this
end MD
set_option autoImplicit false
namespace HT
open PySem PySem.Spec PyProof.Rows L2
end HT
namespace MD
open PySem PySem.Spec PyProof.Rows L2
def slA (x : D) (lo hi : Option Int) (m : Sto) : Res D := match x with
 | .tup ds => .ok (.tup (cutD ds lo hi)) m
 | d => slD d lo hi m
def eSlA (f : EV) (lo hi : OV) : EV := fun ρ m => (f ρ m).bind fun x m1 => (lo ρ m1).bind fun l m2 => (hi ρ m2).bind fun h m3 => slA x l h m3
end MD
set_option autoImplicit false
namespace HT
open PySem PySem.Spec PyProof.Rows L2
end HT
namespace MD
open PySem PySem.Spec PyProof.Rows L2
def fuelW : Nat := 1000000
def gRestOf0 : SV :=
 (sRet (eOp modD (eVar 0) (eOp shlD (eC (.int 1)) (eVar 1))))
def gRestOf : List D -> Sto -> Res D := runF 2 gRestOf0
def gIsWhole0 : SV :=
 (sRet (eAnd (eUn (isiD "int") (eVar 0)) (eNot (eUn (isiD "bool") (eVar 0)))))
def gIsWhole : List D -> Sto -> Res D := runF 1 gIsWhole0
section
variable {X : Cx} {K : PySem.W.Frag} {cl : Str -> Addr} {ex : XD} {o i : Expr} {fo fi : EV} {pos : Pos}
def putL (x y v : D) (m : Sto) : Res Unit := match x, y with
 | .ob k, .int i => match m[k]? with
  | some (.lst ds) => match ixN ds.length i with
   | some j => .ok () (m.set k (.lst (ds.set j v)))
   | none => .bad
  | _ => .bad
 | _, _ => .bad
def gI (fo fi : EV) : GV := fun d ρ m => (fo ρ m).bind fun x m1 => (fi ρ m1).bind fun y m2 => (putL x y d m2).bind fun _ m3 => .ok ρ m3
theorem RepL.put {α : List Addr} {H : Hp} {d : D} {v : V} (h : Rep K α H d v) : ∀ {ds : List D} {vs : List V} (j : Nat), RepL K α H ds vs -> RepL K α H (ds.set j d) (vs.set j v)
 | [], vs, j, r => by
  rw [RepL] at r
  subst r
  simp [RepL]
 | e :: ds, vs, j, r => by
  rw [RepL] at r
  obtain ⟨u, us, rfl, r1, r2⟩ := r
  cases j with
  | zero => rw [List.set_cons_zero, List.set_cons_zero, RepL]; exact ⟨v, us, rfl, h, r2⟩
  | succ j => rw [List.set_cons_succ, List.set_cons_succ, RepL]; exact ⟨u, _, rfl, r1, RepL.put h j r2⟩
theorem qg_item (ho : QE X cl ex o fo) (hi : QE X cl ex i fi) (ha : autoParam (∀ v, assign (.Subscript o i pos) X.env v = (do
   let ov <- holding [v] (eval o X.env)
   let iv <- holding [v, ov] (eval i X.env)
   standAt pos
   holding [v, ov, iv] (setItem ov iv v)
   release [v, ov, iv] [])) AutoP.a2._auto_1) : QG X cl ex (.Subscript o i pos) (gI fo fi) :=
 ⟨PG.weak (pg_sub ho.out hi.out set_list ha) fun v σ H Q ⟨α, ρ, m, d, W, hr, rv, h⟩ => tD.use W hr h fun α1 m1 H1 dx x E1 W1 hr1 rx q1 => tD.use W1 hr1 q1 fun α2 m2 H2 dy y E2 W2 hr2 ry q2 => by
  have rv := rv.mono W (E1.trans E2)
  have rx := rx.mono W1 E2
  unfold putL at q2
  split at q2
  ·rw [Rep] at rx
   rw [Rep] at ry
   obtain ⟨a, ha, rfl⟩ := rx
   subst ry
   split at q2
   ·rename_i ds e
    split at q2
    ·rename_i j' ej
     obtain ⟨ys, h1, r1⟩ := W2.lst ha e
     obtain ⟨W4, E4⟩ := W2.set (u := .lst (ys.set j' v)) (o := .lst (ds.set j' d)) ha fun E => ⟨_, upd_same, RepL.put (rv.mono W2 E) j' (r1.mono W2 E)⟩
     refine ⟨a, ys, _, j', rfl, rfl, h1, by rw [<- r1.length]; exact ej, ?_⟩
     exact (show PQ X.K cl ex (.ok ρ (m2.set _ (.lst (ds.set j' d)))) α2 H2 _ from q2) _ _ E4 W4 _ (hr2.mono W2 E4)
    ·exact q2.elim
   ·exact q2.elim
  ·exact q2.elim⟩
end
section
variable {X : Cx} {K : PySem.W.Frag} {cl : Str -> Addr} {ex : XD}
def ixS (x y : D) (m : Sto) : Res D := match x, y with
 | .scr ds, .int i => opt (L2.atI ds i) m
 | _, _ => .bad
theorem od_ixS : OpD K cl ex (rIxA K) ixS := fun α m H x y vx vy Q W rx ry h => by
 unfold ixS at h
 split at h
 ·obtain ⟨d, e, h⟩ := opt_use h
  rw [Rep] at rx
  rw [Rep] at ry
  obtain ⟨a, xs, rfl, h1, r1⟩ := rx
  obtain ⟨v, e2, rv⟩ := r1.atI e
  exact .inl (.inl ⟨a, xs, _, v, rfl, ry, h1.sq, e2, PQ.ok W h _ rv⟩)
 ·exact h.elim
end
def gLawPot20 : SV :=
 (sSeq (sAsg (eIf (tV (eOp ltD (eVar 1) (eFn lenF (aCons (eVar 0) aNil)))) (eOp ixS (eVar 0) (eVar 1)) (eOp addD (eFn lenF (aCons (eVar 0) aNil)) (eVar 1))) (gN 2))
 (sSeq (sAsg (eOp mulD (eOp modD (eFn absF (aCons (eVar 2) aNil)) (eFn intF (aCons (eOp addD (eC (.str "1")) (eOp mulD (eC (.str "0")) (eC (.int 300)))) aNil))) (eFn intF (aCons (eOp geD (eFn absF (aCons (eVar 2) aNil)) (eOp powD (eC (.int 10)) (eC (.int 18)))) aNil))) (gN 3))
 (sRet (eFn gNewL (aCons (eVar 3) (aCons (eOp modD (eOp mulD (eOp addD (eOp addD (eOp modD (eVar 2) (eC (.int 2305843009213693921))) (eOp mulD (eC (.int 104729)) (eVar 1))) (eC (.int 5))) (eC (.int 48271))) (eC (.int 2305843009213693951))) aNil))))))
def gLawPot2 : List D -> Sto -> Res D := runF 4 gLawPot20
def gLawDraw0 : SV :=
 (sSeq (sIf (tV (eOp gtD (eOp ixD (eVar 0) (eC (.int 0))) (eC (.int 0))))
 (sSeq (sAsg (eFn gTup (aCons (eOp fdivD (eOp ixD (eVar 0) (eC (.int 0))) (eVar 1)) (aCons (eOp modD (eOp ixD (eVar 0) (eC (.int 0))) (eVar 1)) aNil))) (gT 2 (gsCons (gI (eVar 0) (eC (.int 0))) (gsCons (gN 2) gsNil))))
 (sRet (eVar 2)))
 sNil)
 (sSeq (sAsg (eOp modD (eOp addD (eOp mulD (eOp ixD (eVar 0) (eC (.int 1))) (eC (.int 6364136223846793005))) (eC (.int 1442695040888963407))) (eC (.int 2305843009213693951))) (gI (eVar 0) (eC (.int 1))))
 (sSeq (sAsg (eOp fdivD (eOp ixD (eVar 0) (eC (.int 1))) (eC (.int 131071))) (gN 3))
 (sRet (eOp modD (eOp fdivD (eOp modD (eOp mulD (eVar 3) (eVar 3)) (eC (.int 1000000007))) (eC (.int 7))) (eVar 1))))))
def gLawDraw : List D -> Sto -> Res D := runF 4 gLawDraw0
def gLawValue20 : SV :=
 (sSeq (sAsg (eOp subD (eOp shlD (eC (.int 1)) (eVar 1)) (eC (.int 1))) (gN 2))
 (sSeq (sAsg (eC (.int 0)) (gN 3))
 (sSeq (sFor (aRng rng1 (aCons (eC (.int 3)) aNil)) (gN 4)
 (sAsg (eOp addD (eOp mulD (eVar 3) (eOp shlD (eC (.int 1)) (eC (.int 20)))) (eFn gLawDraw (aCons (eVar 0) (aCons (eOp shlD (eC (.int 1)) (eC (.int 20))) aNil)))) (gN 3)))
 (sSeq (sAsg (eFn gLst (aCons (eC (.int 0)) (aCons (eVar 2) (aCons (eOp fdivD (eVar 2) (eC (.int 2))) (aCons (eFn min2F (aCons (eVar 2) (aCons (eOp addD (eOp fdivD (eVar 2) (eC (.int 2))) (eC (.int 1))) aNil))) (aCons (eFn min2F (aCons (eVar 2) (aCons (eFn gLawDraw (aCons (eVar 0) (aCons (eC (.int 4)) aNil))) aNil))) (aCons (eOp modD (eVar 3) (eOp addD (eVar 2) (eC (.int 1)))) (aCons (eOp modD (eVar 3) (eOp addD (eVar 2) (eC (.int 1)))) aNil)))))))) (gN 5))
 (sRet (eOp ixD (eVar 5) (eFn gLawDraw (aCons (eVar 0) (aCons (eC (.int 7)) aNil)))))))))
def gLawValue2 : List D -> Sto -> Res D := runF 6 gLawValue20
end MD
namespace L2
open PySem PySem.Spec PyProof.Rows
section
variable {prog : Program} {w : World} {A : Around} {E : Value -> Shared -> Prop} {s : Shared}
theorem push2 {h : Heap} {o o2 : Obj} {b : Addr} {x : Obj} (e : h.get? b = some x) : ((h.push o).push o2).get? b = some x := Heap.get?_push_of_some _ (Heap.get?_push_of_some _ e)
abbrev noSet (led : Bool) : Obj := { cls := .type "set", dict := none, data := .set #[] 0 (.fresh 0 0 led) }
end
theorem vals_intsS : ∀ {ns : List Int} {us : List Value}, Vals (ns.map V.int) us -> IntsAre us ns
 | [], _, h => by cases h; exact .nil
 | n :: r, _, h => by
  cases h with
  | cons a b =>
   obtain ⟨t, rfl⟩ := a
   exact .cons n t (vals_intsS b)
variable {X : Cx} {e : Expr} {te : TE} {pos : Pos}
end L2
set_option autoImplicit false
namespace MD
open PySem PySem.Spec PyProof.Rows L2
open Classical in
def grd {τ : Type} (k : Nat) (o : MO) (m : Sto) (r : Res τ) : Res τ := if m[k]? = some o then r else .bad
def loopO (k : Nat) (o : MO) (g : GV) (body : SV) : List D -> En -> Sto -> Res Fl
 | [], ρ, m => grd k o m (.ok (.nx ρ) m)
 | d :: r, ρ, m => grd k o m ((g d ρ m).bind fun ρ1 m1 => (body ρ1 m1).bind fun fl m2 => match fl with
  | .nx ρ2 => loopO k o g body r ρ2 m2
  | .ct ρ2 => loopO k o g body r ρ2 m2
  | .bk ρ2 => .ok (.nx ρ2) m2
  | .rt d => .ok (.rt d) m2)
abbrev OI := En -> Sto -> Res (Nat × MO × List D)
def asObj (d : D) (m : Sto) : Res (Nat × MO × List D) := match d with
 | .ob k => match m[k]? with
  | some (.lst xs) => .ok (k, .lst xs, xs) m
  | _ => .bad
 | _ => .bad
def aObj (fa : EV) : OI := fun ρ m => (fa ρ m).bind asObj
def sForO (it : OI) (g : GV) (body : SV) : SV := fun ρ m => (it ρ m).bind fun t m1 => loopO t.1 t.2.1 g body t.2.2 ρ m1
end MD
set_option autoImplicit false
namespace L2
open PySem PySem.Spec PyProof.Rows
end L2
namespace MD
open PySem L2
variable {K : PySem.W.Frag} {cl : Str -> Addr} {ex : XD}
end MD
set_option autoImplicit false
namespace MD
open PySem PySem.Spec PyProof.Rows L2
def lstRF (ds : List D) (m : Sto) : Res D := match ds with
 | [.int j] => if 0 <= j /\ j <= 1000 then .ok (.lst (intsD 0 j.toNat)) m else .bad
 | _ => .bad
theorem repL_rng {K : PySem.W.Frag} {α : List Addr} {H : Hp} : ∀ (l : List Nat), RepL K α H (l.map fun i : Nat => D.int (0 + (i : Nat))) (l.map fun i : Nat => V.int (i : Int))
 | [] => by simp [RepL]
 | i :: r => by
  rw [List.map_cons, List.map_cons, RepL]
  exact ⟨_, _, rfl, by rw [Rep, Int.zero_add], repL_rng r⟩
section
variable {X : Cx} {cl : Str -> Addr} {ex : XD} {a : Expr} {fr : AV} {p p2 pos pos2 : Pos}
theorem qe_lstR (hc : X.calm = true) (hg : Gl X "list") (hm : X.mg "list" = none) (hg2 : Gl X "range") (hm2 : X.mg "range" = none) (ha : QA X cl ex [a] fr)
  (he : autoParam (starEach [Expr.Call (.Name "range" p2) [a] [] pos2] X.env = (false, eval (Expr.Call (.Name "range" p2) [a] [] pos2) X.env) :: starEach [] X.env) AutoP.a3._auto_1) (hpl : autoParam ((backTo pos (starEach [] X.env)).any (·.1) = false) AutoP.a3._auto_1)
  (he2 : autoParam (starEach [a] X.env = (false, eval a X.env) :: starEach [] X.env) AutoP.a3._auto_1) (hpl2 : autoParam ((backTo pos2 (starEach [] X.env)).any (·.1) = false) AutoP.a3._auto_1) :
  QE X cl ex (.Call (.Name "list" p) [.Call (.Name "range" p2) [a] [] pos2] [] pos) (eFn lstRF fr) :=
 ⟨PE.weak (pe_callTy (call_list_rng hc) hg hm boot_list (pa_cons (pe_callTy call_rng hg2 hm2 boot_range ha.out (by decide) (by decide) he2 hpl2) pa_nil he) (by decide) (by decide) he hpl) fun σ H Q hh => ex3 hh fun α ρ m W hr h => tDA.use W hr h fun α1 m1 H1 d v E1 W1 hr1 rv q1 => by
  unfold lstRF at q1
  split at q1
  ·rename_i j
   obtain ⟨hj, q2⟩ := PQ.if q1
   obtain ⟨v, rfl, r1⟩ := rv.one_of
   rw [Rep] at r1
   subst r1
   refine ⟨j, rfl, hj.1, by omega, fun q hq => ?_⟩
   refine ⟨q, j.toNat, rfl, ?_, by omega, fun l hl => ?_⟩
   ·rw [upd_same]
    congr 2
    omega
   ·have W2 := W1.same (Same.new (o := .rng 0 j) hq)
    have s3 : Same H1 (upd (upd H1 q (.rng 0 j)) l (.lst ((List.range j.toNat).map fun i : Nat => V.int (i : Int)))) := fun b o e => Same.new hl b o (Same.new hq b o e)
    exact PQ.okS W1 s3 q2 _ (rep_lst W2 hl (repL_rng _))
  ·exact q1.elim⟩
end
def fldM (c f : Str) (x : D) (m : Sto) : Res D := match x with
 | .ob k => match m[k]? with
  | some (.ins c' fs) => if c' = c then opt (fs.lookup f) m else .bad
  | _ => .bad
 | _ => .bad
def eFld (c f : Str) (fa : EV) : EV := fun ρ m => (fa ρ m).bind (fldM c f)
def putFD (f : Str) (v : D) : List (Str × D) -> List (Str × D)
 | [] => [(f, v)]
 | (g, x) :: r => if g = f then (g, v) :: r else (g, x) :: putFD f v r
def setM (c f : Str) (x y : D) (m : Sto) : Res Unit := match x with
 | .ob k => match m[k]? with
  | some (.ins c' fs) => if c' = c /\ fs.length < 1000 then .ok () (m.set k (.ins c (putFD f y fs))) else .bad
  | _ => .bad
 | _ => .bad
def sFldM (c f : Str) (fo fv : EV) : SV := fun ρ m => (fv ρ m).bind fun y m1 => (fo ρ m1).bind fun x m2 => (setM c f x y m2).bind fun _ m3 => .ok (.nx ρ) m3
def insOk (c mth : Str) (x : D) (m : Sto) : Bool := match x with
 | .ob k => match m[k]? with
  | some (.ins c' fs) => decide (c' = c) && (fs.lookup mth).isNone
  | _ => false
 | _ => false
def eMth (c mth : Str) (g : List D -> Sto -> Res D) (fo : EV) (fr : AV) : EV := fun ρ m => (fo ρ m).bind fun x m1 => if insOk c mth x m1 = true then (fr ρ m1).bind fun ds m2 => g (x :: ds) m2 else .bad
end MD
set_option autoImplicit false
namespace L2
open PySem PySem.Spec PyProof.Rows
end L2
namespace MD
open PySem PySem.Spec PyProof.Rows L2
end MD
namespace PySem
open Sem (wp)
open Builtin
end PySem
set_option autoImplicit false
namespace L2
open PySem PySem.Spec PyProof.Rows
end L2
namespace MD
open PySem PySem.Spec PyProof.Rows L2
def gWidthFor0 : SV :=
 (sSeq (sAsg (eC (.int 0)) (gN 1))
 (sSeq (sAsg (eC (.int 1)) (gN 2))
 (sSeq (sWhile fuelW (tV (eOp ltD (eVar 2) (eVar 0)))
 (sSeq (sAsg (eOp mulD (eVar 2) (eC (.int 2))) (gN 2))
 (sAsg (eOp addD (eVar 1) (eC (.int 1))) (gN 1))))
 (sRet (eVar 1)))))
def gWidthFor : List D -> Sto -> Res D := runF 3 gWidthFor0
theorem ris_lt {xs : Array Nat} (h : xs.toList.Pairwise (· < ·)) {i k x y : Nat} (hik : i < k) (hx : xs[i]? = some x) (hy : xs[k]? = some y) : x < y := by
 rw [<- Array.getElem?_toList] at hx hy
 obtain ⟨h1, e1⟩ := List.getElem?_eq_some_iff.mp hx
 obtain ⟨h2, e2⟩ := List.getElem?_eq_some_iff.mp hy
 have := List.pairwise_iff_getElem.mp h i k h1 h2 hik
 rw [e1, e2] at this
 exact this
theorem below_go {xs : Array Nat} {j : Nat} (hx : xs.toList.Pairwise (· < ·)) : ∀ (fuel lo hi : Nat), hi <= xs.size -> hi - lo <= fuel -> lo <= hi →
  (∀ i x, i < lo -> xs[i]? = some x -> x < j) -> (∀ i x, hi <= i -> xs[i]? = some x -> j <= x) →
  (∀ i x, i < SetTable.below.go xs j fuel lo hi -> xs[i]? = some x -> x < j) /\ (∀ i x, SetTable.below.go xs j fuel lo hi <= i -> xs[i]? = some x -> j <= x)
 | 0, lo, hi, _, hf, hl, h1, h2 => by
  have e : lo = hi := by omega
  subst e
  exact ⟨h1, h2⟩
 | fuel + 1, lo, hi, hs, hf, hl, h1, h2 => by
  unfold SetTable.below.go
  by_cases c : lo < hi
  ·rw [if_pos c]
   have hm : (lo + hi) / 2 < xs.size := by omega
   have hg : xs[(lo + hi) / 2]? = some xs[(lo + hi) / 2] := by simp [hm]
   have hd : xs.getD ((lo + hi) / 2) j = xs[(lo + hi) / 2] := by simp [Array.getD, hm]
   dsimp only
   rw [hd]
   by_cases d : xs[(lo + hi) / 2] < j
   ·rw [if_pos d]
    refine below_go hx fuel _ hi hs (by omega) (by omega) (fun i x hi' hx' => ?_) h2
    rcases Nat.lt_or_ge i ((lo + hi) / 2) with q | q
    ·exact Nat.lt_trans (ris_lt hx q hx' hg) d
    ·have e : i = (lo + hi) / 2 := by omega
     subst e
     rw [hg] at hx'
     cases hx'
     exact d
   ·rw [if_neg d]
    refine below_go hx fuel lo _ (by omega) (by omega) (by omega) h1 fun i x hi' hx' => ?_
    rcases Nat.lt_or_ge ((lo + hi) / 2) i with q | q
    ·have := ris_lt hx q hg hx'
     omega
    ·have e : i = (lo + hi) / 2 := by omega
     subst e
     rw [hg] at hx'
     cases hx'
     omega
  ·rw [if_neg c]
   have e : lo = hi := by omega
   subst e
   exact ⟨h1, h2⟩
theorem below_ok {xs : Array Nat} (hx : xs.toList.Pairwise (· < ·)) (j : Nat) :
  (∀ i x, i < SetTable.below xs j -> xs[i]? = some x -> x < j) /\ (∀ i x, SetTable.below xs j <= i -> xs[i]? = some x -> j <= x) :=
 below_go hx xs.size 0 xs.size (Nat.le_refl _) (Nat.le_refl _) (Nat.zero_le _) (fun _ _ h => absurd h (Nat.not_lt_zero _)) fun i x h e => by
  rw [Array.getElem?_eq_none h] at e; cases e
theorem ris_insert {xs : Array Nat} {j : Nat} (hx : xs.toList.Pairwise (· < ·)) (hn : xs[SetTable.below xs j]? ≠ some j) :
  (SetTable.insertAt xs (SetTable.below xs j) j).toList.Pairwise (· < ·) := by
 obtain ⟨b1, b2⟩ := below_ok hx j
 rw [SetTable.toList_insertAt]
 generalize SetTable.below xs j = p at b1 b2 hn ⊢
 refine List.pairwise_append.mpr ⟨hx.sublist (List.take_sublist _ _), List.pairwise_cons.mpr ⟨fun y hy => ?_, hx.sublist (List.drop_sublist _ _)⟩, fun a ha b hb => ?_⟩
 ·obtain ⟨i, hi⟩ := List.mem_iff_getElem?.mp hy
  rw [List.getElem?_drop, Array.getElem?_toList] at hi
  have q := b2 _ _ (Nat.le_add_right p i) hi
  rcases Nat.lt_or_ge j y with r | r
  ·exact r
  ·have e : y = j := by omega
   subst e
   rcases Nat.eq_zero_or_pos i with z | z
   ·subst z; exact absurd hi hn
   ·obtain ⟨x, hx'⟩ : ∃ x, xs[p]? = some x := by
     have : p + i < xs.size := by
      rcases Nat.lt_or_ge (p + i) xs.size with t | t
      ·exact t
      ·rw [Array.getElem?_eq_none t] at hi; cases hi
     exact ⟨xs[p]'(by omega), by simp⟩
    have := ris_lt hx (by omega : p < p + i) hx' hi
    have := b2 p x (Nat.le_refl _) hx'
    omega
 ·obtain ⟨i, hi⟩ := List.mem_iff_getElem?.mp ha
  have hlt : i < p := by
   rcases Nat.lt_or_ge i p with t | t
   ·exact t
   ·rw [List.getElem?_take_eq_none t] at hi; cases hi
  rw [List.getElem?_take_of_lt hlt, Array.getElem?_toList] at hi
  have ha' := b1 i a hlt hi
  rcases List.mem_cons.mp hb with rfl | hb
  ·exact ha'
  ·obtain ⟨k, hk⟩ := List.mem_iff_getElem?.mp hb
   rw [List.getElem?_drop, Array.getElem?_toList] at hk
   have := b2 _ _ (Nat.le_add_right p k) hk
   omega
structure Tb (t : SetTable) (b : Bool) : Prop where
 ris : t.place.toList.Pairwise (· < ·)
 dum : t.dummies = #[]
 led : t.led = b
theorem has_none (j : Nat) : SetTable.has #[] j = false := by
 unfold SetTable.has; simp
theorem slot_nodum {t : SetTable} (hd : t.dummies = #[]) (j : Nat) : t.slot j ≠ .dummy := by
 unfold SetTable.slot
 dsimp only
 rw [hd, has_none]
 split
 ·intro h; cases h
 ·simp
theorem slot_free {t : SetTable} {j : Nat} (h : t.slot j = .empty) : t.place[SetTable.below t.place j]? ≠ some j := by
 intro e
 unfold SetTable.slot at h
 dsimp only at h
 rw [e] at h
 simp at h
theorem adv_dummy (t : SetTable) (p : SetTable.Probe) : (t.advance p).dummy = p.dummy := by
 unfold SetTable.advance
 split
 ·rfl
 ·rfl
theorem probe_empty {t : SetTable} (hd : t.dummies = #[]) {f : Nat -> Int} {h : Int} {j : Nat} {d : Option Nat} : ∀ (fuel : Nat) (p : SetTable.Probe), p.dummy = none →
  SetTable.probe.go t f h fuel p = some (.empty j d) -> d = none /\ t.slot j = .empty
 | 0, p, _, e => by simp [SetTable.probe.go] at e
 | fuel + 1, p, hp, e => by
  unfold SetTable.probe.go at e
  cases hs : t.slot p.j with
  | empty =>
   rw [hs] at e
   simp only [Option.some.injEq, SetTable.Met.empty.injEq] at e
   rw [<- e.1, <- e.2]
   exact ⟨hp, hs⟩
  | dummy => exact absurd hs (slot_nodum hd _)
  | live i =>
   rw [hs] at e
   dsimp only at e
   split at e
   ·cases e
   ·exact probe_empty hd fuel _ ((adv_dummy t p).trans hp) e
theorem free_tb {t : SetTable} (hd : t.dummies = #[]) {h : Int} {j : Nat} {d : Bool} (e : t.freeSlot h = some (j, d)) : t.slot j = .empty := by
 unfold SetTable.freeSlot at e
 split at e
 ·rename_i j' d' hm
  obtain ⟨rfl, hs⟩ := probe_empty hd _ _ rfl hm
  simp at e
  rw [<- e.1]
  exact hs
 ·cases e
theorem tb_stand {t : SetTable} {b : Bool} (T : Tb t b) (n : Nat) : Tb (t.standIn n) b :=
 ⟨by simp only [SetTable.standIn, Array.toList_range]; exact List.pairwise_lt_range, rfl, T.led⟩
theorem tb_put {t : SetTable} {b : Bool} (T : Tb t b) {j : Nat} (h : t.slot j = .empty) : Tb (t.put j).1 b :=
 ⟨ris_insert T.ris (slot_free h), by unfold SetTable.put; dsimp only; rw [T.dum, has_none]; rfl, T.led⟩
theorem tb_or {t : SetTable} {b : Bool} (T : Tb t b) (n : Nat) : Tb (t.orStandIn n) b := by
 unfold SetTable.orStandIn
 split
 ·exact T
 ·exact tb_stand T n
theorem tb_new {t : SetTable} {b : Bool} (T : Tb t b) (es : Array (Int × Value)) (h : Int) (x : Value) : Tb (layNew t es h x).2.1 b := by
 unfold layNew
 split
 ·rename_i j d e
  exact tb_or (tb_put T (free_tb T.dum e)) _
 ·exact tb_stand T _
theorem tb_plain {t : SetTable} {b : Bool} (T : Tb t b) (p : Bool) : Tb { t with plain := p } b := ⟨T.ris, T.dum, T.led⟩
theorem laid_ris (m : Nat) (f : Nat -> Option Nat) : (((List.range m).filterMap fun j => (f j).map (j, ·)).map (·.1)).Pairwise (· < ·) := by
 rw [List.map_filterMap]
 refine List.Pairwise.sublist (l₂ := List.range m) ?_ List.pairwise_lt_range
 have : ∀ l : List Nat, List.Sublist (l.filterMap fun j => Option.map (fun x : Nat × Nat => x.1) ((f j).map (j, ·))) l := by
  intro l
  induction l with
  | nil => exact .slnil
  | cons a l ih =>
   rw [List.filterMap_cons]
   cases f a with
   | none => exact ih.cons _
   | some y => exact ih.cons₂ _
 exact this _
theorem tb_relay {t : SetTable} {b : Bool} (T : Tb t b) (es : Array (Int × Value)) (n : Nat) : Tb (relayAll t es n).2.1 b := by
 unfold relayAll
 split
 ·rename_i t' order e
  have T' : Tb t' b := by
   unfold SetTable.relaid SetTable.laid at e
   simp only [Option.bind_eq_bind, Option.bind_eq_some_iff] at e
   obtain ⟨owner, _, e⟩ := e
   simp only [Option.pure_def, Option.some.injEq, Prod.mk.injEq] at e
   rw [<- e.1]
   exact ⟨laid_ris _ _, rfl, T.led⟩
  dsimp only
  split
  ·exact T'
  ·exact tb_stand T _
 ·exact tb_stand T _
def ival : Value -> Int
 | .int k _ => k
 | _ => 0
def SetAt (prog : Program) (w : World) (h : Heap) (a : Addr) (σ : List Int) (b : Bool) : Prop :=
 ∃ o es ep t, h.get? a = some o /\ o.ExactSet /\ o.data = .set es ep t /\ ElemsOf (intKind prog w) es.toList /\ (es.toList.map fun e => ival e.2).Perm σ /\ es.size < scanBound /\ t.fits es.size = true /\ Tb t b
section
variable {prog : Program} {w : World} {A : Around} {E : Value -> Shared -> Prop} {s : Shared} {a : Addr} {σ : List Int} {b : Bool}
theorem SetAt.keep {h h' : Heap} (x : SetAt prog w h a σ b) (hk : ∀ o, h.get? a = some o -> h'.get? a = some o) : SetAt prog w h' a σ b :=
 let ⟨o, es, ep, t, ho, r⟩ := x; ⟨o, es, ep, t, hk o ho, r⟩
theorem ival_is {k : Int} {v : Value} (h : (intKind prog w).is k v = true) : ival v = k := by
 obtain ⟨t, rfl⟩ := Value.isInt_shape h; rfl
theorem setAt_store {h : Heap} {o : Obj} {es : Array (Int × Value)} {ep : Nat} {t : SetTable} (ho : h.get? a = some o) (hex : o.ExactSet) (hd : o.data = .set es ep t)
  {es' : Array (Int × Value)} {t' : SetTable} (hel : ElemsOf (intKind prog w) es'.toList) (hp : (es'.toList.map fun e => ival e.2).Perm σ) (hb : es'.size < scanBound) (hf : t'.fits es'.size = true) (T : Tb t' b) :
  (h.update a (Obj.putSet es' t')).get? a = some { o with data := .set es' (ep + 1) t' } /\ SetAt prog w (h.update a (Obj.putSet es' t')) a σ b := by
 have hg : (h.update a (Obj.putSet es' t')).get? a = some { o with data := .set es' (ep + 1) t' } := by
  have := Heap.get?_update_self (Obj.putSet es' t') ho (by rw [putSet_of es' t' hd]; rfl)
  rw [putSet_of es' t' hd] at this; exact this
 exact ⟨hg, _, es', ep + 1, t', hg, hex, rfl, hel, hp, hb, hf, T⟩
theorem set_tail {g : Bool -> Sem Unit} (hg : ∀ (b : Bool) (s₁ : Shared) (Q' : Unit -> Shared -> Prop), Q' () s₁ -> wpAny (model prog w) A (g b) Q' E s₁)
  {o : Obj} {es : Array (Int × Value)} {ep : Nat} {t : SetTable} (ho : s.heap.get? a = some o) (hex : o.ExactSet) (hd : o.data = .set es ep t)
  {es1 : Array (Int × Value)} {t2 : SetTable} (hel1 : ElemsOf (intKind prog w) es1.toList) (hp1 : (es1.toList.map fun e => ival e.2).Perm σ)
  (hb1 : es1.size < scanBound) (hf2 : t2.fits es1.size = true) (T : Tb t2 b) {wd : Bool} {R : Option Bool -> Shared -> Prop}
  (h : ∀ h', Heap.SameBut a s.heap h' -> SetAt prog w h' a σ b -> R (some true) { s with heap := h' }) :
  wpAny (model prog w) A (do
    storeSet a es1 t2
    if (!wd && t2.tooFull) = true then do
      g (relayAll t2 es1 (SetTable.grown es1.size)).2.2
      storeSet a (relayAll t2 es1 (SetTable.grown es1.size)).1 (relayAll t2 es1 (SetTable.grown es1.size)).2.1
      pure (some true)
     else pure (some true)) R E s := by
 refine wpAny_bind (wpAny_storeSet_of ho hd ?_ (fits_of_scanBound hb1))
 obtain ⟨ho1, hS1⟩ := setAt_store (prog := prog) (w := w) ho hex hd hel1 hp1 hb1 hf2 T
 have hsb1 := Heap.SameBut.update s.heap a (Obj.putSet es1 t2)
 split
 ·have hp := relayAll_perm t2 es1 (SetTable.grown es1.size)
  have hfr := relayAll_fits t2 es1 (SetTable.grown es1.size)
  have T2 := tb_relay T es1 (SetTable.grown es1.size)
  generalize relayAll t2 es1 (SetTable.grown es1.size) = Rl at hp hfr T2 ⊢
  obtain ⟨es2, t3, gave2⟩ := Rl
  dsimp only at hp hfr T2 ⊢
  have hsz : es2.size = es1.size := by rw [<- Array.length_toList, hp.length_eq, Array.length_toList]
  have hb2 : es2.size < scanBound := by rw [hsz]; exact hb1
  refine wpAny_bind (hg _ _ _ ?_)
  refine wpAny_bind (wpAny_storeSet_of ho1 rfl ?_ (fits_of_scanBound hb2))
  obtain ⟨_, hS2⟩ := setAt_store (prog := prog) (w := w) ho1 hex rfl (hel1.perm hp) ((hp.map _).trans hp1) hb2 hfr T2
  exact wpAny_pure (h _ (hsb1.trans (Heap.SameBut.update _ a _)) hS2)
 ·exact wpAny_pure (h _ hsb1 hS1)
theorem set_add {k : Int} {tk : Tok} {Q : Bool -> Shared -> Prop} (hS : SetAt prog w s.heap a σ b) (hroom : σ.length + 1 < scanBound)
  (h : ∀ r h', Heap.SameBut a s.heap h' -> SetAt prog w h' a (step_dedup σ k) b -> Q r { s with heap := h' }) :
  wpAny (model prog w) A (setAddHashed a (.int k tk) ((intKind prog w).hash k)) Q E s := by
 obtain ⟨o, es, ep, t, ho, hex, hd, hel, hp, hb, hf, T⟩ := hS
 have hkey := intKind_is prog w k tk
 have hn : es.size = σ.length := by rw [<- hp.length_eq, List.length_map, Array.length_toList]
 have hsc : (Value.int k tk).scannable = true := rfl
 have hany : σ.any (· == k) = true ↔ ∃ e ∈ es.toList, (intKind prog w).is k e.2 = true := by
  rw [List.any_eq_true]
  constructor
  ·rintro ⟨x, hx, e⟩
   obtain ⟨e', he', q⟩ := List.mem_map.mp (hp.mem_iff.mpr hx)
   obtain ⟨⟨k', hk', _⟩, _⟩ := hel e' he'
   have := ival_is hk'
   rw [this] at q
   rw [beq_iff_eq] at e
   exact ⟨e', he', by rw [<- e, <- q]; exact hk'⟩
  ·rintro ⟨e, he, q⟩
   exact ⟨k, hp.mem_iff.mp (List.mem_map.mpr ⟨e, he, ival_is q⟩), beq_self_eq_true _⟩
 unfold setAddHashed setAddHashedIn
 refine wpAny_holding (wpAny_bind (wpAny_setState_of ho hd hf ?_))
 dsimp only
 rw [byScan_of hsc hb hel]
 simp only [↓reduceIte]
 unfold setAddByScan
 refine wpAny_bind ?_
 refine wpAny_bind (wpAny_rule ?_)
 refine wpAny_bind (wpAny_setScan_of hkey ho hd hf hel ?_)
 cases hr : List.findIdx? (fun e => (intKind prog w).is k e.2) es.toList with
 | some j =>
  dsimp only
  obtain ⟨hj, hpj, _⟩ := List.findIdx?_eq_some_iff_getElem.mp hr
  have hin : σ.any (· == k) = true := hany.mpr ⟨es.toList[j], List.getElem_mem hj, hpj⟩
  refine wpAny_pure (wpAny_pure ?_)
  have := h false s.heap (Heap.SameBut.refl a s.heap) (by unfold step_dedup; rw [if_pos hin]; exact ⟨o, es, ep, t, ho, hex, hd, hel, hp, hb, hf, T⟩)
  exact this
 | none =>
  dsimp only
  have hin : ¬ σ.any (· == k) = true := fun q => by
   obtain ⟨e, he, x⟩ := hany.mp q
   have := List.findIdx?_eq_none_iff.mp hr e he
   rw [x] at this; cases this
  have hgw : ∀ (b : Bool) {s₁ : Shared} {Q' : Unit -> Shared -> Prop}, Q' () s₁ -> wpAny (model prog w) A (match b with | true => rule "set.scan.the-table-gave-way" | false => pure ()) Q' E s₁ :=
   fun b s₁ Q' hq => by cases b <;> first | exact wpAny_pure hq | exact wpAny_rule hq
  have hperm := layNew_perm t es ((intKind prog w).hash k) (.int k tk)
  have hfits := layNew_fits t es ((intKind prog w).hash k) (.int k tk)
  have T1 := tb_new T es ((intKind prog w).hash k) (.int k tk)
  generalize layNew t es ((intKind prog w).hash k) (.int k tk) = L at hperm hfits T1 ⊢
  obtain ⟨es1, t1, wd, gave⟩ := L
  dsimp only at hperm hfits T1 ⊢
  rw [Array.toList_push] at hperm
  have hel1 : ElemsOf (intKind prog w) es1.toList := (hel.push hkey hsc).perm hperm
  have hp1 : (es1.toList.map fun e => ival e.2).Perm (step_dedup σ k) := by
   unfold step_dedup
   rw [if_neg hin]
   refine (hperm.map _).trans ?_
   rw [List.map_append]
   exact hp.append_right _
  have hb1 : es1.size < scanBound := by rw [<- Array.length_toList, hperm.length_eq, List.length_append, Array.length_toList, hn]; exact hroom
  refine wpAny_bind (hgw _ ?_)
  split
  ·refine wpAny_bind ?_
   rw [hashByValue_scannable 8 hsc]
   refine wpAny_pure ?_
   refine set_tail (b := b) ?_ ho hex hd hel1 hp1 hb1 ?_ ?_ ?_
   ·intro b s₁ Q' hq; cases b <;> first | exact wpAny_pure hq | exact wpAny_rule hq
   ·split
    ·exact hfits
    ·exact SetTable.fits_plain_off hfits
   ·split
    ·exact T1
    ·exact tb_plain T1 _
   ·intro h' hsb hS'; dsimp only; exact wpAny_pure (h _ h' hsb hS')
  ·refine wpAny_bind (wpAny_pure ?_)
   simp only [↓reduceIte]
   refine set_tail ?_ ho hex hd hel1 hp1 hb1 hfits T1 ?_
   ·intro b s₁ Q' hq; cases b <;> first | exact wpAny_pure hq | exact wpAny_rule hq
   ·intro h' hsb hS'; dsimp only; exact wpAny_pure (h _ h' hsb hS')
end
section
variable {prog : Program} {w : World} {A : Around} {R : Result -> Shared -> Prop} {I : Addr} {fp wr : List Addr} {G : Array GenState -> Array GenState -> Prop} {n : Nat} {P : Nat -> Value -> Prop} {St : Nat -> Shared -> Prop} {b : Bool}
theorem set_loop (W : WalksS prog w A.in1 I fp wr G n P St) (S : Addr) (hSf : S ∉ fp)
  (val : Nat -> Int) (hval : ∀ i v, P i v -> ∃ t, v = .int (val i) t) (hb : n + 1 < scanBound) :
  ∀ (k i : Nat) (s : Shared), n - i = k -> i <= n -> St i s -> SetAt prog w s.heap S (firstMet val i) b →
   (∀ s', Moved (S :: wr) G s s' -> SetAt prog w s'.heap S (firstMet val n) b -> R (.ok (.ret .none)) s') →
   codeAny (model prog w) A (.builtin "set.update.loop" ⟨[.ref S, .ref I], []⟩) R s := by
 have hSw : S ∉ wr := fun h => hSf (W.sub _ h)
 have hsub : ∀ b ∈ wr, b ∈ S :: wr := fun b hb => List.mem_cons_of_mem _ hb
 intro k
 induction k with
 | zero =>
  intro i s hk hi hst hS hR
  have hin : i = n := by omega
  subst hin
  refine codeAny_builtin F.entry_set_update_loop ?_
  rw [Around.under_plainId F.plain_set_update_loop _]
  show wpAny _ A.in1 (pyNext (.ref I) >>= _) _ _ s
  refine wpAny_bind (W.done s _ _ hst fun s' hm => ?_)
  show wpAny _ A.in1 (ret Value.none) _ _ s'
  exact wpAny_pure (hR s' (hm.mono hsub) (hS.keep fun o e => hm.heap S o hSw e))
 | succ k ih =>
  intro i s hk hi hst hS hR
  have hlt : i < n := by omega
  refine codeAny_builtin F.entry_set_update_loop ?_
  rw [Around.under_plainId F.plain_set_update_loop _]
  show wpAny _ A.in1 (pyNext (.ref I) >>= _) _ _ s
  refine wpAny_bind (W.item i s _ _ hlt hst fun v s' hP hst' hm => ?_)
  obtain ⟨t, rfl⟩ := hval i v hP
  have hS' : SetAt prog w s'.heap S (firstMet val i) b := hS.keep fun o e => hm.heap S o hSw e
  show wpAny _ A.in1 (holding [Value.int (val i) t] (setAdd S (.int (val i) t)) >>= _) _ _ s'
  refine wpAny_bind (wpAny_holding ?_)
  unfold setAdd
  refine wpAny_holding ?_
  refine wpAny_bind ((intKind prog w).pyHash (k := val i) (intKind_is _ _ _ _) ?_)
  have hroom : (firstMet val i).length + 1 < scanBound := by have := firstMet_length_le val i; omega
  refine set_add (s := { s' with toks := s'.toks + 1 }) hS' hroom fun r h' hsb hS2 => ?_
  rw [<- firstMet_succ] at hS2
  refine wpAny_pure ⟨plainId_quiet F.plain_set_update_loop _, ih (i + 1) _ (by omega) hlt (W.frame _ s' _ _ hst' (Nat.le_succ _) fun b hb o e => ?_) hS2 fun s'' hm'' hS'' => ?_⟩
  ·rw [hsb.2 b (fun h : b = S => hSf (by rw [<- h]; exact hb))]; exact e
  ·refine hR s'' (Moved.trans W.gtrans ((hm.mono hsub).then_heap (Nat.le_succ _) fun b o hb e => ?_) hm'') hS''
   rw [hsb.2 b (fun h : b = S => hb (by rw [h]; exact List.mem_cons_self))]; exact e
end
section
variable {prog : Program} {w : World} {A : Around} {E : Value -> Shared -> Prop} {s : Shared}
def ledOf (w : World) : Bool := !w.params.followText "set-order"
theorem set_new_led (a : Value) {Q₁ : Value -> Shared -> Prop} (h : Q₁ (.ref s.heap.objs.size) { s with heap := s.heap.push (noSet (ledOf w)) }) :
  codeAny (model prog w) A (.call (.builtin "set.__new__") ⟨[.type "set", a], []⟩) (wants Q₁ E) s := by
 refine codeAny_of_tree ?_
 show wpAny _ A.in1 (do checkBuiltinCall "set.__new__" ⟨[.type "set", a], []⟩; again (.builtin "set.__new__" ⟨[.type "set", a], []⟩)) _ _ s
 refine wpAny_bind (wpAny_of_eq (F.newCall_set_1 a) (wpAny_pure ⟨plainId_quiet F.plain_set_new _, codeAny_builtin F.entry_set_new ?_⟩))
 rw [Around.under_plainId F.plain_set_new _]
 unfold Builtin.«set.__new__» Builtin.Frozenset.newClass
 have hsub := sub_set_self
 obtain ⟨hp, g, d, tk, os⟩ := s
 dsimp only
 wp_walk
 refine wpAny_askSetting (wpAny_pure ?_)
 dsimp only
 simp only [newObj]
 refine wpAny_bind (wpAny_alloc (wpAny_pure ?_))
 exact wpAny_pure h
def SetLeftT (prog : Program) (w : World) (s : Shared) (ns : List Int) (h' : Heap) : Prop :=
 SetAt prog w h' s.heap.objs.size (firstMet (fun i => ns.getD i 0) ns.length) (ledOf w) /\ ∀ b o, b < s.heap.objs.size -> s.heap.get? b = some o -> h'.get? b = some o
theorem setAt_new (b : Bool) {h : Heap} {a : Addr} (e : h.get? a = some (noSet b)) : SetAt prog w h a [] b :=
 ⟨_, #[], 0, _, e, ⟨rfl, rfl, rfl⟩, rfl, fun e he => by simp at he, .refl _, by decide, rfl, ⟨.nil, rfl, rfl⟩⟩
theorem set_init_lst {q : Addr} {its : Array Value} {ns : List Int} (hh : A.handled = none) (hq : s.heap.IsList q its) (hi : IntsAre its.toList ns) (hb : its.size + 1 < scanBound) (hn : its.size = ns.length) :
  wpAny (model prog w) A (Builtin.«set.__init__» ⟨[.ref s.heap.objs.size, .ref q], []⟩) (fun fin s₂ => ∃ r, fin = .done (.ret r) /\ r = .none /\ ∃ h' tk, s₂ = { s with heap := h', toks := tk } /\ SetLeftT prog w s ns h') E { s with heap := s.heap.push (noSet (ledOf w)) } := by
 obtain ⟨ot, hot, hct, nt, hdt⟩ := hq
 obtain ⟨kc, kd, kx, ks⟩ := ot
 simp only at hct hdt
 subst hct
 subst hdt
 generalize hled : ledOf w = led
 have hot' : (s.heap.push (noSet led)).get? q = some { cls := .type "list", dict := kd, data := .seq its nt, slots := ks } := Heap.get?_push_of_some _ hot
 have ha := F.sub_list_set
 have hb2 := F.sub_list_frozenset
 have hc : (Value.type "list" == Value.type "dict") = false := by decide
 have hq1 : (s.heap.push (noSet led)).IsList q its := ⟨_, hot', rfl, nt, rfl⟩
 have hS : (s.heap.push (noSet led)).get? s.heap.objs.size = some (noSet led) := Heap.get?_push_size _ rfl
 unfold Builtin.«set.__init__» noKeywords Builtin.Frozenset.updateFrom
 generalize hPI : pyIter = PI
 wp_walk
 subst hPI
 refine wpAny_pyIter_list hq1 (wpAny_bind (wpAny_runValue ?_))
 have hlt : q < s.heap.objs.size := Heap.lt_size hot
 have sz1 : (s.heap.push (noSet led)).objs.size = s.heap.objs.size + 1 := Heap.size_push _ _
 have hne : q ≠ (s.heap.push (noSet led)).objs.size := by rw [sz1]; exact Nat.ne_of_lt (Nat.lt_succ_of_lt hlt)
 have hSf : s.heap.objs.size ∉ [(s.heap.push (noSet led)).objs.size, q] := by
  rw [sz1]
  simp only [List.mem_cons, List.not_mem_nil, or_false, not_or]
  exact ⟨Nat.ne_of_lt (Nat.lt_succ_self _), Nat.ne_of_gt hlt⟩
 have hval : ∀ (i : Nat) (v : Value), its[i]? = some v -> ∃ t, v = .int ((fun i => ns.getD i 0) i) t := fun i v hv => IntsAre.int_at hi i v (by rw [Array.getElem?_toList]; exact hv)
 refine set_loop (b := led) ((Walks.list (by simp [hh]) _ q hne its).toS) s.heap.objs.size hSf (fun i => ns.getD i 0) hval hb its.size 0 _ (Nat.sub_zero _) (Nat.zero_le _) ⟨⟨_, Heap.get?_push_size _ rfl, rfl, rfl⟩, hq1.push _⟩ ?_ ?_
 ·exact setAt_new led (Heap.get?_push_of_some _ hS)
 ·intro s' hm hS'
  obtain ⟨h', g', d', tk', os'⟩ := s'
  have eg : g' = s.gens := hm.gens
  have ed : d' = s.drawn := hm.drawn
  have eo : os' = s.os := hm.os
  subst eg ed eo
  refine wpAny_pure (wpAny_pure ⟨_, rfl, rfl, h', tk', rfl, by rw [hled, <- hn]; exact hS', fun b o hbl e => ?_⟩)
  refine hm.heap b o ?_ (push2 e)
  rw [sz1]
  simp only [List.mem_cons, List.not_mem_nil, or_false, not_or]
  exact ⟨Nat.ne_of_lt hbl, Nat.ne_of_lt (Nat.lt_succ_of_lt hbl)⟩
theorem call_set_lst {q : Addr} {its : Array Value} {ns : List Int} {Q : Value -> Shared -> Prop} (hh : A.handled = none) (hq : s.heap.IsList q its) (hi : IntsAre its.toList ns) (hb : its.size + 1 < scanBound) (hn : its.size = ns.length)
  (h : ∀ h' tk, SetLeftT prog w s ns h' -> Q (.ref s.heap.objs.size) { s with heap := h', toks := tk }) : wpAny (model prog w) A (call (.type "set") [.ref q]) Q E s := by
 have C := F.called_set
 obtain ⟨c, tl, hmro⟩ := C.mro
 have hmade := C.made
 have hsub := C.sub
 refine wpAny_call (codeAny_of_tree (wpAny_pure ⟨Code.quiet_builtin _ (by decide +kernel), codeAny_builtin F.entry_type_call ?_⟩))
 rw [Around.under_plain (weight_type_call_type "set" [.ref q] []) rfl]
 have h1 := C.notType
 have h2 := C.canCreate
 have hct := F.typeCall_set_1 (.ref q)
 repeat (any_goals (first | assumption | wp_step))
 refine codeAny_mono (set_new_led (.ref q) (E := E) (Q₁ := fun ob s₁ => ob = .ref s.heap.objs.size /\ s₁ = { s with heap := s.heap.push (noSet (ledOf w)) }) ⟨rfl, rfl⟩) fun r s₁ hr => ?_
 cases r with
 | error e => exact hr
 | ok fl =>
  cases fl with
  | ret ob =>
   obtain ⟨rfl, rfl⟩ := hr
   have hS : (s.heap.push (noSet (ledOf w))).get? s.heap.objs.size = some (noSet (ledOf w)) := Heap.get?_push_size _ rfl
   have hT : Shared.TypeIs { s with heap := s.heap.push (noSet (ledOf w)) } (.ref s.heap.objs.size) "set" := ⟨_, hS, rfl⟩
   have hli := C.init.lookup
   have hbi := C.init.bind (.ref s.heap.objs.size)
   repeat (any_goals (first | assumption | wp_step))
   refine codeAny_mono (codeAny_call_builtin (R := wants (fun r s₂ => r = .none /\ ∃ h' tk, s₂ = { s with heap := h', toks := tk } /\ SetLeftT prog w s ns h') E) C.init.plain F.entry_set_init (check_set_init_1 hT ?_)) fun r₂ s₂ hr₂ => ?_
   ·refine wpAny_mono (set_init_lst (by simp [hh]) hq hi hb hn) (fun fin s₂ hf => ?_) fun _ _ z => z
    obtain ⟨r, rfl, rfl, h', tk, rfl, hl⟩ := hf
    exact ⟨rfl, h', tk, rfl, hl⟩
   ·cases r₂ with
    | error e => exact hr₂
    | ok f2 =>
     cases f2 with
     | ret r =>
      obtain ⟨rfl, h', tk, rfl, hl⟩ := hr₂
      repeat (any_goals (first | assumption | wp_step))
      exact h _ _ hl
     | _ => exact hr₂.elim
  | _ => exact hr.elim
end
theorem slot_sit_next : Slot "set_iterator" "__next__" "set_iterator.__next__" :=
 .of (owner := "set_iterator") (n := "__next__") (by rw [typeLookup_type, builtinLookup_eq_fast]; kernel_rfl) (by decide +kernel) (by decide +kernel) (by decide +kernel)
  (by first | exact .inl (by decide +kernel) | exact .inr (by decide +kernel)) (by rw [isSubtype_type]; kernel_rfl)
theorem slot_sit_iter : Slot "set_iterator" "__iter__" "set_iterator.__iter__" :=
 .of (owner := "set_iterator") (n := "__iter__") (by rw [typeLookup_type, builtinLookup_eq_fast]; kernel_rfl) (by decide +kernel) (by decide +kernel) (by decide +kernel)
  (by first | exact .inl (by decide +kernel) | exact .inr (by decide +kernel)) (by rw [isSubtype_type]; kernel_rfl)
theorem owner_sit : Manifest.owners.lookup (String.ofList ['r', 'o', 't', 'a', 'r', 'e', 't', 'i', '_', 't', 'e', 's'].reverse) = some Manifest.sig_set_iterator := by kernel_rfl
theorem entry_sit_next : entryFor table "set_iterator.__next__" = some Builtin.«set_iterator.__next__» := entryFor_of_tree (by kernel_rfl)
theorem entry_sit_iter : entryFor table "set_iterator.__iter__" = some Builtin.«dict_keyiterator.__iter__» :=
 entryFor_alias (id' := "dict_keyiterator.__iter__") (by kernel_rfl) rfl (by decide +kernel) (by kernel_rfl)
theorem entry_set_iter : entryFor table "set.__iter__" = some Builtin.«frozenset.__iter__» :=
 entryFor_alias (id' := "frozenset.__iter__") (by kernel_rfl) rfl (by decide +kernel) (by kernel_rfl)
theorem args_sit_next (a : Value) : argsOk "set_iterator.__next__" ⟨[a], []⟩ := by
 unfold argsOk; rw [signature?_of (id := "set_iterator.__next__") (n := ['_', '_', 't', 'x', 'e', 'n', '_', '_']) (o := ['r', 'o', 't', 'a', 'r', 'e', 't', 'i', '_', 't', 'e', 's']) (by kernel_rfl) owner_sit]; kernel_rfl
theorem args_sit_iter (a : Value) : argsOk "set_iterator.__iter__" ⟨[a], []⟩ := by
 unfold argsOk; rw [signature?_of (id := "set_iterator.__iter__") (n := ['_', '_', 'r', 'e', 't', 'i', '_', '_']) (o := ['r', 'o', 't', 'a', 'r', 'e', 't', 'i', '_', 't', 'e', 's']) (by kernel_rfl) owner_sit]; kernel_rfl
def SIt (h : Heap) (I : Addr) (x : Value) (i : Nat) (d : Addr) (n ep : Nat) : Prop :=
 ∃ o, h.get? I = some o /\ o.cls = .type "set_iterator" /\ o.data = .fields #[x, .int i 0, .ref d, .int n 0, .int ep 0]
def SLi (h : Heap) (d : Addr) (es : Array (Int × Value)) (ep : Nat) (t : SetTable) : Prop :=
 ∃ o, h.get? d = some o /\ o.ExactSet /\ o.data = .set es ep t /\ t.fits es.size = true
theorem SIt.keep {h h' : Heap} {I d : Addr} {x : Value} {i n ep : Nat} (y : SIt h I x i d n ep) (hk : ∀ o, h.get? I = some o -> h'.get? I = some o) : SIt h' I x i d n ep :=
 let ⟨o, ho, r⟩ := y; ⟨o, hk o ho, r⟩
theorem SLi.keep {h h' : Heap} {d : Addr} {es : Array (Int × Value)} {ep : Nat} {t : SetTable} (y : SLi h d es ep t) (hk : ∀ o, h.get? d = some o -> h'.get? d = some o) : SLi h' d es ep t :=
 let ⟨o, ho, r⟩ := y; ⟨o, hk o ho, r⟩
theorem SIt.type {s : Shared} {I d : Addr} {x : Value} {i n ep : Nat} (y : SIt s.heap I x i d n ep) : s.TypeIs (.ref I) "set_iterator" := let ⟨o, ho, hc, _⟩ := y; ⟨o, ho, hc⟩
section
variable {prog : Program} {w : World} {A : Around} {E : Value -> Shared -> Prop} {s : Shared} {I d : Addr} {es : Array (Int × Value)} {ep i : Nat} {t : SetTable}
theorem sit_self {x : Value} {n : Nat} {Q : Value -> Shared -> Prop} (hit : SIt s.heap I x i d n ep) (h : Q (.ref I) s) : wpAny (model prog w) A (pyIter (.ref I)) Q E s := by
 refine wpAny_pyIter_slot hit.type slot_sit_iter (wpAny_call_entry slot_sit_iter hit.type entry_sit_iter ?_ (args_sit_iter _))
 show wpAny _ _ (ret (.ref I)) _ _ s
 exact wpAny_pure ⟨_, rfl, "set_iterator", _, hit.type, slot_sit_next.lookup, h⟩
theorem sit_item {slot nx : Nat} {v : Value} {Q : Option Value -> Shared -> Prop} (hit : SIt s.heap I (.int slot 0) i d es.size ep) (hs : SLi s.heap d es ep t)
  (hn : ∀ (A' : Around) (E' : Value -> Shared -> Prop) (Q' : Option (Value × Nat) -> Shared -> Prop), Q' (some (v, nx)) s -> wpAny (model prog w) A' (setNext d slot i ep) Q' E' s)
  (hQ : ∀ h', SIt h' I (.int nx 0) (i + 1) d es.size ep -> (∀ b o, b ≠ I -> s.heap.get? b = some o -> h'.get? b = some o) -> Q (some v) { s with heap := h' }) :
  wpAny (model prog w) A (pyNext (.ref I)) Q E s := by
 obtain ⟨o, ho, hc, hd⟩ := id hit
 obtain ⟨od, hod, hex, hdd, hf⟩ := hs
 unfold pyNext
 refine wpAny_bind (wpAny_attempt (wpAny_callSpecial?_slot (name := Str.ofString "__next__") hit.type slot_sit_next
  (wpAny_call_entry slot_sit_next hit.type entry_sit_next ?_ (args_sit_next _))))
 unfold Builtin.«set_iterator.__next__»
 refine wpAny_bind (wpAny_pure ?_)
 refine wpAny_bind (wpAny_fieldsOf ho hd ?_)
 dsimp only
 refine wpAny_bind (wpAny_setEntries_of hod hdd hf ?_)
 rw [if_neg (by simp)]
 refine wpAny_bind (hn _ _ _ ?_)
 dsimp only
 refine wpAny_bind (wpAny_setField ho hd (by simp) ?_)
 have ho1 : (s.heap.update I (Obj.mapFields (·.setIfInBounds 0 (rawInt nx)))).get? I = some (Obj.mapFields (·.setIfInBounds 0 (rawInt nx)) o) :=
  Heap.get?_update_self _ ho (Obj.isFreed_of_fields (Obj.data_mapFields hd _))
 have hd1 : (Obj.mapFields (·.setIfInBounds 0 (rawInt nx)) o).data = .fields #[.int nx 0, .int i 0, .ref d, .int es.size 0, .int ep 0] := by
  rw [Obj.data_mapFields hd]; simp [rawInt]
 refine wpAny_bind (wpAny_setField ho1 hd1 (by simp) ?_)
 have hit' : SIt ((s.heap.update I (Obj.mapFields (·.setIfInBounds 0 (rawInt nx)))).update I (Obj.mapFields (·.setIfInBounds 1 (rawInt ((i : Int) + 1))))) I (.int nx 0) (i + 1) d es.size ep :=
  ⟨_, Heap.get?_update_self _ ho1 (Obj.isFreed_of_fields (Obj.data_mapFields hd1 _)), (Obj.cls_mapFields ..).trans ((Obj.cls_mapFields ..).trans hc), by rw [Obj.data_mapFields hd1]; simp [rawInt]⟩
 refine wpAny_pure ⟨_, rfl, wpAny_pure (hQ _ hit' fun b o' hb e => ?_)⟩
 exact (Heap.get?_update_other _ _ (Ne.symm hb)).trans ((Heap.get?_update_other _ _ (Ne.symm hb)).trans e)
theorem sit_end {slot : Nat} {Q : Option Value -> Shared -> Prop} (hh : A.handled = none) (hit : SIt s.heap I (.int slot 0) i d es.size ep) (hs : SLi s.heap d es ep t)
  (hn : ∀ (A' : Around) (E' : Value -> Shared -> Prop) (Q' : Option (Value × Nat) -> Shared -> Prop), Q' none s -> wpAny (model prog w) A' (setNext d slot i ep) Q' E' s)
  (hQ : ∀ h', (∀ b o, b ≠ I -> s.heap.get? b = some o -> h'.get? b = some o) -> Q none { s with heap := h' }) :
  wpAny (model prog w) A (pyNext (.ref I)) Q E s := by
 obtain ⟨o, ho, hc, hd⟩ := id hit
 obtain ⟨od, hod, hex, hdd, hf⟩ := hs
 unfold pyNext
 refine wpAny_bind (wpAny_attempt (wpAny_callSpecial?_slot (name := Str.ofString "__next__") hit.type slot_sit_next
  (wpAny_call_entry slot_sit_next hit.type entry_sit_next ?_ (args_sit_next _))))
 unfold Builtin.«set_iterator.__next__»
 refine wpAny_bind (wpAny_pure ?_)
 refine wpAny_bind (wpAny_fieldsOf ho hd ?_)
 dsimp only
 refine wpAny_bind (wpAny_setEntries_of hod hdd hf ?_)
 rw [if_neg (by simp)]
 refine wpAny_bind (hn _ _ _ ?_)
 dsimp only
 refine wpAny_bind (wpAny_setField ho hd (by simp) ?_)
 show wpAny _ _ (newExc (.type "StopIteration") [] >>= _) _ _ _
 refine wpAny_bind ?_
 simp only [newExc, newTuple]
 refine wpAny_bind (wpAny_newObj_type ?_ (by size_fits))
 refine wpAny_bind (m := firstArgMember _ _) (wpAny_of_eq (a := Value.none) (by first | rfl | (simp only [firstArgMember]; rfl)) ?_)
 refine wpAny_newObj_type ?_ (by size_fits)
 simp only [raiseNew]
 refine wpAny_bind (wpAny_handled ?_)
 rw [show A.in1.handled = none from hh]
 refine wpAny_bind (wpAny_pure (wpAny_throw ?_))
 refine wpAny_bind (wpAny_isInstance (T := "StopIteration") (b := true) ⟨_, Heap.get?_push_size _ rfl, rfl⟩ isSubtype_stop ?_)
 exact wpAny_pure (hQ _ fun b o' hb e => Heap.get?_push_of_some _ (Heap.get?_push_of_some _ ((Heap.get?_update_other _ _ (Ne.symm hb)).trans e)))
end
theorem erase_perm {α : Type} : ∀ {l : List α} {i : Nat} (h : i < l.length), (l[i] :: l.eraseIdx i).Perm l
 | a :: l, 0, h => .refl _
 | a :: l, i + 1, h => by
  show (l[i]'(by simpa using h) :: a :: l.eraseIdx i).Perm (a :: l)
  exact (List.Perm.swap _ _ _).trans ((erase_perm (l := l) (i := i) (by simpa using h)).cons a)
theorem pick_go {α : Type} (next : Nat -> Nat) : ∀ (fuel k : Nat) (left : List α) (out : Array α), fuel = left.length -> (pickOrder.go next fuel k left out).toList.Perm (out.toList ++ left)
 | 0, k, left, out, h => by
  have e : left = [] := List.length_eq_zero_iff.mp h.symm
  subst e
  unfold pickOrder.go
  rw [List.append_nil]
 | fuel + 1, k, left, out, h => by
  unfold pickOrder.go
  have hl : next k % left.length < left.length := Nat.mod_lt _ (by omega)
  generalize next k % left.length = j at hl ⊢
  rw [List.getElem?_eq_getElem hl]
  dsimp only
  refine (pick_go next fuel (k + 1) _ _ (by rw [List.length_eraseIdx_of_lt hl]; omega)).trans ?_
  rw [Array.toList_push, List.append_assoc]
  exact (erase_perm hl).append_left _
theorem pick_perm {α : Type} (next : Nat -> Nat) (xs : Array α) : (pickOrder next xs).toList.Perm xs.toList := by
 have := pick_go next xs.size 0 xs.toList #[] (by rw [Array.length_toList])
 simpa [pickOrder] using this
section
variable {prog : Program} {w : World} {A : Around} {E : Value -> Shared -> Prop} {s : Shared} {I d : Addr} {es : Array (Int × Value)} {ep i : Nat} {t : SetTable}
theorem chosen {src : Source} {n : Nat} {Q : Nat -> Shared -> Prop} (hn : n ≠ 0) (h : ∀ j d', j < n -> Q j { s with drawn := d' }) : wpAny (model prog w) A (choose src n) Q E s :=
 fun _ _ _ => ⟨hn, h _ _ (Nat.mod_lt _ (Nat.pos_of_ne_zero hn))⟩
theorem drawn_order {α : Type} : ∀ (n : Nat) (xs : List α) (s : Shared) (Q : List α -> Shared -> Prop), n = xs.length -> (∀ ys d', ys.Perm xs -> Q ys { s with drawn := d' }) -> wpAny (model prog w) A (drawOrder n xs) Q E s
 | 0, xs, s, Q, e, h => by
  have : xs = [] := List.length_eq_zero_iff.mp e.symm
  subst this
  exact wpAny_pure (h [] s.drawn .nil)
 | n + 1, [], s, Q, e, h => by cases e
 | n + 1, x :: xs, s, Q, e, h => by
  unfold drawOrder
  refine wpAny_bind (chosen (by simp) fun j d' hj => ?_)
  rw [List.getElem?_eq_getElem hj]
  dsimp only
  refine wpAny_bind (drawn_order n _ _ _ (by rw [List.length_eraseIdx_of_lt hj]; simp at e ⊢; omega) fun ys d2 hp => ?_)
  exact wpAny_pure (h _ d2 ((hp.cons _).trans (erase_perm hj)))
theorem next_text (ht : ledOf w = false) (hs : SLi s.heap d es ep t) {slot : Nat} {Q : Option (Value × Nat) -> Shared -> Prop}
  (h : Q (((pickOrder (w.params.setOrder d ep) es)[i]?).map fun e => (e.2, slot)) s) : wpAny (model prog w) A (setNext d slot i ep) Q E s := by
 obtain ⟨o, ho, _, hd, hf⟩ := hs
 have ht' : w.params.followText "set-order" = true := by unfold ledOf at ht; simpa using ht
 unfold setNext
 refine wpAny_bind (wpAny_setState_of ho hd hf ?_)
 dsimp only
 unfold setsByText
 refine wpAny_bind (wpAny_bind (wpAny_askSetting (wpAny_pure ?_)))
 rw [if_pos (by exact ht')]
 rw [if_neg (by simp)]
 unfold setWalk
 refine wpAny_bind (wpAny_bind (wpAny_setState_of ho hd hf ?_))
 dsimp only
 unfold setsByText
 refine wpAny_bind (wpAny_bind (wpAny_askSetting (wpAny_pure ?_)))
 rw [if_pos (by exact ht')]
 refine wpAny_bind (wpAny_askSetting (wpAny_pure ?_))
 exact wpAny_pure h
theorem next_place (ht : ledOf w = true) (T : Tb t (ledOf w)) (hs : SLi s.heap d es ep t) (hp : (!t.plain && decide (es.size > 1)) = false) {slot : Nat} {Q : Option (Value × Nat) -> Shared -> Prop}
  (h : Q (match es[SetTable.below t.place slot]?, t.place[SetTable.below t.place slot]? with | some (_, x), some j => some (x, j + 1) | _, _ => none) s) : wpAny (model prog w) A (setNext d slot i ep) Q E s := by
 obtain ⟨o, ho, _, hd, hf⟩ := hs
 have ht' : w.params.followText "set-order" = false := by unfold ledOf at ht; simpa using ht
 unfold setNext
 refine wpAny_bind (wpAny_setState_of ho hd hf ?_)
 dsimp only
 unfold setsByText
 refine wpAny_bind (wpAny_bind (wpAny_askSetting (wpAny_pure ?_)))
 rw [if_neg (by show ¬ w.params.followText "set-order" = true; rw [ht']; exact Bool.false_ne_true)]
 refine wpAny_ite_split (fun hab => ?_) fun _ => ?_
 ·have hab' : (!t.plain && decide (es.size > 1)) = true := hab
  rw [hp] at hab'; cases hab'
 show wpAny _ _ ((if (!t.led && !es.isEmpty) = true then unsupported "set:maker-not-led" else pure ()) >>= _) _ _ _
 rw [T.led, ht]
 refine wpAny_bind (wpAny_pure ?_)
 exact wpAny_pure h
theorem sit_itemD {tp : Addr} {ps : List Nat} {p : Nat} {e : Int × Value} {Q : Option Value -> Shared -> Prop} (hit : SIt s.heap I (.ref tp) i d es.size ep) (hs : SLi s.heap d es ep t)
  (htp : s.heap.IsTuple tp ((ps.map fun (k : Nat) => rawInt k).toArray)) (hp : ps[i]? = some p) (he : es[p]? = some e)
  (hQ : ∀ h', SIt h' I (.ref tp) (i + 1) d es.size ep -> (∀ b o, b ≠ I -> s.heap.get? b = some o -> h'.get? b = some o) -> Q (some e.2) { s with heap := h' }) :
  wpAny (model prog w) A (pyNext (.ref I)) Q E s := by
 obtain ⟨o, ho, hc, hd⟩ := id hit
 obtain ⟨od, hod, hex, hdd, hf⟩ := hs
 obtain ⟨ot, hot, hct, nn, hdt⟩ := htp
 unfold pyNext
 refine wpAny_bind (wpAny_attempt (wpAny_callSpecial?_slot (name := Str.ofString "__next__") hit.type slot_sit_next
  (wpAny_call_entry slot_sit_next hit.type entry_sit_next ?_ (args_sit_next _))))
 unfold Builtin.«set_iterator.__next__»
 refine wpAny_bind (wpAny_pure ?_)
 refine wpAny_bind (wpAny_fieldsOf ho hd ?_)
 dsimp only
 refine wpAny_bind (wpAny_setEntries_of hod hdd hf ?_)
 rw [if_neg (by simp)]
 refine wpAny_bind (wpAny_seqItems hot hdt ?_)
 have hi : ((ps.map fun (k : Nat) => rawInt k).toArray)[(i : Int).toNat]? = some (.int p 0) := by
  simp [hp, rawInt]
 dsimp only
 rw [hi]
 dsimp only
 unfold setNextDrawn
 refine wpAny_bind (wpAny_bind (wpAny_setState_of hod hdd hf ?_))
 dsimp only
 rw [if_neg (by simp)]
 have he' : es[(p : Int).toNat]? = some e := by simpa using he
 rw [he']
 obtain ⟨e1, e2⟩ := e
 dsimp only
 refine wpAny_pure ?_
 refine wpAny_bind (wpAny_setField ho hd (by simp) ?_)
 have hit' : SIt (s.heap.update I (Obj.mapFields (·.setIfInBounds 1 (rawInt ((i : Int) + 1))))) I (.ref tp) (i + 1) d es.size ep :=
  ⟨_, Heap.get?_update_self _ ho (Obj.isFreed_of_fields (Obj.data_mapFields hd _)), (Obj.cls_mapFields ..).trans hc, by rw [Obj.data_mapFields hd]; simp [rawInt]⟩
 refine wpAny_pure ⟨_, rfl, wpAny_pure (hQ _ hit' fun b o' hb e => ?_)⟩
 exact (Heap.get?_update_other _ _ (Ne.symm hb)).trans e
theorem sit_endD {tp : Addr} {ps : List Nat} {Q : Option Value -> Shared -> Prop} (hh : A.handled = none) (hit : SIt s.heap I (.ref tp) i d es.size ep) (hs : SLi s.heap d es ep t)
  (htp : s.heap.IsTuple tp ((ps.map fun (k : Nat) => rawInt k).toArray)) (hp : ps[i]? = none)
  (hQ : ∀ h', (∀ b o, b ≠ I -> s.heap.get? b = some o -> h'.get? b = some o) -> Q none { s with heap := h' }) :
  wpAny (model prog w) A (pyNext (.ref I)) Q E s := by
 obtain ⟨o, ho, hc, hd⟩ := id hit
 obtain ⟨od, hod, hex, hdd, hf⟩ := hs
 obtain ⟨ot, hot, hct, nn, hdt⟩ := htp
 unfold pyNext
 refine wpAny_bind (wpAny_attempt (wpAny_callSpecial?_slot (name := Str.ofString "__next__") hit.type slot_sit_next
  (wpAny_call_entry slot_sit_next hit.type entry_sit_next ?_ (args_sit_next _))))
 unfold Builtin.«set_iterator.__next__»
 refine wpAny_bind (wpAny_pure ?_)
 refine wpAny_bind (wpAny_fieldsOf ho hd ?_)
 dsimp only
 refine wpAny_bind (wpAny_setEntries_of hod hdd hf ?_)
 rw [if_neg (by simp)]
 refine wpAny_bind (wpAny_seqItems hot hdt ?_)
 have hi : ((ps.map fun (k : Nat) => rawInt k).toArray)[(i : Int).toNat]? = none := by
  simpa using hp
 dsimp only
 rw [hi]
 dsimp only
 refine wpAny_bind (wpAny_setField ho hd (by simp) ?_)
 have ho1 : (s.heap.update I (Obj.mapFields (·.setIfInBounds 0 (rawInt 0)))).get? I = some (Obj.mapFields (·.setIfInBounds 0 (rawInt 0)) o) :=
  Heap.get?_update_self _ ho (Obj.isFreed_of_fields (Obj.data_mapFields hd _))
 refine wpAny_bind (wpAny_setField ho1 (Obj.data_mapFields hd _) (by simp) ?_)
 show wpAny _ _ (newExc (.type "StopIteration") [] >>= _) _ _ _
 refine wpAny_bind ?_
 simp only [newExc, newTuple]
 refine wpAny_bind (wpAny_newObj_type ?_ (by size_fits))
 refine wpAny_bind (m := firstArgMember _ _) (wpAny_of_eq (a := Value.none) (by first | rfl | (simp only [firstArgMember]; rfl)) ?_)
 refine wpAny_newObj_type ?_ (by size_fits)
 simp only [raiseNew]
 refine wpAny_bind (wpAny_handled ?_)
 rw [show A.in1.handled = none from hh]
 refine wpAny_bind (wpAny_pure (wpAny_throw ?_))
 refine wpAny_bind (wpAny_isInstance (T := "StopIteration") (b := true) ⟨_, Heap.get?_push_size _ rfl, rfl⟩ isSubtype_stop ?_)
 exact wpAny_pure (hQ _ fun b o' hb e => Heap.get?_push_of_some _ (Heap.get?_push_of_some _ ((Heap.get?_update_other _ _ (Ne.symm hb)).trans ((Heap.get?_update_other _ _ (Ne.symm hb)).trans e))))
end
def setP (ord : List (Int × Value)) : Nat -> Value -> Prop := fun i v => ∃ e, ord[i]? = some e /\ v = e.2
def slotAt (xs : Array Nat) : Nat -> Nat
 | 0 => 0
 | i + 1 => xs.getD i 0 + 1
theorem below_go_le {xs : Array Nat} {j : Nat} : ∀ (fuel lo hi : Nat), lo <= hi -> SetTable.below.go xs j fuel lo hi <= hi
 | 0, lo, hi, h => h
 | fuel + 1, lo, hi, h => by
  unfold SetTable.below.go
  by_cases c : lo < hi
  ·rw [if_pos c]
   dsimp only
   split
   ·exact below_go_le fuel _ _ (by omega)
   ·exact Nat.le_trans (below_go_le fuel _ _ (by omega)) (by omega)
  ·rw [if_neg c]; exact h
theorem below_le (xs : Array Nat) (j : Nat) : SetTable.below xs j <= xs.size := below_go_le _ _ _ (Nat.zero_le _)
theorem below_slot {xs : Array Nat} (hx : xs.toList.Pairwise (· < ·)) {i : Nat} (hi : i <= xs.size) : SetTable.below xs (slotAt xs i) = i := by
 obtain ⟨b1, b2⟩ := below_ok hx (slotAt xs i)
 have b3 := below_le xs (slotAt xs i)
 generalize SetTable.below xs (slotAt xs i) = p at b1 b2 b3
 rcases Nat.lt_trichotomy p i with h | h | h
 ·have hp : p < xs.size := by omega
  have q := b2 p xs[p] (Nat.le_refl _) (by simp [hp])
  cases i with
  | zero => omega
  | succ j =>
   have hj : j < xs.size := by omega
   have e : slotAt xs (j + 1) = xs[j] + 1 := by simp [slotAt, Array.getD, hj]
   rw [e] at q
   rcases Nat.lt_or_ge p j with z | z
   ·have := ris_lt hx z (x := xs[p]) (y := xs[j]) (by simp [hp]) (by simp [hj])
    omega
   ·have : p = j := by omega
    subst this
    omega
 ·exact h
 ·rcases Nat.lt_or_ge i xs.size with hs | hs
  ·have q := b1 i xs[i] h (by simp [hs])
   cases i with
   | zero => simp [slotAt] at q
   | succ j =>
    have hj : j < xs.size := by omega
    have e : slotAt xs (j + 1) = xs[j] + 1 := by simp [slotAt, Array.getD, hj]
    rw [e] at q
    have := ris_lt hx (Nat.lt_succ_self j) (x := xs[j]) (y := xs[j + 1]) (by simp [hj]) (by simp [hs])
    omega
  ·omega
theorem fm_get {es : Array (Int × Value)} : ∀ (ps : List Nat), (∀ p ∈ ps, p < es.size) -> ∀ i : Nat, (ps.filterMap fun p => es[p]?)[i]? = ps[i]?.bind fun p => es[p]?
 | [], _, i => by simp
 | p :: ps, h, i => by
  have hp : p < es.size := h p (.head _)
  rw [List.filterMap_cons_some (b := es[p]) (by simp [hp])]
  cases i with
  | zero => simp [hp]
  | succ i => simpa using fm_get ps (fun q hq => h q (.tail _ hq)) i
section
variable {prog : Program} {w : World} {A : Around} {es : Array (Int × Value)} {ep : Nat} {t : SetTable}
theorem walks_text (ht : ledOf w = false) (hh : A.handled = none) (I d : Addr) (hne : d ≠ I) :
  Walks prog w A I [I, d] [I] es.size (setP (pickOrder (w.params.setOrder d ep) es).toList) (fun i h => SIt h I (.int 0 0) i d es.size ep /\ SLi h d es ep t) where
 sub := fun b hb => by simp at hb; simp [hb]
 frame := fun _ _ _ st hk => ⟨st.1.keep fun o e => hk I (by simp) o e, st.2.keep fun o e => hk d (by simp) o e⟩
 item := fun i s Q E hi st hQ => by
  have hz : (pickOrder (w.params.setOrder d ep) es).size = es.size := by rw [<- Array.length_toList, (pick_perm _ es).length_eq, Array.length_toList]
  obtain ⟨e, he⟩ : ∃ e, (pickOrder (w.params.setOrder d ep) es)[i]? = some e := ⟨_, Array.getElem?_eq_getElem (by rw [hz]; exact hi)⟩
  refine sit_item (v := e.2) (nx := 0) (slot := 0) st.1 st.2 (fun A' E' Q' q => next_text ht st.2 (by rw [he]; exact q)) fun h' a b => ?_
  exact hQ _ h' s.toks ⟨e, by rw [Array.getElem?_toList]; exact he, rfl⟩ ⟨a, st.2.keep fun o x => b d o hne x⟩ fun b' o hb x => b b' o (by simpa using hb) x
 done := fun s Q E st hQ => by
  have hz : (pickOrder (w.params.setOrder d ep) es).size = es.size := by rw [<- Array.length_toList, (pick_perm _ es).length_eq, Array.length_toList]
  refine sit_end (slot := 0) hh st.1 st.2 (fun A' E' Q' q => next_text ht st.2 (by rw [Array.getElem?_eq_none (by rw [hz]; exact Nat.le_refl _)]; exact q)) fun h' b => ?_
  exact hQ h' s.toks fun b' o hb x => b b' o (by simpa using hb) x
 self := fun _ _ _ _ st hQ => sit_self st.1 hQ
theorem walks_place (ht : ledOf w = true) (T : Tb t (ledOf w)) (hf : t.place.size = es.size) (hp : (!t.plain && decide (es.size > 1)) = false) (hh : A.handled = none) (I d : Addr) (hne : d ≠ I) :
  Walks prog w A I [I, d] [I] es.size (setP es.toList) (fun i h => SIt h I (.int (slotAt t.place i) 0) i d es.size ep /\ SLi h d es ep t) where
 sub := fun b hb => by simp at hb; simp [hb]
 frame := fun _ _ _ st hk => ⟨st.1.keep fun o e => hk I (by simp) o e, st.2.keep fun o e => hk d (by simp) o e⟩
 item := fun i s Q E hi st hQ => by
  have hi' : i < t.place.size := by omega
  refine sit_item (v := es[i].2) (nx := slotAt t.place (i + 1)) st.1 st.2 (fun A' E' Q' q => next_place ht T st.2 hp ?_) fun h' a b => ?_
  ·rw [below_slot T.ris (by omega), Array.getElem?_eq_getElem hi, Array.getElem?_eq_getElem hi']
   have e : slotAt t.place (i + 1) = t.place[i] + 1 := by simp [slotAt, Array.getD, hi']
   rw [e] at q
   exact q
  ·exact hQ _ h' s.toks ⟨es[i], by rw [Array.getElem?_toList]; exact Array.getElem?_eq_getElem hi, rfl⟩ ⟨a, st.2.keep fun o x => b d o hne x⟩ fun b' o hb x => b b' o (by simpa using hb) x
 done := fun s Q E st hQ => by
  refine sit_end hh st.1 st.2 (fun A' E' Q' q => next_place ht T st.2 hp ?_) fun h' b => ?_
  ·rw [below_slot T.ris (by omega), Array.getElem?_eq_none (Nat.le_refl _)]
   exact q
  ·exact hQ h' s.toks fun b' o hb x => b b' o (by simpa using hb) x
 self := fun _ _ _ _ st hQ => sit_self st.1 hQ
theorem walks_drawn {ps : List Nat} (hp : ps.Perm (List.range es.size)) (hh : A.handled = none) (I d tp : Addr) (hne : d ≠ I) (hnt : tp ≠ I) :
  Walks prog w A I [I, d, tp] [I] es.size (setP (ps.filterMap fun p => es[p]?)) (fun i h => SIt h I (.ref tp) i d es.size ep /\ SLi h d es ep t /\ h.IsTuple tp ((ps.map fun (k : Nat) => rawInt k).toArray)) where
 sub := fun b hb => by simp at hb; simp [hb]
 frame := fun _ _ _ st hk => ⟨st.1.keep fun o e => hk I (by simp) o e, st.2.1.keep fun o e => hk d (by simp) o e, let ⟨o, ho, r⟩ := st.2.2; ⟨o, hk tp (by simp) o ho, r⟩⟩
 item := fun i s Q E hi st hQ => by
  have hl : ps.length = es.size := by rw [hp.length_eq, List.length_range]
  have hi' : i < ps.length := by omega
  have hm : ∀ p ∈ ps, p < es.size := fun p h => List.mem_range.mp (hp.mem_iff.mp h)
  have hpi : ps[i] < es.size := hm _ (List.getElem_mem hi')
  refine sit_itemD (p := ps[i]) (e := es[ps[i]]) st.1 st.2.1 st.2.2 (List.getElem?_eq_getElem hi') (Array.getElem?_eq_getElem hpi) fun h' a b => ?_
  refine hQ _ h' s.toks ⟨es[ps[i]], ?_, rfl⟩ ⟨a, st.2.1.keep fun o x => b d o hne x, let ⟨o, ho, r⟩ := st.2.2; ⟨o, b tp o hnt ho, r⟩⟩ fun b' o hb x => b b' o (by simpa using hb) x
  rw [fm_get ps hm, List.getElem?_eq_getElem hi']
  exact Array.getElem?_eq_getElem hpi
 done := fun s Q E st hQ => by
  have hl : ps.length = es.size := by rw [hp.length_eq, List.length_range]
  refine sit_endD hh st.1 st.2.1 st.2.2 (List.getElem?_eq_none (by omega)) fun h' b => ?_
  exact hQ h' s.toks fun b' o hb x => b b' o (by simpa using hb) x
 self := fun _ _ _ _ st hQ => sit_self st.1 hQ
end
section
variable {prog : Program} {w : World} {A : Around} {E : Value -> Shared -> Prop} {s : Shared} {d : Addr} {es : Array (Int × Value)} {ep : Nat} {t : SetTable}
theorem SLi.type (hs : SLi s.heap d es ep t) : s.TypeIs (.ref d) "set" := let ⟨o, ho, hx, _⟩ := hs; ⟨o, ho, hx.1⟩
theorem sit_iter (T : Tb t (ledOf w)) (hs : SLi s.heap d es ep t) (hz : es.size <= sizeLine) {Q : Value -> Shared -> Prop}
  (h : ∀ (s₁ : Shared) (I : Addr) (fp : List Addr) (ord : List (Int × Value)) (St : Nat -> Heap -> Prop), ord.Perm es.toList →
   (∀ A' : Around, A'.handled = none -> Walks prog w A' I fp [I] es.size (setP ord) St) -> St 0 s₁.heap -> (∀ b ∈ fp, s.heap.objs.size <= b ∨ b = d) -> s.heap.objs.size <= I →
   (∀ b o, s.heap.get? b = some o -> s₁.heap.get? b = some o) -> s₁.gens = s.gens -> s₁.os = s.os -> Q (.ref I) s₁) : wpAny (model prog w) A (pyIter (.ref d)) Q E s := by
 obtain ⟨o, ho, hx, hd, hf⟩ := id hs
 have hlt : d < s.heap.objs.size := Heap.lt_size ho
 have hpl : t.place.size = es.size := by
  simp only [SetTable.fits, Bool.and_eq_true, beq_iff_eq] at hf
  exact hf.1
 refine wpAny_pyIter_slot hs.type F.slot_set_iter (wpAny_call_entry F.slot_set_iter hs.type entry_set_iter ?_ (F.args_set_iter_1 _))
 unfold Builtin.«frozenset.__iter__»
 refine wpAny_bind (wpAny_bind (wpAny_pure (wpAny_pure ?_)))
 unfold Builtin.Frozenset.sizeOf
 refine wpAny_bind (wpAny_bind (wpAny_setEntries_of ho hd hf (wpAny_pure ?_)))
 unfold setDrawn
 refine wpAny_bind (wpAny_bind (wpAny_setState_of ho hd hf ?_))
 dsimp only
 unfold setsByText
 refine wpAny_bind (wpAny_bind (wpAny_askSetting (wpAny_pure (wpAny_pure ?_))))
 have alloc : ∀ (x : Value) (s₁ : Shared), SLi s₁.heap d es ep t -> (∀ I, I = s₁.heap.objs.size -> SIt (s₁.heap.push { cls := .type "set_iterator", data := .fields #[x, .int 0 0, .ref d, .int es.size 0, .int ep 0] }) I x 0 d es.size ep →
   Q (.ref I) { s₁ with heap := s₁.heap.push { cls := .type "set_iterator", data := .fields #[x, .int 0 0, .ref d, .int es.size 0, .int ep 0] } }) →
   wpAny (model prog w) A.in1 (do ret (← newFields "set_iterator" [x, rawInt 0, .ref d, rawInt es.size, rawInt (← setEpoch d)])) (fun fin s' => ∃ v, fin = .done (.ret v) /\ ∃ T' r, s'.TypeIs v T' /\ typeLookup (.type T') "__next__" = pure (some r) /\ Q v s') E s₁ := by
  intro x s₁ hs1 hq
  obtain ⟨o1, ho1, hx1, hd1, hf1⟩ := hs1
  refine wpAny_bind (wpAny_setEpoch_of ho1 hd1 hf1 ?_)
  refine wpAny_bind (wpAny_newObj_type (wpAny_pure ⟨_, rfl, "set_iterator", _, ⟨_, Heap.get?_push_size _ rfl, rfl⟩, slot_sit_next.lookup, ?_⟩))
  exact hq _ rfl ⟨_, Heap.get?_push_size _ rfl, rfl, rfl⟩
 by_cases ht : ledOf w = true
 ·have ht' : w.params.followText "set-order" = false := by unfold ledOf at ht; simpa using ht
  by_cases hp : (!t.plain && decide (es.size > 1)) = true
  ·refine wpAny_ite_split (fun _ => ?_) fun hab => absurd (show (!w.params.followText "set-order" && (!t.plain && decide (es.size > 1))) = true by rw [ht', hp]; rfl) hab
   refine wpAny_bind (drawn_order es.size (List.range es.size) _ _ (by simp) fun ps d' pp => ?_)
   unfold newTuple
   have hl : ps.length = es.size := by rw [pp.length_eq, List.length_range]
   refine wpAny_bind (wpAny_newObj_type ?_ (by show (ps.map _).toArray.size <= sizeLine; rw [List.size_toArray, List.length_map, hl]; exact hz))
   have hs1 : SLi (s.heap.push { cls := .type "tuple", data := .seq (ps.map fun (k : Nat) => rawInt k).toArray }) d es ep t := hs.keep fun o e => Heap.get?_push_of_some _ e
   refine alloc (.ref s.heap.objs.size) { s with heap := s.heap.push { cls := .type "tuple", data := .seq (ps.map fun (k : Nat) => rawInt k).toArray }, drawn := d' } hs1 fun I e hit => ?_
   subst e
   have hsz : (s.heap.push { cls := .type "tuple", data := .seq (ps.map fun (k : Nat) => rawInt k).toArray }).objs.size = s.heap.objs.size + 1 := Heap.size_push _ _
   refine h _ _ _ _ _ ((pp.filterMap _).trans (by rw [filterMap_getElem?_range])) (fun A' hA => walks_drawn (ep := ep) (t := t) pp hA _ d s.heap.objs.size ?_ ?_) ⟨hit, hs1.keep fun o e => Heap.get?_push_of_some _ e, ?_⟩ (fun b hb => ?_) ?_ (fun b o e => Heap.get?_push_of_some _ (Heap.get?_push_of_some _ e)) rfl rfl
   ·exact (Nat.ne_of_lt (by rw [hsz]; exact Nat.lt_succ_of_lt hlt))
   ·show s.heap.objs.size ≠ _; rw [hsz]; omega
   ·exact ⟨_, Heap.get?_push_of_some _ (Heap.get?_push_size _ rfl), rfl, 0, rfl⟩
   ·simp only [List.mem_cons, List.not_mem_nil, or_false] at hb
    rcases hb with rfl | rfl | rfl
    ·left; rw [hsz]; omega
    ·exact .inr rfl
    ·exact .inl (Nat.le_refl _)
   ·show s.heap.objs.size <= _; rw [hsz]; omega
  ·have hp' : (!t.plain && decide (es.size > 1)) = false := by simpa using hp
   refine wpAny_ite_split (fun hab => ?_) fun _ => ?_
   ·have hab' : (!w.params.followText "set-order" && (!t.plain && decide (es.size > 1))) = true := hab
    rw [hp', Bool.and_false] at hab'; cases hab'
   refine wpAny_bind (wpAny_pure ?_)
   refine alloc _ s hs fun I e hit => ?_
   subst e
   exact h _ _ _ _ _ (.refl _) (fun A' hA => walks_place (ep := ep) ht T hpl hp' hA _ d (Nat.ne_of_lt hlt)) ⟨hit, hs.keep fun o e => Heap.get?_push_of_some _ e⟩ (fun b hb => by simp at hb; rcases hb with rfl | rfl; exact .inl (Nat.le_refl _); exact .inr rfl) (Nat.le_refl _) (fun b o e => Heap.get?_push_of_some _ e) rfl rfl
 ·have ht0 : ledOf w = false := by simpa using ht
  have ht' : w.params.followText "set-order" = true := by unfold ledOf at ht0; simpa using ht0
  refine wpAny_ite_split (fun hab => ?_) fun _ => ?_
  ·have hab' : (!w.params.followText "set-order" && (!t.plain && decide (es.size > 1))) = true := hab
   rw [ht'] at hab'; cases hab'
  refine wpAny_bind (wpAny_pure ?_)
  refine alloc _ s hs fun I e hit => ?_
  subst e
  exact h _ _ _ _ _ (pick_perm _ es) (fun A' hA => walks_text (ep := ep) ht0 hA _ d (Nat.ne_of_lt hlt)) ⟨hit, hs.keep fun o e => Heap.get?_push_of_some _ e⟩ (fun b hb => by simp at hb; rcases hb with rfl | rfl; exact .inl (Nat.le_refl _); exact .inr rfl) (Nat.le_refl _) (fun b o e => Heap.get?_push_of_some _ e) rfl rfl
end
end MD
set_option autoImplicit false
namespace MxD
open PySem PySem.Spec PyProof.Rows
end MxD
namespace MD
open PySem PySem.Spec PyProof.Rows L2
end MD
set_option autoImplicit false
namespace L2
open PySem PySem.Spec PyProof.Rows
end L2
set_option autoImplicit false
namespace MD
open PySem PySem.Spec PyProof.Rows L2
end MD
set_option autoImplicit false
namespace L2
open PySem PySem.Spec PyProof.Rows
def sortI (ns : List Int) : List Int := ns.mergeSort
theorem sortI_perm (ns : List Int) : (sortI ns).Perm ns := List.mergeSort_perm ns _
theorem sortI_sorted (ns : List Int) : (sortI ns).Pairwise (· <= ·) := by
 have h := List.pairwise_mergeSort (le := fun a b : Int => decide (a <= b)) (fun a b c h1 h2 => by simp at *; omega) (fun a b => by simp; omega) ns
 exact h.imp fun h => by simpa using h
theorem sortI_is {ns ns' : List Int} (p : ns'.Perm ns) (o : ns'.Pairwise (· <= ·)) : ns' = sortI ns := PySem.W.ksm_same (p.trans (sortI_perm ns).symm) o (sortI_sorted ns)
theorem sortI_len (ns : List Int) : (sortI ns).length = ns.length := (sortI_perm ns).length_eq
end L2
set_option autoImplicit false
namespace MD
open PySem PySem.Spec PyProof.Rows L2
section
variable {prog : Program} {w : World} {A : Around} {E : Value -> Shared -> Prop} {s : Shared} {d : Addr} {es : Array (Int × Value)} {ep : Nat} {t : SetTable}
theorem hint_set {Q : Bool -> Shared -> Prop} (hT : s.TypeIs (.ref d) "set") (h : Q false s) : wpAny (model prog w) A (Builtin.List.listLengthHint (.ref d)) Q E s := by
 unfold Builtin.List.listLengthHint
 refine wpAny_bind (wpAny_specialOf hT F.slot_set_len.lookup ?_)
 generalize hid : ("set.__len__" : String) = id0
 wp_delta
 rw [show splitId id0 = some ("set", "__len__") from by subst hid; decide +kernel]
 subst hid
 refine wpAny_bind (wpAny_isInstance (T := "set") (b := true) hT (by rw [isSubtype_type]; kernel_rfl) ?_)
 refine wpAny_ite_split (fun hab => absurd hab (by decide)) (fun _ => ?_)
 refine wpAny_ite_split (fun _ => ?_) (fun hab => absurd (by decide +kernel) hab)
 refine wpAny_bind (wpAny_typeOf hT ?_)
 exact wpAny_pure h
theorem set_collect {R : List Value -> Shared -> Prop} (T : Tb t (ledOf w)) (hs : SLi s.heap d es ep t) (hz : es.size <= sizeLine) (hh : A.handled = none)
  (h : ∀ (s' : Shared) (acc : List Value) (ord : List (Int × Value)), (∀ b o, s.heap.get? b = some o -> s'.heap.get? b = some o) -> s'.gens = s.gens -> s'.os = s.os -> ord.Perm es.toList -> acc = ord.map (·.2) -> R acc s') :
  wpAny (model prog w) A (collect (.ref d)) R E s := by
 have hlt : d < s.heap.objs.size := let ⟨o, ho, _⟩ := hs; Heap.lt_size ho
 unfold collect
 refine wpAny_bind (wpAny_runValue (codeAny_builtin entry_proto_collect' ?_))
 rw [Around.under_plainId PySem.F.plain_proto_collect _]
 show wpAny _ A.in1 (newList [] >>= fun l => again (.builtin "list.__iadd__" ⟨[l, .ref d], []⟩)) _ _ s
 refine wpAny_bind (wpAny_newObj_type ?_)
 refine wpAny_pure ⟨plainId_quiet PySem.F.plain_list_iadd _, codeAny_builtin entry_list_iadd' ?_⟩
 rw [Around.under_plainId PySem.F.plain_list_iadd _]
 generalize hS0 : s.heap.objs.size = S at hlt
 have hS₁ : (s.heap.push { cls := .type "list", data := .seq ([] : List Value).toArray }).get? S = some { cls := .type "list", data := .seq #[] } := by rw [<- hS0]; exact Heap.get?_push_size _ rfl
 have hk1 : ∀ b o, s.heap.get? b = some o -> (s.heap.push { cls := .type "list", data := .seq ([] : List Value).toArray }).get? b = some o := fun b o e => Heap.get?_push_of_some _ e
 have hsz : (s.heap.push { cls := .type "list", data := .seq ([] : List Value).toArray }).objs.size = S + 1 := by rw [<- hS0]; exact Heap.size_push _ _
 have hs1 : SLi (s.heap.push { cls := .type "list", data := .seq ([] : List Value).toArray }) d es ep t := hs.keep fun o e => hk1 d o e
 generalize s.heap.push { cls := .type "list", data := .seq ([] : List Value).toArray } = h1 at hS₁ hk1 hsz hs1 ⊢
 show wpAny _ A.in1 (Builtin.List.listExtendWith (.ref S) (.ref d) (.ref S)) _ _ _
 unfold Builtin.List.listExtendWith
 refine wpAny_bind (wpAny_typeOf (T := "set") (SLi.type (s := { s with heap := h1 }) hs1) ?_)
 have e1 : Builtin.List.listSameRef (.ref S) (.ref d) = false := by simp [Builtin.List.listSameRef]; exact Nat.ne_of_gt hlt
 rw [e1]
 rw [if_neg (by decide)]
 refine wpAny_bind (sit_iter (s := { s with heap := h1 }) T hs1 hz fun s₁ I fp ord St hp W st hfp hI hk hg ho => ?_)
 have hSf : S ∉ fp := fun q => by
  rcases hfp S q with x | x
  ·have y : h1.objs.size <= S := x
   rw [hsz] at y
   exact absurd y (Nat.not_succ_le_self _)
  ·exact absurd x (Nat.ne_of_gt hlt)
 have hS2 := hk S _ hS₁
 refine wpAny_bind (wpAny_holding (hint_set ?_ ?_))
 ·obtain ⟨o, ho', hx, _⟩ := hs1
  exact ⟨o, hk d o ho', hx.1⟩
 have key : ∀ (s₂ : Shared) (c : Nat), St 0 s₂.heap -> (∀ b o, b ≠ S -> s₁.heap.get? b = some o -> s₂.heap.get? b = some o) -> s₂.gens = s.gens -> s₂.os = s.os -> s₂.heap.get? S = some { cls := .type "list", data := .seq #[] c } →
   codeAny (model prog w) A (.builtin "list.extend.loop" ⟨[.ref S, .ref I, .ref S], []⟩) (fun r s' => ∃ acc' c', r = .ok (.ret (.ref S)) /\ s'.heap.get? S = some { cls := .type "list", dict := none, data := .seq acc' c', slots := #[] } /\ ItemsOf (setP ord) acc' es.size /\ (∀ b o, s.heap.get? b = some o -> s'.heap.get? b = some o) /\ s'.gens = s.gens /\ s'.os = s.os) s₂ := by
  intro s₂ c hst hk2 hg2 ho2 hS3
  refine codeAny_extend_loopS (W A.in1 hh).toS hz S hSf (.ref S) es.size 0 s₂ #[] c rfl (Nat.zero_le _) hst hS3 (ItemsOf.nil _) fun s' acc' c' hm hS' hacc => ?_
  refine ⟨acc', c', rfl, hS', hacc, fun b o e => ?_, by rw [<- hg2]; exact hm.gens, by rw [<- ho2]; exact hm.os⟩
  have hb : b < S := by rw [<- hS0]; exact Heap.lt_size e
  refine hm.heap b o (fun q => ?_) (hk2 b o (Nat.ne_of_lt hb) (hk b o (hk1 b o e)))
  have hI' : h1.objs.size <= I := hI
  rw [hsz] at hI'
  rcases List.mem_cons.mp q with q | q
  ·exact absurd q (Nat.ne_of_lt hb)
  ·rw [List.mem_singleton.mp q] at hb
   exact absurd hb (Nat.not_lt.mpr (Nat.le_of_succ_le hI'))
 have fin : ∀ (s' : Shared) (acc' : Array Value) (c' : Nat), s'.heap.get? S = some { cls := .type "list", dict := none, data := .seq acc' c', slots := #[] } -> ItemsOf (setP ord) acc' es.size -> (∀ b o, s.heap.get? b = some o -> s'.heap.get? b = some o) -> s'.gens = s.gens -> s'.os = s.os →
   wpAny (model prog w) A (load S >>= fun o => match o.data with | .seq items _ => pure items.toList | _ => unsupported "internal:collect") R E s' := by
  intro s' acc' c' hS' hacc hk' hg' ho'
  refine wpAny_bind (wpAny_load hS' ?_)
  refine wpAny_pure (h s' acc'.toList ord hk' hg' ho' hp ?_)
  apply List.ext_getElem?
  intro j
  rw [Array.getElem?_toList, List.getElem?_map]
  have hl : ord.length = es.size := by rw [hp.length_eq, Array.length_toList]
  rcases Nat.lt_or_ge j es.size with z | z
  ·have z1 : j < acc'.size := by rw [hacc.1]; exact z
   obtain ⟨e, he, hv⟩ := hacc.2 j acc'[j] (Array.getElem?_eq_getElem z1)
   rw [Array.getElem?_eq_getElem z1, he, hv]
   rfl
  ·rw [Array.getElem?_eq_none (by rw [hacc.1]; exact z), List.getElem?_eq_none (by omega)]
   rfl
 refine wpAny_ite_split (fun _ => ?_) (fun _ => ?_)
 ·refine wpAny_bind (wpAny_rule ?_)
  refine wpAny_bind ?_
  show wpAny _ _ (updateSeq S (·.push .none) >>= fun _ => updateSeq S (·.pop)) _ _ _
  refine wpAny_bind (wpAny_updateSeq hS2 rfl ?_)
  have hS3 := Heap.get?_update_self (Obj.mapSeq (·.push Value.none)) hS2 rfl
  refine wpAny_updateSeq (hz := by seq_fits) hS3 rfl ?_
  have hS4 := Heap.get?_update_self (Obj.mapSeq (·.pop)) hS3 rfl
  have oth : ∀ b o, b ≠ S -> s₁.heap.get? b = some o -> ((s₁.heap.update S (Obj.mapSeq (·.push Value.none))).update S (Obj.mapSeq (·.pop))).get? b = some o := fun b o hb e =>
   (Heap.get?_update_other _ _ (Ne.symm hb)).trans ((Heap.get?_update_other _ _ (Ne.symm hb)).trans e)
  refine wpAny_pure ⟨plainId_quiet PySem.F.plain_extend_loop _, codeAny_mono (key _ _ ((W A.in1 hh).frame 0 _ _ st fun b hb o e => oth b o (fun q => hSf (q ▸ hb)) e) oth hg ho hS4) ?_⟩
  rintro r s' ⟨acc', c', rfl, hS', hacc, k1, k2, k3⟩
  exact fin s' acc' c' hS' hacc k1 k2 k3
 ·refine wpAny_pure ⟨plainId_quiet PySem.F.plain_extend_loop _, codeAny_mono (key _ _ st (fun b o _ e => e) hg ho hS2) ?_⟩
  rintro r s' ⟨acc', c', rfl, hS', hacc, k1, k2, k3⟩
  exact fin s' acc' c' hS' hacc k1 k2 k3
end
end MD
namespace L2
open PySem PySem.Spec PyProof.Rows
end L2
namespace PySem
open Sem (wp)
end PySem
set_option autoImplicit false
namespace L2
open PySem PySem.Spec PyProof.Rows
end L2
namespace MD
open PySem PySem.Spec PyProof.Rows L2
section
variable {K : PySem.W.Frag} {cl : Str -> Addr} {ex : XD} {gt : GV} {ta : TV} {fk fv : EV} {fr : AV}
end
section
variable {K : PySem.W.Frag} {cl : Str -> Addr} {ex : XD}
def intsR (ns : List Int) : List D := ns.map D.int
theorem repL_intsR {α : List Addr} {H : Hp} : ∀ (ns : List Int), RepL K α H (intsR ns) (ns.map V.int)
 | [] => by rw [intsR, List.map_nil, RepL]; rfl
 | n :: ns => by
  rw [intsR, List.map_cons, RepL]
  exact ⟨.int n, ns.map V.int, rfl, repI, repL_intsR ns⟩
end
def onceI (ns : List Int) : List Int := ns.foldl step_dedup []
theorem onceI_met (ns : List Int) : firstMet (fun i => ns.getD i 0) ns.length = onceI ns := by
 unfold firstMet onceI
 congr 1
 apply List.ext_getElem?
 intro i
 rw [List.getElem?_map]
 rcases Nat.lt_or_ge i ns.length with h | h
 ·simp [h]
 ·simp [h]
theorem onceI_len (ns : List Int) : (onceI ns).length <= ns.length := by
 rw [<- onceI_met]; exact firstMet_length_le _ _
section
variable {X : Cx}
theorem Inv.moved {pins : List (Addr × Obj)} {σ : L2.St} {H : Hp} {s s' : Shared} (I : Inv X pins σ H s) (k : ∀ b o, s.heap.get? b = some o -> s'.heap.get? b = some o) (hg : s'.gens = s.gens) (ho : s'.os = s.os) : Inv X pins σ H s' := by
 have J := Inv.kept (t' := s'.toks) I k
 exact ⟨J.ok, by rw [ho]; exact J.os, by rw [hg]; exact J.bare, J.base, J.loc, J.cell, J.free, J.freeC, J.pin, J.hok, J.len⟩
theorem ints_ord {prog : Program} {w : World} : ∀ {l : List (Int × Value)}, ElemsOf (intKind prog w) l -> IntsAre (l.map (·.2)) (l.map fun e => ival e.2)
 | [], _ => .nil
 | e :: l, h => by
  obtain ⟨⟨k, hk, _⟩, _⟩ := h.head
  obtain ⟨t, ht⟩ := Value.isInt_shape hk
  rw [List.map_cons, List.map_cons, ht]
  exact .cons _ _ (ints_ord h.tail)
variable {e : Expr} {te : TE} {pos pos' : Pos}
theorem pe_sortS {x y : Str} {p p2 : Pos} (hc : X.calm = true) (he : PE X e te) (hgl : Gl X x) (hm : X.mg x = none) (hv : bootBuiltins x = some (.builtin "sorted")) (hgl2 : Gl X y) (hm2 : X.mg y = none) (hv2 : bootBuiltins y = some (.type "set"))
  (hn : autoParam (x ≠ "__name__") AutoP.a1._auto_1) (hdb : autoParam ((x == ("__debug__" : Str)) = false) AutoP.a1._auto_1) (hn2 : autoParam (y ≠ "__name__") AutoP.a1._auto_1) (hdb2 : autoParam ((y == ("__debug__" : Str)) = false) AutoP.a1._auto_1)
  (hst : autoParam (starEach [.Call (.Name y p2) [e] [] pos] X.env = (false, eval (.Call (.Name y p2) [e] [] pos) X.env) :: starEach [] X.env) AutoP.a3._auto_1)
  (hst2 : autoParam (starEach [e] X.env = (false, eval e X.env) :: starEach [] X.env) AutoP.a3._auto_1) :
  PE X (.Call (.Name x p) [.Call (.Name y p2) [e] [] pos] [] pos') (fun σ H Q => te σ H fun v H' => ∃ (a : Addr) (ns : List Int), v = .ref a /\ SqL X.K H' a (ns.map V.int) /\ ns.length < 64 /\ ∀ l, H' l = none -> Q (.ref l) (upd H' l (.lst ((sortI (onceI ns)).map V.int)))) := by
 intro pins s σ H Q I h
 refine wpAny_Call_Name_kw (ld_blt I hgl hm hv ?_ hn hdb)
 refine PyProof.Rows.callWith_builtin1 ?_ hst rfl
 rw [hst]
 show wpAny _ _ (spliced ((false, eval (.Call (.Name y p2) [e] [] pos) X.env) :: backTo pos' (starEach [] X.env))) _ _ s
 refine Calls.spliced_cons ?_
 refine wpAny_Call_Name_kw (ld_blt I hgl2 hm2 hv2 ?_ hn2 hdb2)
 refine PyProof.Rows.callWith_type1 ?_ hst2 rfl
 rw [hst2]
 show wpAny _ _ (spliced ((false, eval e X.env) :: backTo pos (starEach [] X.env))) _ _ s
 refine Calls.spliced_cons (thn (he pins s σ H _ I h) fun u s1 ⟨v, H1, I1, rv, a, ns, ev, hsq, hl, q⟩ => ?_)
 subst ev
 obtain rfl : u = Value.ref a := rv
 refine Calls.spliced_nil ?_
 obtain ⟨its, r, ⟨o, n, e1, e2, e4, e3⟩, _⟩ := I1.list hsq
 have hlen := r.length
 rw [List.length_map] at hlen
 have hsz : its.toArray.size = ns.length := by rw [List.size_toArray]; omega
 refine call_set_lst (its := its.toArray) (ns := ns) (I1.ok.hd hc) ⟨o, e1, e2, n, e3⟩ (by simpa using vals_intsS r) (by rw [hsz]; unfold scanBound; omega) hsz fun h' tk hS => ?_
 obtain ⟨⟨os, es, ep, t, ho, hx, hd, hel, hp, hb, hf, T⟩, hk⟩ := hS
 rw [onceI_met] at hp
 have I2 : Inv X pins σ H1 { s1 with heap := h', toks := tk } := I1.kept (t' := tk) fun b o e => hk b o (Heap.lt_size e) e
 refine Calls.spliced_nil ?_
 have hz : es.size = (onceI ns).length := by rw [<- hp.length_eq, List.length_map, Array.length_toList]
 have hz2 := onceI_len ns
 refine Calls.call_function_entry kind_sorted plain_sorted entry_sorted (args_sorted1 _) ?_
 unfold Builtin.«sorted»
 refine wpAny_bind (m := checkCount "sorted" 1 1 _) (wpAny_pure ?_)
 refine wpAny_bind (set_collect (A := X.A.in1) (s := { s1 with heap := h', toks := tk }) T ⟨os, ho, hx, hd, hf⟩ (by rw [hz, sizeLine_eq]; omega) (I1.ok.hd hc) fun s' acc ord k1 k2 k3 hpo ea => ?_)
 subst ea
 have hi := ints_ord (hel.perm hpo)
 have hpp : (ord.map fun e => ival e.2).Perm (onceI ns) := (hpo.map _).trans hp
 have hl2 : (ord.map (·.2)).length < 64 := by rw [List.length_map, hpo.length_eq, Array.length_toList]; omega
 have I3 : Inv X pins σ H1 s' := Inv.moved I2 k1 k2 k3
 obtain ⟨hp', g', d', tk', os'⟩ := s'
 refine wpAny_bind (wpAny_newList ?_ (by rw [sizeLine_eq]; omega))
 have hoL : (hp'.push (seqObj "list" (ord.map (·.2)).toArray 0)).get? hp'.objs.size = some (seqObj "list" (ord.map (·.2)).toArray 0) := Heap.get?_push_size _ rfl
 show wpAny _ _ _ _ _ { heap := hp'.push (seqObj "list" (ord.map (·.2)).toArray 0), gens := g', drawn := d', toks := tk', os := os' }
 refine wpAny_bind (wpAny_holding (wpAny_call_entry slot_list_sort ⟨_, hoL, rfl⟩ entry_list_sort (list_sort_tree hoL hi hl2 fun out ns' a1 a2 a3 => ⟨_, rfl, ?_⟩) (args_list_sort _)))
 refine wpAny_pure ⟨_, rfl, ?_⟩
 obtain ⟨e, he⟩ := sortedHeap_at (out := out) hoL
 have hn' : ns' = sortI (onceI ns) := sortI_is (a2.trans hpp) a3
 subst hn'
 refine ⟨.ref hp'.objs.size, _, I3.laid (t' := tk') (fun b o ho => ?_) (Nat.le_refl _) (show ObjOk X.prog X.w _ _ _ (.lst ((sortI (onceI ns)).map V.int)) from ⟨?_, out.toList, e, vals_ints a1, by simpa using he⟩), rfl, q _ (I3.hok.fresh (Nat.le_refl _))⟩
 ·have hlt := Heap.lt_size ho
  rw [sortedHeap_old (Nat.ne_of_lt hlt) (by rw [size_push']; exact Nat.lt_succ_of_lt hlt), Heap.get?_push_ne _ _ _ (Nat.ne_of_lt hlt)]
  exact ho
 ·rw [List.length_map, sortI_len, sizeLine_eq]
  omega
end
section
variable {X : Cx} {cl : Str -> Addr} {ex : XD} {e : Expr} {fa : EV} {pos p pos' : Pos} {x : Str}
def sortSet (d : D) (m : Sto) : Res D := match (lOf d m).bind asInts with
 | some ns => if ns.length < 64 then .ok (.lst (intsR (sortI (onceI ns)))) m else .bad
 | none => .bad
theorem qe_sortS {y : Str} {p2 : Pos} (hc : X.calm = true) (he : QE X cl ex e fa) (hgl : Gl X x) (hm : X.mg x = none) (hv : bootBuiltins x = some (.builtin "sorted")) (hgl2 : Gl X y) (hm2 : X.mg y = none) (hv2 : bootBuiltins y = some (.type "set"))
  (hn : autoParam (x ≠ "__name__") AutoP.a1._auto_1) (hdb : autoParam ((x == ("__debug__" : Str)) = false) AutoP.a1._auto_1) (hn2 : autoParam (y ≠ "__name__") AutoP.a1._auto_1) (hdb2 : autoParam ((y == ("__debug__" : Str)) = false) AutoP.a1._auto_1)
  (hst : autoParam (starEach [.Call (.Name y p2) [e] [] pos] X.env = (false, eval (.Call (.Name y p2) [e] [] pos) X.env) :: starEach [] X.env) AutoP.a3._auto_1)
  (hst2 : autoParam (starEach [e] X.env = (false, eval e X.env) :: starEach [] X.env) AutoP.a3._auto_1) : QE X cl ex (.Call (.Name x p) [.Call (.Name y p2) [e] [] pos] [] pos') (eUn sortSet fa) :=
 ⟨PE.weak (pe_sortS hc he.out hgl hm hv hgl2 hm2 hv2 hn hdb hn2 hdb2 hst hst2) fun σ H Q hh => ex3 hh fun α ρ m W hr h => ⟨α, ρ, m, W, hr, PQ.mono (Ext.refl W) h.bind fun d α1 m1 H1 E1 W1 q v rv => by
  unfold sortSet at q
  split at q
  ·rename_i ns hns
   obtain ⟨hl, q⟩ := PQ.if q
   obtain ⟨xs, e1, e2⟩ := Option.bind_eq_some_iff.mp hns
   obtain ⟨a, ys, rfl, h1, r1⟩ := lOf_use W1 e1 rv
   rw [asInts_use e2 r1] at h1
   exact ⟨a, ns, rfl, h1, hl, fun l hl => PQ.okS W1 (Same.new hl) q _ (rep_lst W1 hl (repL_intsR _))⟩
  ·exact q.elim⟩⟩
end
section
variable {prog : Program} {w : World} {A : Around} {R : Result -> Shared -> Prop} {I : Addr} {fp wr : List Addr} {n : Nat} {P : Nat -> Value -> Prop} {St : Nat -> Heap -> Prop} {Ok : Heap -> Prop}
def CmpIn (prog : Program) (w : World) (A : Around) (Ok : Heap -> Prop) (P : Nat -> Value -> Prop) (bt : Nat -> Nat -> Bool) : Prop :=
 ∀ i j vi vj (s : Shared) (Q : Value -> Shared -> Prop) (E : Value -> Shared -> Prop), Ok s.heap -> P i vi -> P j vj -> Q (.bool (bt i j)) s -> wpAny (model prog w) A (richCompare .Lt vi vj) Q E s
theorem min_rest (W : Walks prog w A.in1 I fp wr n P St) (bt : Nat -> Nat -> Bool) (hcmp : CmpIn prog w A.in1 Ok P bt) (S : Addr) (hSf : S ∉ fp)
  (hOk : ∀ h h' : Heap, Ok h -> (∀ b o, b ∉ wr -> b ≠ S -> h.get? b = some o -> h'.get? b = some o) -> Ok h') :
  ∀ (k j : Nat) (s : Shared) (vb : Value) (c : Nat), n - (j + 1) = k -> j + 1 <= n -> St (j + 1) s.heap -> Ok s.heap -> P (argBest bt j) vb →
  s.heap.get? S = some { cls := .type "list", dict := none, data := .seq #[vb, vb] c, slots := #[] } →
  (∀ v h' tk, P (argBest bt (n - 1)) v -> (∀ b o, b ∉ wr -> b ≠ S -> s.heap.get? b = some o -> h'.get? b = some o) -> R (.ok (.ret v)) { s with heap := h', toks := tk }) →
  codeAny (model prog w) A (.builtin "min.loop" ⟨[.ref I, .none, .ref S], []⟩) R s := by
 have hSw : S ∉ wr := fun h => hSf (W.sub _ h)
 have hname : (toString "min" ++ toString ".loop" : String) = "min.loop" := by decide
 intro k
 induction k with
 | zero =>
  intro j s vb c hk hj hst hO hPb hS hR
  have hin : j + 1 = n := by omega
  refine codeAny_builtin F.entry_min_loop ?_
  rw [Around.under_plainId F.plain_min_loop _]
  show wpAny _ A.in1 (seqItems? (.ref S) >>= _) _ _ s
  refine wpAny_bind (wpAny_seqItems hS rfl ?_)
  show wpAny _ A.in1 (tryCatch (pyNext (.ref I)) _ >>= _) _ _ s
  refine wpAny_bind (wpAny_tryCatch (W.done s _ _ (hin ▸ hst) fun h' tk hk' => ?_))
  have hS' := hk' S _ hSw hS
  show wpAny _ A.in1 (updateSeq S (fun _ => #[]) >>= _) _ _ _
  refine wpAny_bind ?_
  refine wpAny_updateSeq hS' rfl (wpAny_bind (wpAny_letGo (wpAny_pure ?_)))
  refine hR vb _ tk (by rw [<- hin]; exact hPb) fun b o hbw hbS e => (Heap.get?_update_other _ _ (Ne.symm hbS)).trans (hk' b o hbw e)
 | succ k ih =>
  intro j s vb c hk hj hst hO hPb hS hR
  have hlt : j + 1 < n := by omega
  refine codeAny_builtin F.entry_min_loop ?_
  rw [Around.under_plainId F.plain_min_loop _]
  show wpAny _ A.in1 (seqItems? (.ref S) >>= _) _ _ s
  refine wpAny_bind (wpAny_seqItems hS rfl ?_)
  show wpAny _ A.in1 (tryCatch (pyNext (.ref I)) _ >>= _) _ _ s
  refine wpAny_bind (wpAny_tryCatch (W.item (j + 1) s _ _ hlt hst fun v h' tk hP hst' hk' => ?_))
  have hS' := hk' S _ hSw hS
  have hO' : Ok h' := hOk _ _ hO fun b o hw _ e => hk' b o hw e
  show wpAny _ A.in1 (tryCatch (holding [v, v] (richCompare .Lt v vb >>= _)) _ >>= _) _ _ _
  refine wpAny_bind (wpAny_tryCatch (wpAny_holding (wpAny_bind (hcmp (j + 1) (argBest bt j) v vb _ _ _ hO' hP hPb ?_))))
  refine wpAny_bind (wpAny_holding (wpAny_truthy_bool ?_))
  refine wpAny_bind (wpAny_letGo (wpAny_pure ?_))
  cases hb : bt (j + 1) (argBest bt j) with
  | true =>
   simp only [if_true]
   refine wpAny_bind ?_
   refine wpAny_updateSeq hS' rfl (wpAny_bind (wpAny_letGo ?_))
   rw [hname]
   refine wpAny_pure ⟨plainId_quiet F.plain_min_loop _, ih (j + 1) _ v _ (by omega) hlt (W.frame _ _ _ hst' fun b hbf o e => ?_) (hOk _ _ hO' fun b o _ hbS e => (Heap.get?_update_other _ _ (Ne.symm hbS)).trans e) (by simp only [argBest, hb, if_true]; exact hP) (Heap.get?_update_self _ hS' rfl)
    fun v' h'' tk'' hP' hk'' => ?_⟩
   ·exact (Heap.get?_update_other _ _ (fun h : S = b => hSf (by rw [h]; exact hbf))).trans e
   ·exact hR v' h'' tk'' hP' fun b o hbw hbS e => hk'' b o hbw hbS ((Heap.get?_update_other _ _ (Ne.symm hbS)).trans (hk' b o hbw e))
  | false =>
   simp only [Bool.false_eq_true, if_false]
   refine wpAny_bind (wpAny_letGo ?_)
   rw [hname]
   refine wpAny_pure ⟨plainId_quiet F.plain_min_loop _, ih (j + 1) _ vb c (by omega) hlt hst' hO' (by simp only [argBest, hb, Bool.false_eq_true, if_false]; exact hPb) hS' fun v' h'' tk'' hP' hk'' => ?_⟩
   exact hR v' h'' tk'' hP' fun b o hbw hbS e => hk'' b o hbw hbS (hk' b o hbw e)
theorem min_first (W : Walks prog w A.in1 I fp wr n P St) (bt : Nat -> Nat -> Bool) (hcmp : CmpIn prog w A.in1 Ok P bt) (S : Addr) (hSf : S ∉ fp)
  (hOk : ∀ h h' : Heap, Ok h -> (∀ b o, b ∉ wr -> b ≠ S -> h.get? b = some o -> h'.get? b = some o) -> Ok h') (hn : 0 < n) {s : Shared} {c : Nat} (hst : St 0 s.heap) (hO : Ok s.heap)
  (hS : s.heap.get? S = some { cls := .type "list", dict := none, data := .seq #[] c, slots := #[] })
  (hR : ∀ v h' tk, P (argBest bt (n - 1)) v -> (∀ b o, b ∉ wr -> b ≠ S -> s.heap.get? b = some o -> h'.get? b = some o) -> R (.ok (.ret v)) { s with heap := h', toks := tk }) :
  codeAny (model prog w) A (.builtin "min.loop" ⟨[.ref I, .none, .ref S], []⟩) R s := by
 have hSw : S ∉ wr := fun h => hSf (W.sub _ h)
 have hname : (toString "min" ++ toString ".loop" : String) = "min.loop" := by decide
 refine codeAny_builtin F.entry_min_loop ?_
 rw [Around.under_plainId F.plain_min_loop _]
 show wpAny _ A.in1 (seqItems? (.ref S) >>= _) _ _ s
 refine wpAny_bind (wpAny_seqItems hS rfl ?_)
 show wpAny _ A.in1 (tryCatch (pyNext (.ref I)) _ >>= _) _ _ s
 refine wpAny_bind (wpAny_tryCatch (W.item 0 s _ _ hn hst fun v h' tk hP hst' hk' => ?_))
 have hS' := hk' S _ hSw hS
 have hO' : Ok h' := hOk _ _ hO fun b o hw _ e => hk' b o hw e
 show wpAny _ A.in1 (updateSeq S (fun _ => #[v, v]) >>= _) _ _ _
 refine wpAny_bind ?_
 refine wpAny_updateSeq hS' rfl ?_
 rw [hname]
 refine wpAny_pure ⟨plainId_quiet F.plain_min_loop _, min_rest W bt hcmp S hSf hOk _ 0 _ v _ rfl hn (W.frame _ _ _ hst' fun b hbf o e => ?_) (hOk _ _ hO' fun b o _ hbS e => (Heap.get?_update_other _ _ (Ne.symm hbS)).trans e) hP (Heap.get?_update_self _ hS' rfl) fun v' h'' tk'' hP' hk'' => ?_⟩
 ·exact (Heap.get?_update_other _ _ (fun h : S = b => hSf (by rw [h]; exact hbf))).trans e
 ·exact hR v' h'' tk'' hP' fun b o hbw hbS e => hk'' b o hbw hbS ((Heap.get?_update_other _ _ (Ne.symm hbS)).trans (hk' b o hbw e))
end
section
variable {prog : Program} {w : World} {A : Around} {E : Value -> Shared -> Prop} {s : Shared}
theorem min_list {l : Addr} {items : Array Value} {bt : Nat -> Nat -> Bool} {Q : Value -> Shared -> Prop} (hh : A.handled = none) (hl : s.heap.IsList l items) (hne : 0 < items.size)
  (hcmp : CmpIn prog w A.in1 (fun h => ∀ b o, s.heap.get? b = some o -> h.get? b = some o) (fun i v => items[i]? = some v) bt)
  (h : ∀ v h' tk, items[argBest bt (items.size - 1)]? = some v -> (∀ b o, s.heap.get? b = some o -> h'.get? b = some o) -> Q v { s with heap := h', toks := tk }) :
  wpAny (model prog w) A (call (.builtin "min") [.ref l]) Q E s := by
 have hname : (toString "min" ++ toString ".loop" : String) = "min.loop" := by decide
 have hlt : l < s.heap.objs.size := by obtain ⟨_, e, _⟩ := hl; exact Heap.lt_size e
 refine call_function_tree F.kind_min F.plain_min F.entry_min (F.args_min1 _) ?_
 show wpAny _ A.in1 (Builtin.Builtins.bindParams "min" ["key", "default"] 0 ⟨[], []⟩ >>= _) _ _ s
 refine wpAny_bind (wpAny_of_eq (show Builtin.Builtins.bindParams "min" ["key", "default"] 0 ⟨[], []⟩ = pure [none, none] from rfl) ?_)
 refine wpAny_bind (wpAny_pure ?_)
 refine wpAny_bind (wpAny_pyIter_list hl ?_)
 refine wpAny_bind (wpAny_newObj_type ?_)
 have z1 : (s.heap.push { cls := .type "list_iterator", data := .fields #[.ref l, .int 0 0] }).objs.size = s.heap.objs.size + 1 := Heap.size_push _ _
 have W := Walks.list (prog := prog) (w := w) (A := A.in1) hh s.heap.objs.size l (Nat.ne_of_lt hlt) items
 have hk : ∀ b o, s.heap.get? b = some o -> (s.heap.push { cls := .type "list_iterator", data := .fields #[.ref l, .int 0 0] }).get? b = some o := fun b o e => Heap.get?_push_of_some _ e
 have st : (s.heap.push { cls := .type "list_iterator", data := .fields #[.ref l, .int 0 0] }).IsListIter s.heap.objs.size l 0 /\ (s.heap.push { cls := .type "list_iterator", data := .fields #[.ref l, .int 0 0] }).IsList l items :=
  ⟨⟨_, Heap.get?_push_size _ rfl, rfl, rfl⟩, hl.push _⟩
 dsimp only
 generalize s.heap.push { cls := .type "list_iterator", data := .fields #[.ref l, .int 0 0] } = h1 at z1 hk st ⊢
 have hSf : h1.objs.size ∉ [s.heap.objs.size, l] := fun q => by
  simp only [List.mem_cons, List.not_mem_nil, or_false] at q
  rcases q with q | q
  ·rw [z1] at q; exact absurd q (Nat.succ_ne_self _)
  ·rw [z1] at q; rw [<- q] at hlt; exact absurd hlt (Nat.not_lt.mpr (Nat.le_succ _))
 rw [hname]
 refine wpAny_pure ⟨plainId_quiet F.plain_min_loop _, min_first W bt hcmp h1.objs.size hSf (fun ha hb x y b o e => ?_) hne (W.frame _ _ _ st fun b _ o e => Heap.get?_push_of_some _ e) (fun b o e => Heap.get?_push_of_some _ (hk b o e)) (Heap.get?_push_size _ rfl) fun v h' tk hP hk' => ?_⟩
 ·have hb' : b < s.heap.objs.size := Heap.lt_size e
  exact y b o (fun q => absurd (List.mem_singleton.mp q) (Nat.ne_of_lt hb')) (by rw [z1]; exact Nat.ne_of_lt (Nat.lt_succ_of_lt hb')) (x b o e)
 ·refine h v h' tk hP fun b o e => ?_
  have hb' : b < s.heap.objs.size := Heap.lt_size e
  exact hk' b o (fun q => absurd (List.mem_singleton.mp q) (Nat.ne_of_lt hb')) (by rw [z1]; exact Nat.ne_of_lt (Nat.lt_succ_of_lt hb')) (Heap.get?_push_of_some _ (hk b o e))
end
def minAt (rows : List (List Int)) : Nat := argBest (fun i j => HT.lexLt (rows.getD i []) (rows.getD j [])) (rows.length - 1)
def RowsV (K : PySem.W.Frag) (H : Hp) (ys : List V) (rows : List (List Int)) : Prop :=
 ys.length = rows.length /\ ∀ (i : Nat) (row : List Int), rows[i]? = some row -> ∃ a : Addr, ys[i]? = some (V.ref a) /\ SqT K H a (row.map V.int)
def rMinT (K : PySem.W.Frag) : List V -> Hp -> VK -> Prop := fun xs H Q => ∃ (l : Addr) (ys : List V) (rows : List (List Int)), xs = [.ref l] /\ SqL K H l ys /\ RowsV K H ys rows /\ rows ≠ [] /\ ∀ v, ys[minAt rows]? = some v -> Q v H
theorem call_minT {X : Cx} (hc : X.calm = true) (hu : X.A.units + 1 < cLine) : CallR X (.builtin "min") (rMinT X.K) := by
 intro pins s σ H xs us Q I r h
 obtain ⟨l, ys, rows, rfl, hq, ⟨hlen, hrow⟩, hne, q⟩ := h
 obtain ⟨u, rfl, rx⟩ := vals1 r
 cases rx
 obtain ⟨its, r', pl, hz⟩ := I.list hq
 have hl := pl.isList
 have hlv := r'.length
 have hpos : 0 < rows.length := List.length_pos_iff.mpr hne
 have hsz : its.toArray.size = rows.length := by rw [List.size_toArray]; omega
 have at' : ∀ (i : Nat) (v : Value), its.toArray[i]? = some v -> ∃ a its', v = .ref a /\ ys[i]? = some (.ref a) /\ IsTup s.heap a its'  /\ IntsAre its'.toList (rows.getD i []) := by
  intro i v hv
  have hi : i < rows.length := by
   rcases Nat.lt_or_ge i rows.length with z | z
   ·exact z
   ·rw [Array.getElem?_eq_none (by omega)] at hv; cases hv
  obtain ⟨a, e1, e2⟩ := hrow i rows[i] (List.getElem?_eq_getElem hi)
  obtain ⟨u, e3, e4⟩ := r'.get e1
  have e5 : its.toArray[i]? = some u := by simpa using e3
  rw [hv] at e5
  cases e5
  cases e4
  obtain ⟨its', r2, p2, _⟩ := I.tuple e2
  refine ⟨a, _, rfl, e1, p2, ?_⟩
  have : rows.getD i [] = rows[i] := by simp [List.getD, hi]
  rw [this]
  exact intsAre_of r2
 refine min_list (bt := fun i j => HT.lexLt (rows.getD i []) (rows.getD j [])) (I.ok.hd hc) hl (by omega) (fun i j vi vj s' Q' E' hok hi hj hq' => ?_) fun v h' tk hv hk => ?_
 ·obtain ⟨a, i1, rfl, _, p1, n1⟩ := at' i vi hi
  obtain ⟨b, i2, rfl, _, p2, n2⟩ := at' j vj hj
  obtain ⟨o1, g1, x1⟩ := p1
  obtain ⟨o2, g2, x2⟩ := p2
  exact HT.lt_tupInts (A := X.A.in1) ⟨o1, hok _ _ g1, x1⟩ ⟨o2, hok _ _ g2, x2⟩ n1 n2 hu hq'
 ·rw [hsz] at hv
  obtain ⟨a, i1, rfl, e1, _⟩ := at' _ v hv
  exact ⟨.ref a, H, I.kept hk, rfl, q _ e1⟩
section
variable {K : PySem.W.Frag} {cl : Str -> Addr} {ex : XD}
def asRow : D -> Option (List Int)
 | .tup xs => asInts xs
 | _ => none
def asRows : List D -> Option (List (List Int))
 | [] => some []
 | d :: r => (asRow d).bind fun x => (asRows r).map (x :: ·)
def minTF (ds : List D) (m : Sto) : Res D := match ds with
 | [d] => match lOf d m with
  | some xs => match asRows xs with
   | some rows => match xs[minAt rows]? with
    | some x => if rows ≠ [] then .ok x m else .bad
    | none => .bad
   | none => .bad
  | none => .bad
 | _ => .bad
theorem rows_use {α : List Addr} {H : Hp} : ∀ {ds : List D} {rows : List (List Int)} {vs : List V}, asRows ds = some rows -> RepL K α H ds vs -> RowsV K H vs rows
 | [], rows, vs, e, r => by
  cases e
  rw [RepL] at r
  subst r
  exact ⟨rfl, fun i row h => by simp at h⟩
 | d :: t, rows, vs, e, r => by
  unfold asRows at e
  obtain ⟨x, hx, e⟩ := Option.bind_eq_some_iff.mp e
  obtain ⟨rs, hr, rfl⟩ := Option.map_eq_some_iff.mp e
  rw [RepL] at r
  obtain ⟨v, vs', rfl, rv, rt⟩ := r
  obtain ⟨h1, h2⟩ := rows_use hr rt
  refine ⟨by simp [h1], fun i row h => ?_⟩
  cases i with
  | zero =>
   simp only [List.getElem?_cons_zero, Option.some.injEq] at h
   subst h
   unfold asRow at hx
   split at hx
   ·rw [Rep] at rv
    obtain ⟨a, ys, rfl, q1, q2⟩ := rv
    rw [asInts_use hx q2] at q1
    exact ⟨a, rfl, q1.sq⟩
   ·cases hx
  | succ i => simpa using h2 i row (by simpa using h)
theorem fd_minT : FnD K cl ex (rMinT K) minTF := fun α m H x vx Q W rx h => by
 unfold minTF at h
 split at h
 ·split at h
  ·rename_i xs e1
   split at h
   ·rename_i rows e2
    split at h
    ·rename_i d e3
     obtain ⟨hc, h⟩ := PQ.if h
     obtain ⟨v, rfl, rv⟩ := rx.one_of
     obtain ⟨p, ys, rfl, h1, r1⟩ := lOf_use W e1 rv
     obtain ⟨v, e4, rv⟩ := r1.get e3
     refine ⟨p, ys, rows, rfl, h1, rows_use e2 r1, hc, fun u hu => ?_⟩
     rw [e4] at hu
     cases hu
     exact PQ.ok W h _ rv
    ·exact h.elim
   ·exact h.elim
  ·exact h.elim
 ·exact h.elim
end
def gWidthWith0 : SV :=
 (sRet (eFn gWidthFor (aCons (eOp addD (eC (.int 1)) (eFn maxLF (aCons (eOp addD (eFn gLst (aCons (eVar 2) aNil)) (eFn gL1 (aComp 1 (aIt (eVar 1)) (gN 3) tYesM (eFn gRestOf (aCons (eOp addD (eVar 3) (eVar 2)) (aCons (eVar 0) aNil)))))) aNil))) aNil)))
def gWidthWith : List D -> Sto -> Res D := runF 3 gWidthWith0
def gTightest0 : SV :=
 (sSeq (sAsg (eOp addD (eFn gLst (aCons (eC (.int 0)) aNil)) (eFn gL1 (aComp 1 (aIt (eVar 1)) (gN 3) tYesM (eFn gRestOf (aCons (eUn negD (eVar 3)) (aCons (eVar 0) aNil)))))) (gN 2))
 (sRet (eFn minTF (aCons (eFn gL1 (aComp 1 (aIt (eVar 2)) (gN 3) tYesM (eFn gTup (aCons (eFn gWidthWith (aCons (eVar 0) (aCons (eVar 1) (aCons (eVar 3) aNil)))) (aCons (eVar 3) aNil))))) aNil))))
def gTightest : List D -> Sto -> Res D := runF 3 gTightest0
def gLawOffset0 : SV :=
 (sSeq (sAsg (eOp shlD (eC (.int 1)) (eVar 1)) (gN 2))
 (sSeq (sAsg (eOp subD (eOp addD (eOp shlD (eC (.int 1)) (eFn gLawDraw (aCons (eVar 0) (aCons (eVar 1) aNil)))) (eFn gLawDraw (aCons (eVar 0) (aCons (eC (.int 3)) aNil)))) (eC (.int 1))) (gN 3))
 (sSeq (sAsg (eFn gLst (aCons (eC (.int 0)) (aCons (eFn gLawDraw (aCons (eVar 0) (aCons (eC (.int 4)) aNil))) (aCons (eOp subD (eC (.int 0)) (eFn gLawDraw (aCons (eVar 0) (aCons (eC (.int 4)) aNil)))) (aCons (eVar 3) (aCons (eOp subD (eC (.int 0)) (eVar 3)) (aCons (eFn gLawValue2 (aCons (eVar 0) (aCons (eVar 1) aNil))) aNil))))))) (gN 4))
 (sRet (eOp modD (eOp ixD (eVar 4) (eFn gLawDraw (aCons (eVar 0) (aCons (eC (.int 6)) aNil)))) (eVar 2))))))
def gLawOffset : List D -> Sto -> Res D := runF 5 gLawOffset0
def gLawIn0 : SV :=
 (sSeq (sAsg (eFn gTup (aCons (eOp shlD (eC (.int 1)) (eVar 0)) (aCons (eOp shlD (eC (.int 1)) (eVar 2)) aNil))) (gT 2 (gsCons (gN 4) (gsCons (gN 5) gsNil))))
 (sRet (eAnd (eOp ltD (eVar 3) (eVar 5)) (eFn allF (aCons (eFn gL1 (aComp 1 (aIt (eVar 1)) (gN 6) tYesM (eOp ltD (eOp modD (eOp addD (eVar 6) (eVar 3)) (eVar 4)) (eVar 5)))) aNil)))))
def gLawIn : List D -> Sto -> Res D := runF 6 gLawIn0
def gLawBelows0 : SV :=
 (sSeq (sIf (tV (eOp ltD (eVar 0) (eC (.int 7))))
 (sRet (eFn lstRF (aCons (eOp shlD (eC (.int 1)) (eVar 0)) aNil)))
 sNil)
 (sRet (eUn sortSet (eOp addD (eFn gLst (aCons (eC (.int 0)) aNil)) (eFn gL1 (aComp 1 (aIt (eVar 1)) (gN 2) tYesM (eOp modD (eOp subD (eC (.int 0)) (eVar 2)) (eOp shlD (eC (.int 1)) (eVar 0)))))))))
def gLawBelows : List D -> Sto -> Res D := runF 2 gLawBelows0
def gLawDue90 : SV :=
 (sSeq (sFor (aRng rng1 (aCons (eOp addD (eVar 0) (eC (.int 1))) aNil)) (gN 2)
 (sSeq (sAsg (eFn gL1 (aComp 1 (aIt (eFn gLawBelows (aCons (eVar 0) (aCons (eVar 1) aNil)))) (gN 4) (tV (eFn gLawIn (aCons (eVar 0) (aCons (eVar 1) (aCons (eVar 2) (aCons (eVar 4) aNil)))))) (eVar 4))) (gN 3))
 (sIf (tV (eOp neD (eVar 3) (eFn gLst aNil)))
 (sRet (eFn gTup (aCons (eVar 2) (aCons (eOp ixD (eVar 3) (eC (.int 0))) aNil))))
 sNil)))
 (sRet (eC .non)))
def gLawDue9 : List D -> Sto -> Res D := runF 4 gLawDue90
def gLaw310 : SV :=
 (sSeq (sFor (aRng rng1 (aCons (eOp addD (eC (.int 2)) (eFn min2F (aCons (eC (.int 14)) (aCons (eFn lenF (aCons (eVar 0) aNil)) aNil)))) aNil)) (gN 1)
 (sSeq (sAsg (eFn gLawPot2 (aCons (eVar 0) (aCons (eVar 1) aNil))) (gN 2))
 (sFor (aRng rng1 (aCons (eC (.int 3)) aNil)) (gN 3)
 (sSeq (sAsg (eOp ixD (eFn gLst (aCons (eC (.int 1)) (aCons (eC (.int 2)) (aCons (eOp addD (eC (.int 1)) (eFn gLawDraw (aCons (eVar 2) (aCons (eC (.int 6)) aNil)))) (aCons (eOp addD (eC (.int 1)) (eFn gLawDraw (aCons (eVar 2) (aCons (eC (.int 40)) aNil)))) (aCons (eC (.int 40)) aNil)))))) (eFn gLawDraw (aCons (eVar 2) (aCons (eC (.int 5)) aNil)))) (gN 4))
 (sSeq (sAsg (eFn tupF (aCons (eFn gL1 (aComp 1 (aRng rng1 (aCons (eFn gLawDraw (aCons (eVar 2) (aCons (eC (.int 8)) aNil))) aNil)) (gN 7) tYesM (eFn gLawOffset (aCons (eVar 2) (aCons (eVar 4) aNil))))) aNil)) (gN 5))
 (sSeq (sAsg (eFn gTightest (aCons (eVar 4) (aCons (eVar 5) aNil))) (gN 6))
 (sSeq (sIf (tOrM (tNotM (tV (eUn (isiD "tuple") (eVar 6)))) (tOrM (tV (eOp neD (eFn lenF (aCons (eVar 6) aNil)) (eC (.int 2)))) (tNotM (tV (eFn allF (aCons (eFn gL1 (aComp 1 (aIt (eVar 6)) (gN 7) tYesM (eFn gIsWhole (aCons (eVar 7) aNil)))) aNil))))))
 (sRet (eC (.bl false)))
 sNil)
 (sIf (tV (eOp neD (eVar 6) (eFn gLawDue9 (aCons (eVar 4) (aCons (eVar 5) aNil)))))
 (sRet (eC (.bl false)))
 sNil))))))))
 (sRet (eOp eqD (eFn gTightest (aCons (eOp addD (eC (.int 1)) (eFn gLawDraw (aCons (eFn gLawPot2 (aCons (eVar 0) (aCons (eC (.int 0)) aNil))) (aCons (eC (.int 40)) aNil)))) (aCons (eFn gTup aNil) aNil))) (eFn gTup (aCons (eC (.int 0)) (aCons (eC (.int 0)) aNil))))))
def gLaw31 : List D -> Sto -> Res D := runF 7 gLaw310
theorem sco {N P : List Str} {sc : Scope} (a : autoParam (sc.kind = .function) AutoP.a3._auto_1) (b : autoParam (sc.isCoroutine = false) AutoP.a3._auto_1) (c : autoParam (sc.isGenerator = false) AutoP.a3._auto_1) (d : autoParam (N.Nodup) AutoP.a6._auto_1) (e : autoParam (N.take P.length = P) AutoP.a3._auto_1)
  (f : autoParam (∀ x ∈ P, sc.names.lookup x = some .local ∨ sc.names.lookup x = some .cell) AutoP.a6._auto_1) (g : autoParam (∀ y ∈ sc.names, y.2 ≠ .free) AutoP.a6._auto_1) : FnScope N P sc := ⟨a, b, c, d, e, f, g⟩
theorem qxi {X : Cx} {cl : Str -> Addr} {ex : XD} {a b : Expr} {fa fb : EV} {pos : Pos} {k : Nat} (hr : Room k X.A) (ha : QE X cl ex a fa) (hb : QE X cl ex b fb) (hs : autoParam (PlainIx b) AutoP.a7._auto_1) : QE X cl ex (.Subscript a b pos) (eOp ixD fa fb) :=
 qe_ix (ix_A (hu_of hr)) od_ix ha hb hs
theorem qfn {X : Cx} {cl : Str -> Addr} {e : Expr} {es : List Expr} {fr : AV} {p pos : Pos} {x : Str} {k n j : Nat} {g : List D -> Sto -> Res D} (h : FnX X.prog X.w X.K X.mg X.base cl x k n g) (hr : Room j X.A)
  (ha : QA X cl X0 (e :: es) fr) (hn : autoParam (n = (e :: es).length) AutoP.a3._auto_1) (hk : autoParam (k <= j) AutoP.a1._auto_1) (hg : autoParam (Gl X x) AutoP.a3._auto_1) (hlen : autoParam (∀ ρ m ds m1, fr ρ m = .ok ds m1 -> ds.length = (e :: es).length) AutoP.a8._auto_1) (hdb : autoParam ((x == ("__debug__" : Str)) = false) AutoP.a1._auto_1) (he : autoParam (starEach (e :: es) X.env = (false, eval e X.env) :: starEach es X.env) AutoP.a3._auto_1) (hpl : autoParam ((backTo pos (starEach es X.env)).any (·.1) = false) AutoP.a3._auto_1) :
  QE X cl X0 (.Call (.Name x p) (e :: es) [] pos) (eFn g fr) := qe_fn h hn (hr.mono hk) hg ha hlen hdb he hpl
theorem mkx (P : Program) (w : World) (base : Heap) (cl : Str -> Addr) (k : Nat) {K : PySem.W.Frag} {mg : Str -> Option Value} {x qual : Str} {st : Stmt} {f : Addr} {fd : FuncData} {N ps : List Str} {body : SV} (F : Fun K x qual st f fd) (b : Binds K fd ps []) (m : mg x = some (.ref f)) (S : FnScope N ps (defScope st))
  (h : ∀ (cdv : Value) (A : Around) (outer : List PySem.Env) (s : Shared) (H : Hp) (E : XK), Room k (A.deeper (envOfC qual (defScope st) s.heap.objs.size f cdv)) -> QSs (cxOf CX0 P w K mg base N qual (defScope st) f cdv A outer s H E).nox cl X0 (defBody st) body) : FnX P w K mg base cl x (k + 1) ps.length (runF N.length body) := FnX.mk' F b m S rfl h
theorem _root_.L2.Fun.bindA {K : PySem.W.Frag} {x qual : Str} {st : Stmt} {f : Addr} {fd : FuncData} {ps : List Str} (F : Fun K x qual st f fd)
  (h : ∀ (kV doc pm : Value) (an : Option Addr) (cdv ct : Value) (us : List Value), us.length = ps.length -> bindArgs (PySem.W.fnOf x qual (defArgs st) (defBody st) (defScope st) .none kV doc pm an cdv ct) ⟨us, []⟩ = pure (ps.zip us) := by intro _ _ _ _ _ _ us hl; first | (obtain rfl := us0 hl; rfl) | (obtain ⟨_, rfl⟩ := us1 hl; rfl) | (obtain ⟨_, _, rfl⟩ := us2 hl; rfl) | (obtain ⟨_, _, _, rfl⟩ := us3 hl; rfl) | (obtain ⟨_, _, _, _, rfl⟩ := us4 hl; rfl) | (obtain ⟨_, _, _, _, _, rfl⟩ := us5 hl; rfl) | (obtain ⟨_, _, _, _, _, _, rfl⟩ := us6 hl; rfl)) : Binds K fd ps [] := F.binds h
end MD
namespace Mth
end Mth
set_option autoImplicit false
namespace MD
open PySem L2
end MD
set_option autoImplicit false
namespace MD
open PySem PySem.Spec PyProof.Rows L2
section
variable {X : Cx} {K : PySem.W.Frag} {cl : Str -> Addr} {ex : XD}
end
end MD
namespace L2
open PySem PySem.Spec PyProof.Rows
variable {X : Cx} {e : Expr} {te : TE} {pos : Pos}
end L2
set_option autoImplicit false
namespace MD
open PySem PySem.Spec PyProof.Rows L2
section
variable {X : Cx} {K : PySem.W.Frag} {cl : Str -> Addr} {ex : XD}
end
section
variable {X : Cx} {K : PySem.W.Frag} {cl : Str -> Addr} {ex : XD}
end
theorem look_mem {a : Addr} {o : Obj} : ∀ {K : PySem.W.Frag}, K.lookup a = some o -> (a, o) ∈ K
 | [], h => nomatch h
 | (b, u) :: K, h => by
  rw [List.lookup_cons] at h
  cases hb : a == b with
  | true =>
   rw [hb] at h
   cases h
   rw [eq_of_beq hb]
   exact List.mem_cons_self
  | false =>
   rw [hb] at h
   exact List.mem_cons_of_mem _ (look_mem h)
theorem Kof_in (n : Nat) (h : Heap) : (Kof n h).In h := fun a o e => by
 obtain ⟨b, _, hb⟩ := List.mem_filterMap.mp (look_mem e)
 obtain ⟨u, hu, e2⟩ := Option.map_eq_some_iff.mp hb
 cases e2
 exact hu
theorem fun_of {K : PySem.W.Frag} {f : Addr} {x q : Str} {st : Stmt} (h : fnV K f = (some (x, q, defArgs st, defBody st, defScope st), true)) : ∃ fd, Fun K x q st f fd := by
 unfold fnV at h
 split at h
 ·rename_i oc od x' q' ps b sc gl dv kV doc pm an cd ct bl sl hl
  simp only [Prod.mk.injEq, Option.some.injEq, Bool.and_eq_true] at h
  obtain ⟨⟨rfl, rfl, rfl, rfl, rfl⟩, ⟨⟨h1, h2⟩, h3⟩, h4⟩ := h
  have e1 := Nat.eq_of_beq_eq_true h1
  have e2 := Nat.eq_of_beq_eq_true h2
  subst e1 e2
  have e3 : dv = .none := by
   unfold valNone at h3
   split at h3
   ·rfl
   ·cases h3
  subst e3
  refine ⟨_, ⟨⟨oc, od, kV, doc, pm, an, cd, ct, sl, rfl, hl, h4⟩, ?_⟩⟩
  unfold PySem.W.keepIn
  dsimp only
  rw [hl]
 ·cases h
theorem pick {τ υ : Type} {f : τ -> υ} {l : List τ} {e : List υ} (h : l.map f = e) (i : Nat) {x : τ} {v : υ} (hx : l[i]? = some x) (hv : e[i]? = some v) : f x = v := by
 rw [<- h, List.getElem?_map, hx] at hv
 exact Option.some.inj hv
theorem both {α β γ : Type} {r : Option α} {f : α -> β} {g : α -> γ} {a : β} {b : γ} (h1 : r.map f = some a) (h2 : r.map g = some b) : r.map (fun s => (f s, g s)) = some (a, b) := by
 cases r with
 | none => cases h1
 | some s =>
  simp only [Option.map_some, Option.some.injEq] at h1 h2 ⊢
  rw [h1, h2]
theorem joinH {α τ υ : Type} {r : Option α} {g : α -> τ -> υ} {l1 l2 : List τ} {e1 e2 : List υ} (h1 : r.map (fun s => l1.map (g s)) = some e1) (h2 : r.map (fun s => l2.map (g s)) = some e2) : r.map (fun s => (l1 ++ l2).map (g s)) = some (e1 ++ e2) := by
 cases r with
 | none => cases h1
 | some s =>
  simp only [Option.map_some, Option.some.injEq] at h1 h2 ⊢
  rw [List.map_append, h1, h2]
theorem both3 {α A B C D : Type} {r : Option α} {f1 : α -> A} {f2 : α -> B} {f3 : α -> C} {f4 : α -> D} {a : A} {b : B} {c : C} {d : D} (e2 : ∀ s, f2 s = b) (e4 : ∀ s, f4 s = d) (h1 : r.map f1 = some a) (h3 : r.map f3 = some c) : r.map (fun s => (f1 s, f2 s, f3 s, f4 s)) = some (a, b, c, d) := by
 cases r with
 | none => cases h1
 | some s =>
  simp only [Option.map_some, Option.some.injEq, Prod.mk.injEq] at h1 h3 ⊢
  exact ⟨h1, e2 s, h3, e4 s⟩
theorem walk_ofY {l : PySem.W.OpenLaw} {n k nK : Nat} {q : Program} {loose : List Str} {XP : (Str -> Option Value) -> Heap -> Prop} {d : DefRec} {CX : CXT} {sp : PySem.W.Frag -> Sp} {x : Str} {α : Type} {Yf : PySem.W.Frag -> α} {E : α}
  (hn : l.most = some n) (hn2 : n <= sizeLine) (hdf : d.params.defaults = []) (hr : Room k callerA)
  (F : ∀ (K : PySem.W.Frag), Yf K = E -> ∀ (w : World) (mg : Str -> Option Value) (fa : Addr) (h : Heap), K.In h -> h.Ns mainGlobals mg -> mg d.name = some (.ref fa) →
   ∃ fd : FuncData, (∀ (s : Shared) (u : Value), BindsTo s fd ⟨[u], []⟩ [(x, u)]) /\ ∀ base : Heap, K.In base -> base.Ns mainGlobals mg -> FnOk l.prog w K mg base CX k fa fd [x] (sp K))
  (hsp : ∀ (K : PySem.W.Frag) (H : Hp) (a : Addr) (ns : List Int), ns.length <= n -> Only H -> SqL K H a (ns.map V.int) -> sp K [.ref a] H (fun v _ => v = .bl true) fun _ _ _ => False)
  (hCX : ∀ (H : Hp) (s : Shared) (e : Value) (s' : Shared), CX [] H s (fun _ _ _ => False) e s' -> False) :
  PySem.W.WalkX q loose XP (fun s => Yf (Kof nK s.heap)) (fun _ => E) l.row.toRowW d [] (fun f vs => PySem.call f vs) := by
 intro w s₀ s₁ mg mb G y a o pm cd doc dV kV ho hd hcd hD hmg hg args vals as' L hpre hlay hrd hwl hlo
 have KX : (Kof nK s₀.heap).In s₁.heap := (Kof_in nK s₀.heap).keeps L.keeps
 exact L2.walk_ofK (YP := fun w h => (Kof nK s₀.heap).In h) (K := fun _ => Kof nK s₀.heap) hn hn2 hdf hr (fun w h Y => Y) (F (Kof nK s₀.heap) y) hsp hCX w s₀ s₁ mg mb G KX a o pm cd doc dV kV ho hd hcd hD hmg hg args vals as' hpre hlay hrd hwl hlo
section
variable {α β γ : Type}
def kThen (f : α -> Sto -> Res β) (g : β -> Sto -> Res γ) : α -> Sto -> Res γ := fun a m => (f a m).bind g
theorem then_at (f : α -> Sto -> Res β) (g : β -> Sto -> Res γ) (a : α) (m : Sto) : kThen f g a m = (f a m).bind g := rfl
theorem bind_then (r : Res α) (f : α -> Sto -> Res β) (g : β -> Sto -> Res γ) : (r.bind f).bind g = r.bind (kThen f g) := Res.bind_assoc r f g
end
section
variable (m : Sto) (ρ : En) (d : D) (f g : SV) (fa fb fc : EV) (fr : AV) (c t : TV) (h : GV)
def kSeq (g : SV) : Fl -> Sto -> Res Fl := fun fl m1 => match fl with
 | .nx ρ1 => g ρ1 m1
 | fl => .ok fl m1
theorem seq_at : sSeq f g ρ m = (f ρ m).bind (kSeq g) := rfl
theorem seq_nx : kSeq g (.nx ρ) m = g ρ m := rfl
theorem seq_rt : kSeq g (.rt d) m = .ok (.rt d) m := rfl
theorem nil_at : sNil ρ m = .ok (.nx ρ) m := rfl
def kRt : D -> Sto -> Res Fl := fun d m => .ok (.rt d) m
theorem ret_at : sRet fa ρ m = (fa ρ m).bind kRt := rfl
theorem rt_at : kRt d m = .ok (.rt d) m := rfl
theorem retN_at : sRetN ρ m = .ok (.rt .non) m := rfl
def kDrop (ρ : En) : D -> Sto -> Res Fl := fun _ m => .ok (.nx ρ) m
theorem drop_at : sDrop fa ρ m = (fa ρ m).bind (kDrop ρ) := rfl
theorem kdrop_at : kDrop ρ d m = .ok (.nx ρ) m := rfl
def kIf (f g : SV) (ρ : En) : Bool -> Sto -> Res Fl := fun b m => if b = true then f ρ m else g ρ m
theorem if_at : sIf c f g ρ m = (c ρ m).bind (kIf f g ρ) := rfl
theorem kif_at (b : Bool) : kIf f g ρ b m = if b = true then f ρ m else g ρ m := rfl
def kAsg (h : GV) (ρ : En) : D -> Sto -> Res Fl := fun d m1 => (h d ρ m1).bind fun ρ1 m2 => .ok (.nx ρ1) m2
def kNx : En -> Sto -> Res Fl := fun ρ m => .ok (.nx ρ) m
theorem asg_at : sAsg fa h ρ m = (fa ρ m).bind (kAsg h ρ) := rfl
theorem kasg_at : kAsg h ρ d m = (h d ρ m).bind kNx := rfl
theorem nx_at : kNx ρ m = .ok (.nx ρ) m := rfl
theorem gN_at (i : Nat) : gN i d ρ m = .ok (ρ.set i (some d)) m := rfl
theorem gs_nil : gsNil [] ρ m = .ok ρ m := rfl
theorem gs_cons (gs : List D -> En -> Sto -> Res En) (r : List D) : gsCons h gs (d :: r) ρ m = (h d ρ m).bind (gs r) := rfl
theorem gT_at (n : Nat) (gs : List D -> En -> Sto -> Res En) (ds : List D) : gT n gs (.tup ds) ρ m = if ds.length = n then gs ds ρ m else .bad := rfl
def kPar (i j : Nat) (ρ : En) : List D -> Sto -> Res Fl := fun ds m1 => match ds with
 | [x, y] => .ok (.nx ((ρ.set i (some x)).set j (some y))) m1
 | _ => .bad
theorem par_at (i j : Nat) : sPar i j fr ρ m = (fr ρ m).bind (kPar i j ρ) := rfl
theorem kpar_at (i j : Nat) (x y : D) : kPar i j ρ [x, y] m = .ok (.nx ((ρ.set i (some x)).set j (some y))) m := rfl
def kFor (h : GV) (f : SV) (ρ : En) : List D -> Sto -> Res Fl := fun ds m1 => loopF h f ds ρ m1
theorem for_at : sFor fr h f ρ m = (fr ρ m).bind (kFor h f ρ) := rfl
theorem kfor_at (ds : List D) : kFor h f ρ ds m = loopF h f ds ρ m := rfl
theorem eC_at : eC d ρ m = .ok d m := rfl
def kOp (g : D -> D -> Sto -> Res D) (fb : EV) (ρ : En) : D -> Sto -> Res D := fun x m1 => (fb ρ m1).bind (g x)
theorem op_at (g : D -> D -> Sto -> Res D) : eOp g fa fb ρ m = (fa ρ m).bind (kOp g fb ρ) := rfl
theorem kop_at (g : D -> D -> Sto -> Res D) : kOp g fb ρ d m = (fb ρ m).bind (g d) := rfl
theorem un_at (g : D -> Sto -> Res D) : eUn g fa ρ m = (fa ρ m).bind g := rfl
theorem fn_at (g : List D -> Sto -> Res D) : eFn g fr ρ m = (fr ρ m).bind g := rfl
def kIfE (f g : EV) (ρ : En) : Bool -> Sto -> Res D := fun b m => if b = true then f ρ m else g ρ m
theorem ife_at : eIf c fa fb ρ m = (c ρ m).bind (kIfE fa fb ρ) := rfl
theorem kife_at (b : Bool) : kIfE fa fb ρ b m = if b = true then fa ρ m else fb ρ m := rfl
theorem aNil_at : aNil ρ m = .ok [] m := rfl
def kCons (fr : AV) (ρ : En) : D -> Sto -> Res (List D) := fun x m1 => (fr ρ m1).bind fun xs m2 => .ok (x :: xs) m2
def kCons2 (x : D) : List D -> Sto -> Res (List D) := fun xs m2 => .ok (x :: xs) m2
theorem aCons_at : aCons fa fr ρ m = (fa ρ m).bind (kCons fr ρ) := rfl
theorem kcons_at : kCons fr ρ d m = (fr ρ m).bind (kCons2 d) := rfl
theorem kcons2_at (xs : List D) : kCons2 d xs m = .ok (d :: xs) m := rfl
theorem asB_at (b : Bool) : asB (.bl b) m = .ok b m := rfl
theorem tV_at : tV fa ρ m = (fa ρ m).bind asB := rfl
def kAndT (t : TV) (ρ : En) : Bool -> Sto -> Res Bool := fun b m => if b = true then t ρ m else .ok false m
theorem andT_at : tAndM c t ρ m = (c ρ m).bind (kAndT t ρ) := rfl
theorem kandT_at (b : Bool) : kAndT t ρ b m = if b = true then t ρ m else .ok false m := rfl
def kOrT (t : TV) (ρ : En) : Bool -> Sto -> Res Bool := fun b m => if b = true then .ok true m else t ρ m
theorem orT_at : tOrM c t ρ m = (c ρ m).bind (kOrT t ρ) := rfl
theorem korT_at (b : Bool) : kOrT t ρ b m = if b = true then .ok true m else t ρ m := rfl
def kNotT : Bool -> Sto -> Res Bool := fun c m1 => .ok (!c) m1
theorem notT_at : tNotM c ρ m = (c ρ m).bind kNotT := rfl
theorem knotT_at (b : Bool) : kNotT b m = .ok (!b) m := rfl
def kAnd (fb : EV) (ρ : En) : D -> Sto -> Res D := fun c m1 => (asB c m1).bind fun c m1 => if c = true then fb ρ m1 else .ok (.bl false) m1
theorem and_at : eAnd fa fb ρ m = (fa ρ m).bind (kAnd fb ρ) := rfl
theorem kand_at (b : Bool) : kAnd fb ρ (.bl b) m = if b = true then fb ρ m else .ok (.bl false) m := rfl
def kOr (fb : EV) (ρ : En) : D -> Sto -> Res D := fun c m1 => (asB c m1).bind fun c m1 => if c = true then .ok (.bl true) m1 else fb ρ m1
theorem or_at : eOr fa fb ρ m = (fa ρ m).bind (kOr fb ρ) := rfl
theorem kor_at (b : Bool) : kOr fb ρ (.bl b) m = if b = true then .ok (.bl true) m else fb ρ m := rfl
def kNot : D -> Sto -> Res D := fun c m1 => (asB c m1).bind fun c m1 => .ok (.bl (!c)) m1
theorem not_at : eNot fa ρ m = (fa ρ m).bind kNot := rfl
theorem knot_at (b : Bool) : kNot (.bl b) m = .ok (.bl (!b)) m := rfl
theorem aIt_at : aIt fa ρ m = (fa ρ m).bind asSeq := rfl
theorem sq_t (ds : List D) : asSeq (.tup ds) m = .ok ds m := rfl
theorem sq_l (ds : List D) : asSeq (.lst ds) m = .ok ds m := rfl
theorem sq_s (z : Str) : asSeq (.str z) m = .ok (signs z) m := rfl
theorem sq_c (ds : List D) : asSeq (.scr ds) m = .ok ds m := rfl
theorem rngA_at (g : List D -> Sto -> Res (List D)) : aRng g fr ρ m = (fr ρ m).bind g := rfl
def kEnum : D -> Sto -> Res (List D) := fun d m1 => (asSq2 d m1).bind fun ds m2 => .ok (enumD 0 ds) m2
theorem enumA_at : aEnum fa ρ m = (fa ρ m).bind kEnum := rfl
theorem kenum_t (ds : List D) : kEnum (.tup ds) m = .ok (enumD 0 ds) m := rfl
theorem kenum_l (ds : List D) : kEnum (.lst ds) m = .ok (enumD 0 ds) m := rfl
def kZip (fb : EV) (ρ : En) : D -> Sto -> Res (List D) := fun x m1 => (fb ρ m1).bind (zip2 x)
theorem zipA_at : aZip fa fb ρ m = (fa ρ m).bind (kZip fb ρ) := rfl
theorem kzip_at : kZip fb ρ d m = (fb ρ m).bind (zip2 d) := rfl
def kZip3 (fb fc : EV) (ρ : En) : D -> Sto -> Res (List D) := fun x m1 => (fb ρ m1).bind fun y m2 => (fc ρ m2).bind (zip3 x y)
def kZip4 (x : D) (fc : EV) (ρ : En) : D -> Sto -> Res (List D) := fun y m1 => (fc ρ m1).bind (zip3 x y)
theorem zip3A_at : aZip3 fa fb fc ρ m = (fa ρ m).bind (kZip3 fb fc ρ) := rfl
theorem kzip3_at : kZip3 fb fc ρ d m = (fb ρ m).bind (kZip4 d fc ρ) := rfl
theorem kzip4_at (x : D) : kZip4 x fc ρ d m = (fc ρ m).bind (zip3 x d) := rfl
theorem oNone_at : oNone ρ m = .ok none m := rfl
def kSome : D -> Sto -> Res (Option Int) := fun d m1 => match d with
 | .int i => .ok (some i) m1
 | _ => .bad
theorem oSome_at : oSome fa ρ m = (fa ρ m).bind kSome := rfl
theorem ksome_at (i : Int) : kSome (.int i) m = .ok (some i) m := rfl
def kSl1 (lo hi : OV) (ρ : En) : D -> Sto -> Res D := fun x m1 => (lo ρ m1).bind fun l m2 => (hi ρ m2).bind (slD x l)
def kSl2 (hi : OV) (ρ : En) (x : D) : Option Int -> Sto -> Res D := fun l m2 => (hi ρ m2).bind (slD x l)
theorem slD_at (lo hi : OV) : eSl fa lo hi ρ m = (fa ρ m).bind (kSl1 lo hi ρ) := rfl
theorem ksl1_at (lo hi : OV) : kSl1 lo hi ρ d m = (lo ρ m).bind (kSl2 hi ρ d) := rfl
theorem ksl2_at (hi : OV) (l : Option Int) : kSl2 hi ρ d l m = (hi ρ m).bind (slD d l) := rfl
def kSlA1 (lo hi : OV) (ρ : En) : D -> Sto -> Res D := fun x m1 => (lo ρ m1).bind fun l m2 => (hi ρ m2).bind (slA x l)
def kSlA2 (hi : OV) (ρ : En) (x : D) : Option Int -> Sto -> Res D := fun l m2 => (hi ρ m2).bind (slA x l)
theorem slA_at (lo hi : OV) : eSlA fa lo hi ρ m = (fa ρ m).bind (kSlA1 lo hi ρ) := rfl
theorem kslA1_at (lo hi : OV) : kSlA1 lo hi ρ d m = (lo ρ m).bind (kSlA2 hi ρ d) := rfl
theorem kslA2_at (hi : OV) (l : Option Int) : kSlA2 hi ρ d l m = (hi ρ m).bind (slA d l) := rfl
def kMeth (ty : D -> Sto -> Bool) (g : D -> List D -> Sto -> Res D) (fr : AV) (ρ : En) : D -> Sto -> Res D := fun o m1 => if ty o m1 = true then (fr ρ m1).bind (g o) else .bad
theorem meth_at (ty : D -> Sto -> Bool) (g : D -> List D -> Sto -> Res D) : eMeth ty g fa fr ρ m = (fa ρ m).bind (kMeth ty g fr ρ) := rfl
theorem kmeth_at (ty : D -> Sto -> Bool) (g : D -> List D -> Sto -> Res D) : kMeth ty g fr ρ d m = if ty d m = true then (fr ρ m).bind (g d) else .bad := rfl
theorem isStr_at (z : Str) : isStr (.str z) m = true := rfl
theorem isTup_at (ds : List D) : isTup (.tup ds) m = true := rfl
theorem fin_nx : finF (.nx ρ) m = .ok .non m := rfl
theorem fin_rt : finF (.rt d) m = .ok d m := rfl
theorem run_at (n : Nat) (ds : List D) : runF n f ds m = (f (ds.map some ++ List.replicate (n - ds.length) none) m).bind finF := rfl
def kCh3 (g' : D -> D -> Sto -> Res D) (fc : EV) (ρ : En) (y : D) : D -> Sto -> Res D := fun z m3 => (asB z m3).bind fun k m3 => if k = true then (fc ρ m3).bind (g' y) else .ok (.bl false) m3
def kCh2 (g g' : D -> D -> Sto -> Res D) (fc : EV) (ρ : En) (x : D) : D -> Sto -> Res D := fun y m2 => (g x y m2).bind (kCh3 g' fc ρ y)
def kCh1 (g g' : D -> D -> Sto -> Res D) (fb fc : EV) (ρ : En) : D -> Sto -> Res D := fun x m1 => (fb ρ m1).bind (kCh2 g g' fc ρ x)
theorem chain_at (g g' : D -> D -> Sto -> Res D) : eChain g g' fa fb fc ρ m = (fa ρ m).bind (kCh1 g g' fb fc ρ) := rfl
theorem kch1_at (g g' : D -> D -> Sto -> Res D) : kCh1 g g' fb fc ρ d m = (fb ρ m).bind (kCh2 g g' fc ρ d) := rfl
theorem kch2_at (g g' : D -> D -> Sto -> Res D) (x : D) : kCh2 g g' fc ρ x d m = (g x d m).bind (kCh3 g' fc ρ d) := rfl
theorem kch3_at (g' : D -> D -> Sto -> Res D) (y : D) (b : Bool) : kCh3 g' fc ρ y (.bl b) m = if b = true then (fc ρ m).bind (g' y) else .ok (.bl false) m := rfl
def kPutA (fo fi : EV) (ρ : En) : D -> Sto -> Res Fl := fun v m1 => (fo ρ m1).bind fun x m2 => (fi ρ m2).bind fun y m3 => (putDS x y v m3).bind fun _ m4 => .ok (.nx ρ) m4
def kPutB (fi : EV) (ρ : En) (v : D) : D -> Sto -> Res Fl := fun x m2 => (fi ρ m2).bind fun y m3 => (putDS x y v m3).bind fun _ m4 => .ok (.nx ρ) m4
def kPutC (ρ : En) (v x : D) : D -> Sto -> Res Fl := fun y m3 => (putDS x y v m3).bind fun _ m4 => .ok (.nx ρ) m4
def kPutE (ρ : En) : Unit -> Sto -> Res Fl := fun _ m4 => .ok (.nx ρ) m4
theorem put_at : sPutD fa fb fc ρ m = (fc ρ m).bind (kPutA fa fb ρ) := rfl
theorem kputA_at : kPutA fa fb ρ d m = (fa ρ m).bind (kPutB fb ρ d) := rfl
theorem kputB_at (x : D) : kPutB fb ρ d x m = (fb ρ m).bind (kPutC ρ d x) := rfl
theorem kputC_at (x y : D) : kPutC ρ d x y m = (putDS x y d m).bind (kPutE ρ) := rfl
theorem kputE_at : kPutE ρ () m = .ok (.nx ρ) m := rfl
theorem var_0 : eVar 0 (some d :: ρ) m = .ok d m := rfl
theorem var_S (i : Nat) (x : Option D) : eVar (i + 1) (x :: ρ) m = eVar i ρ m := rfl
end
theorem bind_ok {α β : Type} (a : α) (m : Sto) (k : α -> Sto -> Res β) : (Res.ok a m).bind k = k a m := rfl
def Run {α : Type} (r : Res α) (P : α -> Sto -> Prop) : Prop := ∃ a m, r = .ok a m /\ P a m
theorem Run.bind {α β : Type} {r : Res α} {k : α -> Sto -> Res β} {Q : α -> Sto -> Prop} {P : β -> Sto -> Prop} (h : Run r Q) (hk : ∀ a m, Q a m -> Run (k a m) P) : Run (r.bind k) P := by
 obtain ⟨a, m, rfl, q⟩ := h
 exact hk a m q
theorem Run.ok {α : Type} {a : α} {m : Sto} {P : α -> Sto -> Prop} (h : P a m) : Run (.ok a m) P := ⟨a, m, rfl, h⟩
theorem Run.mono {α : Type} {r : Res α} {P Q : α -> Sto -> Prop} (h : Run r P) (k : ∀ a m, P a m -> Q a m) : Run r Q := by
 obtain ⟨a, m, e, p⟩ := h
 exact ⟨a, m, e, k a m p⟩
theorem loop_run {g : GV} {body : SV} (I : Nat -> En -> Sto -> Prop) : ∀ (ds : List D) (k : Nat) {ρ : En} {m : Sto}, I k ρ m -> (∀ i d ρ m, ds[i]? = some d -> I (k + i) ρ m -> Run ((g d ρ m).bind body) fun fl m2 => ∃ ρ2, fl = .nx ρ2 /\ I (k + i + 1) ρ2 m2) →
  Run (loopF g body ds ρ m) fun fl m' => ∃ ρ', fl = .nx ρ' /\ I (k + ds.length) ρ' m'
 | [], k, ρ, m, h, _ => ⟨_, m, rfl, ρ, rfl, h⟩
 | d :: r, k, ρ, m, h, st => by
  obtain ⟨_, m2, e2, ρ2, rfl, h2⟩ := st 0 d ρ m rfl h
  obtain ⟨_, m', e3, ρ', rfl, h3⟩ := loop_run I r (k + 1) h2 fun i d ρ m hd hi => by
   have := st (i + 1) d ρ m (by simpa using hd) (by rw [show k + (i + 1) = k + 1 + i by omega]; exact hi)
   rw [show k + (i + 1) + 1 = k + 1 + i + 1 by omega] at this
   exact this
  refine ⟨_, m', ?_, ρ', rfl, by rw [List.length_cons, show k + (r.length + 1) = k + 1 + r.length by omega]; exact h3⟩
  rw [loopF, <- Res.bind_assoc, e2, bind_ok]
  exact e3
theorem comp_run {g : GV} {el : EV} {ρ : En} (I : Nat -> Sto -> Prop) (P : Nat -> D -> D -> Prop) : ∀ (ds : List D) (k : Nat) {m : Sto}, I k m -> (∀ i d m, ds[i]? = some d -> I (k + i) m -> Run ((g d ρ m).bind el) fun x m3 => P (k + i) d x /\ I (k + i + 1) m3) →
  Run (compM g tYesM el ρ ds m) fun xs m' => xs.length = ds.length /\ (∀ i d x, ds[i]? = some d -> xs[i]? = some x -> P (k + i) d x) /\ I (k + ds.length) m'
 | [], k, m, h, _ => ⟨[], m, rfl, rfl, fun i d x e => by simp at e, h⟩
 | d :: r, k, m, h, st => by
  obtain ⟨x, m3, e3, hP, h3⟩ := st 0 d m rfl h
  obtain ⟨xs, m', e4, hl, hPs, h4⟩ := comp_run I P r (k + 1) h3 fun i d m hd hi => by
   have := st (i + 1) d m (by simpa using hd) (by rw [show k + (i + 1) = k + 1 + i by omega]; exact hi)
   rw [show k + (i + 1) + 1 = k + 1 + i + 1 by omega, show k + (i + 1) = k + 1 + i by omega] at this
   exact this
  refine ⟨x :: xs, m', ?_, by rw [List.length_cons, List.length_cons, hl], fun i d' x' hd hx => ?_, by rw [List.length_cons, show k + (r.length + 1) = k + 1 + r.length by (clear hl; omega)]; exact h4⟩
  ·have e : compM g tYesM el ρ (d :: r) m = ((g d ρ m).bind el).bind fun x m3 => (compM g tYesM el ρ r m3).bind fun xs m4 => .ok (x :: xs) m4 := by
    rw [compM, Res.bind_assoc]
    rfl
   rw [e, e3, bind_ok, e4, bind_ok]
  ·cases i with
   | zero => simp at hd hx; subst hd hx; exact hP
   | succ i =>
    have := hPs i d' x' (by simpa using hd) (by simpa using hx)
    rw [show k + (i + 1) = k + 1 + i by (clear hl; omega)]
    exact this
theorem pyL_ints : ∀ ns : List Int, pyL (ns.map D.int) = ns.map PyData.int
 | [] => by simp [pyL]
 | a :: r => by simp [pyL, py, pyL_ints r]
theorem pyOkL_ints : ∀ ns : List Int, pyOkL (ns.map D.int) = true
 | [] => by simp [pyOkL]
 | a :: r => by simp [pyOkL, pyOk, pyOkL_ints r]
theorem can_ints : ∀ ns : List Int, PyData.canLayAll0 (ns.map PyData.int) = true
 | [] => by simp [PyData.canLayAll0]
 | a :: r => by simp [PyData.canLayAll0, PyData.canLay0, can_ints r]
theorem dep_ints : ∀ ns : List Int, PyData.depthAll (ns.map PyData.int) = 0
 | [] => by simp [PyData.depthAll]
 | a :: r => by simp [PyData.depthAll, PyData.depth, dep_ints r]
theorem eqv_ints : ∀ ns ms : List Int, PyData.eqvAll (ns.map PyData.int) (ms.map PyData.int) = decide (ns = ms)
 | [], [] => by simp [PyData.eqvAll]
 | [], _ :: _ => by simp [PyData.eqvAll]
 | _ :: _, [] => by simp [PyData.eqvAll]
 | a :: r, b :: t => by
  simp only [List.map_cons, PyData.eqvAll, PyData.eqv, eqv_ints r t]
  by_cases h : a = b <;> by_cases h' : r = t <;> simp [h, h']
theorem deep_lst (ns : List Int) : deep (.lst (ns.map D.int)) = true := by
 simp [deep, pyOk, py, pyOkL_ints, pyL_ints, SeqAt.shaped, PyData.canLay0, can_ints, PyData.depth, dep_ints]
theorem deep_tup (ns : List Int) : deep (.tup (ns.map D.int)) = true := by
 simp [deep, pyOk, py, pyOkL_ints, pyL_ints, SeqAt.shaped, PyData.canLay0, can_ints, PyData.depth, dep_ints]
theorem eqB_lst (ns ms : List Int) : eqB (.lst (ns.map D.int)) (.lst (ms.map D.int)) = some (decide (ns = ms)) := by
 show (if deep (.lst (ns.map D.int)) && deep (.lst (ms.map D.int)) then some (PyData.eqv (py (.lst (ns.map D.int))) (py (.lst (ms.map D.int)))) else none) = _
 rw [deep_lst, deep_lst]
 simp [py, PyData.eqv, pyL_ints, eqv_ints]
theorem eqB_tup (ns ms : List Int) : eqB (.tup (ns.map D.int)) (.tup (ms.map D.int)) = some (decide (ns = ms)) := by
 show (if deep (.tup (ns.map D.int)) && deep (.tup (ms.map D.int)) then some (PyData.eqv (py (.tup (ns.map D.int))) (py (.tup (ms.map D.int)))) else none) = _
 rw [deep_tup, deep_tup]
 simp [py, PyData.eqv, pyL_ints, eqv_ints]
structure Fr (p q : Nat) (m m' : Sto) : Prop where
 len : m.length <= m'.length
 at' : ∀ j, j < m.length -> j ≠ p -> j ≠ q -> m'[j]? = m[j]?
theorem Fr.refl {p q : Nat} {m : Sto} : Fr p q m m := ⟨Nat.le_refl _, fun _ _ _ _ => rfl⟩
theorem Fr.trans {p q : Nat} {a b c : Sto} (h : Fr p q a b) (k : Fr p q b c) : Fr p q a c := ⟨Nat.le_trans h.len k.len, fun j h1 h2 h3 => (k.at' j (Nat.lt_of_lt_of_le h1 h.len) h2 h3).trans (h.at' j h1 h2 h3)⟩
section
variable {m : Sto}
theorem add_i (a b : Int) : addD (.int a) (.int b) m = .ok (.int (a + b)) m := rfl
theorem sub_i (a b : Int) : subD (.int a) (.int b) m = .ok (.int (a - b)) m := rfl
theorem eq_i (a b : Int) : eqD (.int a) (.int b) m = .ok (.bl (decide (a = b))) m := rfl
theorem ne_i (a b : Int) : neD (.int a) (.int b) m = .ok (.bl (!decide (a = b))) m := rfl
theorem eq_s (a b : Str) : eqD (.str a) (.str b) m = .ok (.bl (decide (a = b))) m := rfl
theorem ne_s (a b : Str) : neD (.str a) (.str b) m = .ok (.bl (!decide (a = b))) m := rfl
theorem lt_i (a b : Int) : ltD (.int a) (.int b) m = .ok (.bl (decide (a < b))) m := rfl
theorem gt_i (a b : Int) : gtD (.int a) (.int b) m = .ok (.bl (decide (b < a))) m := rfl
theorem ge_i (a b : Int) : geD (.int a) (.int b) m = .ok (.bl (decide (b <= a))) m := rfl
theorem le_i (a b : Int) : leD (.int a) (.int b) m = .ok (.bl (decide (a <= b))) m := rfl
theorem mul_i {a b : Int} (h : -(2 ^ 64) < b /\ b < 2 ^ 64) : mulD (.int a) (.int b) m = .ok (.int (a * b)) m := by rw [mulD_eq]; exact if_pos (.inr h)
theorem mul_j {a b : Int} (h : -(2 ^ 64) < a /\ a < 2 ^ 64) : mulD (.int a) (.int b) m = .ok (.int (a * b)) m := by rw [mulD_eq]; exact if_pos (.inl h)
theorem mod_i {a b : Int} (h : 0 < b) : modD (.int a) (.int b) m = .ok (.int (a % b)) m := if_pos h
theorem div_i {a b : Int} (h : 0 < b /\ b < 2 ^ 64) : fdivD (.int a) (.int b) m = .ok (.int (a / b)) m := by rw [fdivD_eq]; exact if_pos h
theorem shl_1 {n : Nat} (h : n <= 1000000) : shlD (.int 1) (.int n) m = .ok (.int (2 ^ n)) m := by
 rw [shlD_eq]
 show (if _ then _ else _) = _
 rw [if_pos ⟨by (clear h; omega), by omega, by decide⟩, Int.toNat_natCast, Int.one_mul]
theorem lst_0 : gLst [] m = .ok (.lst []) m := if_pos (Nat.zero_le _)
theorem sl_small {n : Nat} (h : n <= 8) : n <= sizeLine := Nat.le_trans h (by decide)
theorem lst_2 (a b : D) : gLst [a, b] m = .ok (.lst [a, b]) m := if_pos (sl_small (by simp))
theorem lst_3 (a b c : D) : gLst [a, b, c] m = .ok (.lst [a, b, c]) m := if_pos (sl_small (by simp))
theorem lst_4 (a b c d : D) : gLst [a, b, c, d] m = .ok (.lst [a, b, c, d]) m := if_pos (sl_small (by simp))
theorem lst_5 (a b c d e : D) : gLst [a, b, c, d, e] m = .ok (.lst [a, b, c, d, e]) m := if_pos (sl_small (by simp))
theorem tup_0 : gTup [] m = .ok (.tup []) m := if_pos (Nat.zero_le _)
theorem tup_1 (a : D) : gTup [a] m = .ok (.tup [a]) m := if_pos (sl_small (by simp))
theorem tup_2 (a b : D) : gTup [a, b] m = .ok (.tup [a, b]) m := if_pos (sl_small (by simp))
theorem tup_3 (a b c : D) : gTup [a, b, c] m = .ok (.tup [a, b, c]) m := if_pos (sl_small (by simp))
theorem min_i (a b : Int) : min2F [.int a, .int b] m = .ok (.int (if b < a then b else a)) m := rfl
theorem len_t (xs : List D) : lenF [.tup xs] m = .ok (.int xs.length) m := rfl
theorem len_l (xs : List D) : lenF [.lst xs] m = .ok (.int xs.length) m := rfl
theorem tup_l (xs : List D) : tupF [.lst xs] m = .ok (.tup xs) m := rfl
theorem l1 (xs : List D) : gL1 xs m = .ok (.lst xs) m := rfl
theorem atI_nat {τ : Type} {xs : List τ} {n : Nat} : L2.atI xs (n : Int) = xs[n]? := by
 unfold L2.atI L2.ixN
 by_cases h : n < xs.length
 ·rw [if_pos (by (clear h; omega)), if_pos (by omega)]
  simp
 ·rw [if_pos (by (clear h; omega)), if_neg (by omega)]
  simp
  omega
theorem ix_t {xs : List D} {n : Nat} {d : D} (h : xs[n]? = some d) : ixD (.tup xs) (.int n) m = .ok d m := by
 show opt (L2.atI xs n) m = _
 rw [atI_nat, h]
 rfl
theorem ix_l {xs : List D} {n : Nat} {d : D} (h : xs[n]? = some d) : ixD (.lst xs) (.int n) m = .ok d m := by
 show opt (L2.atI xs n) m = _
 rw [atI_nat, h]
 rfl
theorem ix_t0 (a : D) (xs : List D) : ixD (.tup (a :: xs)) (.int 0) m = .ok a m := ix_t (n := 0) rfl
theorem ix_t1 (a b : D) (xs : List D) : ixD (.tup (a :: b :: xs)) (.int 1) m = .ok b m := ix_t (n := 1) rfl
theorem ix_t2 (a b c : D) (xs : List D) : ixD (.tup (a :: b :: c :: xs)) (.int 2) m = .ok c m := ix_t (n := 2) rfl
theorem ix_any {xs : List D} {d : Int} (h0 : 0 <= d) (h1 : d < xs.length) : ∃ x ∈ xs, ixD (.lst xs) (.int d) m = .ok x m := by
 obtain ⟨n, rfl⟩ : ∃ n : Nat, d = n := ⟨d.toNat, by (clear h1; omega)⟩
 have hn : n < xs.length := by (clear h0; omega)
 exact ⟨xs[n], List.getElem_mem hn, ix_l (by simp [hn])⟩
end
theorem aComp_run {n : Nat} {it : AV} {g : GV} {el : EV} {ρ : En} {m : Sto} {ds : List D} (I : Nat -> Sto -> Prop) (P : Nat -> D -> D -> Prop) (h : it ρ m = .ok ds m) (hl : ds.length <= 1000000) (h0 : I 0 m) (hf : ∀ i d m, ds[i]? = some d -> I i m -> Run ((g d (ρ ++ List.replicate n none) m).bind el) fun x m3 => P i d x /\ I (i + 1) m3) :
  Run (aComp n it g tYesM el ρ m) fun xs m' => xs.length = ds.length /\ (∀ i d x, ds[i]? = some d -> xs[i]? = some x -> P i d x) /\ I ds.length m' := by
 unfold aComp
 rw [h, bind_ok, if_pos hl]
 have := comp_run (g := g) (el := el) (ρ := ρ ++ List.replicate n none) I P ds 0 h0 (fun i d m hd hi => by
  have := hf i d m hd (by rw [Nat.zero_add] at hi; exact hi)
  rw [Nat.zero_add]
  exact this)
 simpa only [Nat.zero_add] using this
theorem len_ints (lo : Int) (n : Nat) : (intsD lo n).length = n := by simp [intsD]
theorem rng_ok {j : Int} {m : Sto} (h : 0 <= j) (h' : j <= 1000000) : rng1 [.int j] m = .ok (intsD 0 j.toNat) m := by rw [rng1_eq]; exact if_pos ⟨by (clear h'; omega), by (clear h; omega)⟩
theorem ofs_inj {a b : String} (h : Str.ofString a = Str.ofString b) : a = b := by
 rw [PySem.Str.ofString_eq_toList, PySem.Str.ofString_eq_toList] at h
 have h2 := congrArg (fun s : Str => s.cps.toList) h
 exact String.toList_inj.mp ((List.map_inj_right fun x y e => Char.toNat_inj.mp e).mp h2)
theorem ofs_eq (a b : String) : (Str.ofString a = Str.ofString b) = (a = b) := propext ⟨ofs_inj, fun h => by rw [h]⟩
local macro_rules | `(tactic| walk_at "w") => do
  let ids := ("run_at fin_nx fin_rt seq_at seq_nx seq_rt nil_at ret_at rt_at retN_at drop_at kdrop_at if_at kif_at asg_at kasg_at nx_at gs_nil gs_cons gT_at par_at kpar_at List.set_cons_zero List.set_cons_succ for_at kfor_at eC_at op_at kop_at un_at fn_at ife_at kife_at aNil_at aCons_at kcons_at kcons2_at asB_at tV_at andT_at kandT_at orT_at korT_at notT_at knotT_at and_at kand_at or_at kor_at not_at knot_at aIt_at sq_t sq_l sq_s sq_c rngA_at enumA_at kenum_t kenum_l zipA_at kzip_at zip3A_at kzip3_at kzip4_at oNone_at oSome_at ksome_at slD_at ksl1_at ksl2_at slA_at kslA1_at kslA2_at meth_at kmeth_at isStr_at isTup_at chain_at kch1_at kch2_at kch3_at put_at kputA_at kputB_at kputC_at kputE_at bind_ok bind_then then_at var_0 var_S gN_at Bool.false_eq_true reduceIte List.map_cons List.map_nil List.length_cons List.length_nil Nat.reduceAdd Nat.reduceSub List.cons_append List.nil_append add_i sub_i eq_i ne_i eq_s ne_s lt_i le_i gt_i ge_i lst_0 lst_2 lst_3 lst_4 lst_5 tup_0 tup_1 tup_2 tup_3 min_i len_t len_l tup_l l1 ix_t0 ix_t1 ix_t2 List.replicate List.append_nil decide_eq_true_eq Bool.not_true Bool.not_false eq_self not_true_eq_false not_false_eq_true decide_true decide_false ofs_eq String.reduceEq".splitOn " ").toArray.map fun s => Lean.mkIdent s.toName
  `(tactic| try simp only [$[$ids:ident],*])
theorem set_get {m : Sto} {p : Nat} {o o' : MO} (h : m[p]? = some o) : (m.set p o')[p]? = some o' := List.getElem?_set_self (List.getElem?_eq_some_iff.mp h).1
theorem set_other {m : Sto} {p j : Nat} {o : MO} (h : p ≠ j) : (m.set p o)[j]? = m[j]? := List.getElem?_set_ne h
theorem Fr.set {p q : Nat} {m : Sto} {o : MO} : Fr p q m (m.set p o) := ⟨by rw [List.length_set]; exact Nat.le_refl _, fun j _ h _ => set_other (Ne.symm h)⟩
theorem p2 (b : Nat) : (0 : Int) < 2 ^ b := Int.pow_pos (by decide)
theorem p2le {b : Nat} (h : b <= 40) : (2 : Int) ^ b <= 2 ^ 40 := by
 have := Nat.pow_le_pow_right (n := 2) (by decide) h
 exact_mod_cast this
theorem p2lt {b : Nat} (h : b <= 40) : (2 : Int) ^ b < 2 ^ 64 := Int.lt_of_le_of_lt (p2le h) (by decide)
theorem mul_s {z : Str} {n : Int} {m : Sto} (h : z.length = 1) (h0 : 0 <= n) (h1 : n <= 1000) : mulD (.str z) (.int n) m = .ok (.str (Txt.mul z n)) m := by rw [mulD_eq]; exact if_pos ⟨h0, h1, by (clear h1 h0; omega)⟩
theorem run_eq {τ : Type} {r : Res τ} {x : τ} {m : Sto} (h : Run r fun a m' => a = x /\ m' = m) : r = .ok x m := by
 obtain ⟨a, m', e, rfl, rfl⟩ := h
 exact e
theorem asInts_map : ∀ row : List Int, asInts (row.map D.int) = some row
 | [] => rfl
 | a :: r => by simp only [List.map_cons, asInts, asInts_map r]; rfl
theorem restOf_run {n : Int} {w : Nat} {m : Sto} (h : w <= 1000000) : Run (gRestOf [.int n, .int w] m) fun a m' => a = .int (n % 2 ^ w) /\ m' = m := by
 unfold gRestOf gRestOf0; walk_at "w"; rw [shl_1 h]; walk_at "w"; rw [mod_i (p2 _)]; walk_at "w"; exact Run.ok ⟨rfl, rfl⟩
open PySem L2
open PySem PyProof.Rows L2 Mth
section
variable {m : Sto}
theorem isi_tt (xs : List D) : isiD "tuple" (.tup xs) m = .ok (.bl true) m := rfl
theorem isi_ii (a : Int) : isiD "int" (.int a) m = .ok (.bl true) m := rfl
theorem isi_bi (a : Int) : isiD "bool" (.int a) m = .ok (.bl false) m := rfl
end
theorem lift {τ : Type} (enc : τ -> D) (P : Nat -> τ -> Prop) : ∀ (xs : List D) (k : Nat), (∀ i x, xs[i]? = some x -> ∃ t, x = enc t /\ P (k + i) t) -> ∃ l : List τ, xs = l.map enc /\ ∀ i t, l[i]? = some t -> P (k + i) t
 | [], k, _ => ⟨[], rfl, fun i t h => by simp at h⟩
 | x :: xs, k, h => by
  obtain ⟨t, rfl, ht⟩ := h 0 x rfl
  obtain ⟨l, rfl, hl⟩ := lift enc P xs (k + 1) fun i x hx => by
   rw [show k + 1 + i = k + (i + 1) by omega]
   exact h (i + 1) x (by simpa using hx)
  refine ⟨t :: l, rfl, fun i u hu => ?_⟩
  cases i with
  | zero => simp at hu; subst hu; exact ht
  | succ i =>
   rw [show k + (i + 1) = k + 1 + i by omega]
   exact hl i u (by simpa using hu)
open PySem L2
theorem pow1018 {m : Sto} : powD (.int 10) (.int 18) m = .ok (.int 1000000000000000000) m := by
 rw [powD_eq]
 have e : powR (.int 10) (.int 18) m = if (0 : Int) <= 18 /\ (18 : Int) <= 1000000 /\ (10 : Int).natAbs < 2 ^ 64 then .ok (.int ((10 : Int) ^ (18 : Int).toNat)) m else .bad := rfl
 rw [e, if_pos (by decide)]
 rfl
theorem int_txt {z : Str} {N : Int} {m : Sto} (h : PySem.intText? z = some N) (hl : z.length <= 640) : intF [.str z] m = .ok (.int N) m := by
 simp only [intF, h, if_pos hl]
theorem add_s {a b : Str} {m : Sto} (h : a.length + b.length <= sizeLine) : addD (.str a) (.str b) m = .ok (.str (a ++ b)) m := if_pos h
theorem huge_int {m : Sto} : ∃ N : Int, 0 < N /\ intF [.str (Str.ofString "1" ++ Txt.mul (Str.ofString "0") 300)] m = .ok (.int N) m := by
 obtain ⟨N, hN, e⟩ := L2.huge
 exact ⟨N, hN, int_txt e L2.huge_len⟩
theorem huge_sz : (Str.ofString "1").length + (Txt.mul (Str.ofString "0") 300).length <= sizeLine := by decide +kernel
open PySem L2
open PySem PyProof.Rows L2 Mth
theorem ne_tup (ns ms : List Int) {m : Sto} : neD (.tup (ns.map D.int)) (.tup (ms.map D.int)) m = .ok (.bl (!decide (ns = ms))) m := by
 have h := eqB_tup ns ms
 simp only [neD, rs, h]
theorem eq_tup (ns ms : List Int) {m : Sto} : eqD (.tup (ns.map D.int)) (.tup (ms.map D.int)) m = .ok (.bl (decide (ns = ms))) m := by
 have h := eqB_tup ns ms
 simp only [eqD, rs, h]
theorem asBls_map {τ : Type} (f : τ -> Bool) : ∀ l : List τ, asBls (l.map fun t => D.bl (f t)) = some (l.map f)
 | [] => rfl
 | a :: r => by simp only [List.map_cons, asBls, asBls_map f r]; rfl
open PySem L2
theorem lst_1 (a : D) {m : Sto} : gLst [a] m = .ok (.lst [a]) m := if_pos (sl_small (by simp))
theorem max_i (a b : Int) {m : Sto} : max2F [.int a, .int b] m = .ok (.int (if b > a then b else a)) m := rfl
theorem max_l {ns : List Int} {m : Sto} (h : ns ≠ []) : maxLF [.lst (ns.map D.int)] m = .ok (.int (maxV ns)) m := by
 simp only [maxLF, lOf, Option.bind_some, asInts_map, if_pos h]
open PySem L2
theorem loop_ret {g : GV} {body : SV} (I : Nat -> En -> Sto -> Prop) (R : D -> Sto -> Prop) : ∀ (ds : List D) (k : Nat) {ρ : En} {m : Sto}, I k ρ m -> (∀ i d ρ m, ds[i]? = some d -> I (k + i) ρ m -> Run ((g d ρ m).bind body) fun fl m2 => (∃ ρ2, fl = .nx ρ2 /\ I (k + i + 1) ρ2 m2) ∨ ∃ v, fl = .rt v /\ R v m2) →
  Run (loopF g body ds ρ m) fun fl m' => (∃ ρ', fl = .nx ρ' /\ I (k + ds.length) ρ' m') ∨ ∃ v, fl = .rt v /\ R v m'
 | [], k, ρ, m, h, _ => ⟨_, m, rfl, .inl ⟨ρ, rfl, h⟩⟩
 | d :: r, k, ρ, m, h, st => by
  obtain ⟨fl, m2, e2, h2⟩ := st 0 d ρ m rfl h
  rcases h2 with ⟨ρ2, rfl, h2⟩ | ⟨v, rfl, h2⟩
  ·obtain ⟨fl', m', e3, h3⟩ := loop_ret I R r (k + 1) h2 fun i d ρ m hd hi => by
    have := st (i + 1) d ρ m (by simpa using hd) (by rw [show k + (i + 1) = k + 1 + i by omega]; exact hi)
    rw [show k + (i + 1) + 1 = k + 1 + i + 1 by omega] at this
    exact this
   refine ⟨fl', m', ?_, by rw [List.length_cons, show k + (r.length + 1) = k + 1 + r.length by (clear h3; omega)]; exact h3⟩
   rw [loopF, <- Res.bind_assoc, e2, bind_ok]
   exact e3
  ·exact ⟨.rt v, m2, by rw [loopF, <- Res.bind_assoc, e2, bind_ok], .inr ⟨v, rfl, h2⟩⟩
section
variable {m : Sto}
theorem is_nn : isD .non .non m = .ok (.bl true) m := rfl
theorem isnt_nn : isntD .non .non m = .ok (.bl false) m := rfl
theorem whole_i (a : Int) : gIsWhole [.int a] m = .ok (.bl true) m := by
 apply run_eq
 unfold gIsWhole gIsWhole0; walk_at "w"; rw [isi_ii]; walk_at "w"; rw [isi_bi]; walk_at "w"; exact Run.ok ⟨rfl, rfl⟩
end
open PySem L2
theorem ne_lst (ns ms : List Int) {m : Sto} : neD (.lst (ns.map D.int)) (.lst (ms.map D.int)) m = .ok (.bl (!decide (ns = ms))) m := by
 simp only [neD, rs, eqB_lst]
theorem ix_l0 (a : D) (xs : List D) {m : Sto} : ixD (.lst (a :: xs)) (.int 0) m = .ok a m := ix_l (n := 0) rfl
open PySem L2
open PySem L2
structure P2 (m0 : Sto) (p : Nat) (m : Sto) : Prop where
 ex : ∃ g s : Int, m[p]? = some (.lst [.int g, .int s]) /\ 0 <= g /\ 0 <= s /\ s < 2305843009213693951
 fr : Fr p p m0 m
theorem ix_p0 {m : Sto} {p : Nat} {g s : Int} (h : m[p]? = some (.lst [.int g, .int s])) : ixD (.ob p) (.int 0) m = .ok (.int g) m := by
 simp only [ixD, h]; rfl
theorem ix_p1 {m : Sto} {p : Nat} {g s : Int} (h : m[p]? = some (.lst [.int g, .int s])) : ixD (.ob p) (.int 1) m = .ok (.int s) m := by
 simp only [ixD, h]; rfl
def kGI3 (ρ : En) : Unit -> Sto -> Res En := fun _ m => .ok ρ m
def kGI2 (ρ : En) (d x : D) : D -> Sto -> Res En := fun y m => (putL x y d m).bind (kGI3 ρ)
def kGI1 (fi : EV) (ρ : En) (d : D) : D -> Sto -> Res En := fun x m => (fi ρ m).bind (kGI2 ρ d x)
section
variable {m : Sto} {ρ : En} {d x y : D} {fo fi : EV}
theorem gI_at : gI fo fi d ρ m = (fo ρ m).bind (kGI1 fi ρ d) := rfl
theorem kgi1_at : kGI1 fi ρ d x m = (fi ρ m).bind (kGI2 ρ d x) := rfl
theorem kgi2_at : kGI2 ρ d x y m = (putL x y d m).bind (kGI3 ρ) := rfl
theorem kgi3_at : kGI3 ρ () m = .ok ρ m := rfl
theorem put_p0 {p : Nat} {g s : D} (h : m[p]? = some (.lst [g, s])) : putL (.ob p) (.int 0) d m = .ok () (m.set p (.lst [d, s])) := by
 simp only [putL, h]; rfl
theorem put_p1 {p : Nat} {g s : D} (h : m[p]? = some (.lst [g, s])) : putL (.ob p) (.int 1) d m = .ok () (m.set p (.lst [g, d])) := by
 simp only [putL, h]; rfl
theorem lst_6 (a b c e f g : D) : gLst [a, b, c, e, f, g] m = .ok (.lst [a, b, c, e, f, g]) m := if_pos (sl_small (by simp))
theorem lst_7 (a b c e f g i : D) : gLst [a, b, c, e, f, g, i] m = .ok (.lst [a, b, c, e, f, g, i]) m := if_pos (sl_small (by simp))
theorem shl_20 : shlD (.int 1) (.int 20) m = .ok (.int 1048576) m := shl_1 (n := 20) (by decide)
end
theorem draw_run {m0 : Sto} {p : Nat} {k : Int} {m : Sto} (hp : P2 m0 p m) (k0 : 0 < k) (k1 : k < 2 ^ 64) :
  Run (gLawDraw [.ob p, .int k] m) fun a m' => ∃ d : Int, a = .int d /\ 0 <= d /\ d < k /\ P2 m0 p m' /\ Fr p p m m' := by
 obtain ⟨g, s, h1, g0, s0, s1⟩ := hp.ex
 unfold gLawDraw gLawDraw0; walk_at "w"; rw [ix_p0 h1]; walk_at "w"
 by_cases hl : 0 < g
 ·rw [if_pos hl]; walk_at "w"; rw [ix_p0 h1]; walk_at "w"; rw [div_i ⟨k0, k1⟩]; walk_at "w"; rw [ix_p0 h1]; walk_at "w"; rw [mod_i k0]; walk_at "w"; simp only [gI_at, kgi1_at, kgi2_at, bind_ok, bind_then, eC_at, var_0]; rw [put_p0 h1]; simp only [bind_ok, then_at, kgi3_at]; walk_at "w"; exact Run.ok ⟨_, rfl, Int.emod_nonneg _ (by omega), Int.emod_lt_of_pos _ k0, ⟨⟨g / k, s, set_get h1, Int.ediv_nonneg g0 (by omega), s0, s1⟩, hp.fr.trans Fr.set⟩, Fr.set⟩
 ·rw [if_neg hl]; walk_at "w"; rw [ix_p1 h1]; walk_at "w"; rw [mul_i ⟨by decide, by decide⟩]; walk_at "w"; rw [mod_i (by decide)]; walk_at "w"; simp only [gI_at, kgi1_at, kgi2_at, bind_ok, bind_then, eC_at, var_0]; rw [put_p1 h1]; generalize hS : (s * 6364136223846793005 + 1442695040888963407) % 2305843009213693951 = S
  have S0 : 0 <= S := by rw [<- hS]; exact Int.emod_nonneg _ (by decide)
  have S1 : S < 2305843009213693951 := by rw [<- hS]; exact Int.emod_lt_of_pos _ (by decide)
  have hp2 : (m.set p (.lst [.int g, .int S]))[p]? = some (.lst [.int g, .int S]) := set_get h1
  generalize hm2 : m.set p (.lst [.int g, .int S]) = m2 at hp2; simp only [bind_ok, then_at, kgi3_at]; walk_at "w"; rw [ix_p1 hp2]; walk_at "w"; rw [div_i ⟨by decide, by decide⟩]; walk_at "w"
  have q0 : 0 <= S / 131071 := Int.ediv_nonneg S0 (by decide)
  have q1 : S / 131071 <= S := Int.ediv_le_self _ S0
  rw [mul_j ⟨by omega, by omega⟩]; walk_at "w"; rw [mod_i (by decide)]; walk_at "w"; rw [div_i ⟨by decide, by decide⟩]; walk_at "w"; rw [mod_i k0]; walk_at "w"
  have f : Fr p p m m2 := by rw [<- hm2]; exact Fr.set
  exact Run.ok ⟨_, rfl, Int.emod_nonneg _ (by omega), Int.emod_lt_of_pos _ k0, ⟨⟨g, S, hp2, g0, S0, S1⟩, hp.fr.trans f⟩, f⟩
theorem value2_run {m0 : Sto} {p b : Nat} {m : Sto} (hp : P2 m0 p m) (h2 : b <= 40) :
  Run (gLawValue2 [.ob p, .int b] m) fun a m' => ∃ v : Int, a = .int v /\ 0 <= v /\ v < 2 ^ b /\ P2 m0 p m' /\ Fr p p m m' := by
 unfold gLawValue2 gLawValue20; walk_at "w"; rw [shl_1 (by omega)]; walk_at "w"
 have hb := p2 b
 have hb2 := p2lt h2
 generalize hB : (2 : Int) ^ b = B at hb hb2; rw [rng_ok (by decide) (by decide)]; walk_at "w"; refine Run.bind (loop_run (fun k ρ m' => ∃ (far : Int) (x4 : Option D), ρ = [some (.ob p), some (.int b), some (.int (B - 1)), some (.int far), x4, none] /\ P2 m0 p m' /\ Fr p p m m') (intsD 0 (3 : Int).toNat) 0 ⟨0, none, rfl, hp, Fr.refl⟩ ?_) ?_
 ·rintro i d ρ m1 hd ⟨far, x4, rfl, g1, g2⟩; walk_at "w"; rw [shl_20]; walk_at "w"; rw [mul_i ⟨by decide, by decide⟩]; walk_at "w"; rw [shl_20]; walk_at "w"; refine Run.bind (draw_run g1 (by decide) (by decide)) ?_; rintro _ m2 ⟨y, rfl, y0, y1, hp2, f2⟩; walk_at "w"; exact Run.ok ⟨_, rfl, _, _, rfl, hp2, g2.trans f2⟩
 ·rintro _ m3 ⟨ρ, rfl, far, x4, rfl, g1, g2⟩; walk_at "w"; rw [div_i ⟨by decide, by decide⟩]; walk_at "w"; rw [div_i ⟨by decide, by decide⟩]; walk_at "w"; refine Run.bind (draw_run g1 (by decide) (by decide)) ?_; rintro _ m4 ⟨y, rfl, y0, y1, hp2, f2⟩; walk_at "w"; rw [mod_i (by omega)]; walk_at "w"; rw [mod_i (by omega)]; walk_at "w"; rw [lst_7]; walk_at "w"; refine Run.bind (draw_run hp2 (by decide) (by decide)) ?_
  rintro _ m5 ⟨z, rfl, z0, z1, hp3, f3⟩; walk_at "w"
  have w0 : 0 <= far % (B - 1 + 1) := Int.emod_nonneg _ (by omega)
  have w1 : far % (B - 1 + 1) < B - 1 + 1 := Int.emod_lt_of_pos _ (by omega)
  have t0 : 0 <= (B - 1) / 2 := Int.ediv_nonneg (by omega) (by decide)
  have t1 : (B - 1) / 2 <= B - 1 := Int.ediv_le_self _ (by omega)
  obtain ⟨v, hv, e⟩ := ix_any (m := m5) (xs := [.int 0, .int (B - 1), .int ((B - 1) / 2), .int (if (B - 1) / 2 + 1 < B - 1 then (B - 1) / 2 + 1 else B - 1), .int (if y < B - 1 then y else B - 1), .int (far % (B - 1 + 1)), .int (far % (B - 1 + 1))]) z0 z1
  rw [e]; walk_at "w"
  have hv' : ∃ n : Int, v = .int n /\ 0 <= n /\ n < B := by
   simp only [List.mem_cons, List.not_mem_nil, or_false] at hv
   rcases hv with rfl | rfl | rfl | rfl | rfl | rfl | rfl
   ·exact ⟨_, rfl, by omega, by omega⟩
   ·exact ⟨_, rfl, by omega, by omega⟩
   ·exact ⟨_, rfl, t0, by omega⟩
   ·exact ⟨_, rfl, by split <;> omega, by split <;> omega⟩
   ·exact ⟨_, rfl, by split <;> omega, by split <;> omega⟩
   ·exact ⟨_, rfl, w0, by omega⟩
   ·exact ⟨_, rfl, w0, by omega⟩
  obtain ⟨n, rfl, n0, n1⟩ := hv'
  exact Run.ok ⟨n, rfl, n0, n1, hp3, g2.trans (f2.trans f3)⟩
theorem at_ints {i n : Nat} {d : D} (h : (intsD 0 n)[i]? = some d) : d = .int (i : Nat) := by
 have hi := (List.getElem?_eq_some_iff.mp h).1
 rw [len_ints] at hi
 simp only [intsD, List.getElem?_map, List.getElem?_range hi, Option.map_some, Option.some.injEq, Int.zero_add] at h
 exact h.symm
open PySem L2
theorem all_bls (bs : List Bool) {m : Sto} : allF [.lst (bs.map D.bl)] m = .ok (.bl (bs.all id)) m := by
 simp only [allF, lOf, Option.bind_some]; rw [asBls_map (fun b => b)]
 simp
theorem slen {n : Nat} (h : n <= 100) : n <= sizeLine := Nat.le_trans h (by decide)
open PySem L2
theorem ix_sc {ns : List Int} {k : Nat} {n : Int} {m : Sto} (h : ns[k]? = some n) : ixS (.scr (ns.map D.int)) (.int k) m = .ok (.int n) m := by
 show opt (L2.atI (ns.map D.int) k) m = _
 rw [atI_nat, List.getElem?_map, h]
 rfl
theorem len_sc {ns : List Int} {m : Sto} : lenF [.scr (ns.map D.int)] m = .ok (.int ns.length) m := by
 show Res.ok (D.int (ns.map D.int).length) m = _
 rw [List.length_map]
theorem pot2_run {ns : List Int} {k : Nat} {m : Sto} (hk : k <= 100) (hn : ns.length <= 63) : Run (gLawPot2 [.scr (ns.map D.int), .int k] m) fun a m' => ∃ p, a = .ob p /\ P2 m' p m' := by
 have key : ∀ c : Int, Run ((sSeq (sAsg (eOp mulD (eOp modD (eFn absF (aCons (eVar 2) aNil)) (eFn intF (aCons (eOp addD (eC (.str "1")) (eOp mulD (eC (.str "0")) (eC (.int 300)))) aNil))) (eFn intF (aCons (eOp geD (eFn absF (aCons (eVar 2) aNil)) (eOp powD (eC (.int 10)) (eC (.int 18)))) aNil))) (gN 3))
 (sRet (eFn gNewL (aCons (eVar 3) (aCons (eOp modD (eOp mulD (eOp addD (eOp addD (eOp modD (eVar 2) (eC (.int 2305843009213693921))) (eOp mulD (eC (.int 104729)) (eVar 1))) (eC (.int 5))) (eC (.int 48271))) (eC (.int 2305843009213693951))) aNil)))))
   [some (.scr (ns.map D.int)), some (.int k), some (.int c), none] m |>.bind finF) fun a m' => ∃ p, a = .ob p /\ P2 m' p m' := by
  intro c
  walk_at "w"
  have ea : ∀ m, absF [.int c] m = .ok (.int c.natAbs) m := fun m => by
   have e : (if c < 0 then -c else c) = (c.natAbs : Int) := by split <;> omega
   rw [<- e]
   rfl
  rw [ea]; walk_at "w"; rw [mul_s (by decide) (by decide) (by decide)]; walk_at "w"
  have e1 : ∀ m, addD (.str "1") (.str (Txt.mul (Str.ofString "0") 300)) m = .ok (.str (Str.ofString "1" ++ Txt.mul (Str.ofString "0") 300)) m := fun m => add_s huge_sz
  rw [e1]; walk_at "w"
  obtain ⟨N, hN, e2⟩ := huge_int (m := m)
  rw [e2]; walk_at "w"; rw [mod_i hN]; walk_at "w"; rw [ea]; walk_at "w"; rw [pow1018]; walk_at "w"
  have eb : ∀ b : Bool, intF [.bl b] m = .ok (.int (if b then 1 else 0)) m := fun b => by cases b <;> rfl
  rw [eb]; walk_at "w"
  obtain ⟨z, hz, z01⟩ : ∃ z : Int, (if (1000000000000000000 : Int) <= (c.natAbs : Int) then 1 else 0 : Int) = z /\ (z = 0 ∨ z = 1) := ⟨_, rfl, by split <;> simp⟩
  simp only [hz]; rw [mul_i (by omega)]; walk_at "w"; rw [mod_i (by decide)]; walk_at "w"; rw [mul_j (by decide)]; walk_at "w"; rw [mul_i (by decide)]; walk_at "w"; rw [mod_i (by decide)]; walk_at "w"; rw [show ∀ a b : D, gNewL [a, b] m = .ok (.ob m.length) (m ++ [.lst [a, b]]) from fun a b => if_pos (slen (by simp))]; walk_at "w"
  refine Run.ok ⟨m.length, rfl, ⟨⟨(c.natAbs : Int) % N * z, _, by rw [List.getElem?_append_right (Nat.le_refl _), Nat.sub_self]; rfl, ?_, Int.emod_nonneg _ (by decide), Int.emod_lt_of_pos _ (by decide)⟩, Fr.refl⟩⟩
  have h1 : 0 <= (c.natAbs : Int) % N := Int.emod_nonneg _ (by omega)
  exact Int.mul_nonneg h1 (by omega)
 unfold gLawPot2 gLawPot20; rw [run_at]
 show Run (Res.bind (sSeq (sAsg (eIf (tV (eOp ltD (eVar 1) (eFn lenF (aCons (eVar 0) aNil)))) (eOp ixS (eVar 0) (eVar 1)) (eOp addD (eFn lenF (aCons (eVar 0) aNil)) (eVar 1))) (gN 2)) _ [some (.scr (ns.map D.int)), some (.int k), none, none] m) finF) _
 simp only [seq_at, asg_at, ife_at, tV_at, op_at, kop_at, var_0, var_S, fn_at, aCons_at, kcons_at, aNil_at, kcons2_at, bind_ok, bind_then, then_at, len_sc, lt_i, asB_at, kife_at]
 by_cases h : (k : Int) < ns.length
 ·rw [decide_eq_true h, if_pos rfl]
  obtain ⟨n, e⟩ : ∃ n, ns[k]? = some n := ⟨_, List.getElem?_eq_getElem (by omega)⟩
  try simp only [op_at, kop_at, var_0, var_S, bind_ok, bind_then, then_at]
  rw [ix_sc e]; simp only [kasg_at, gN_at, List.set_cons_succ, List.set_cons_zero, bind_ok, bind_then, then_at, nx_at, seq_nx]
  exact key n
 ·rw [decide_eq_false h, if_neg (by simp)]
  try simp only [op_at, kop_at, var_0, var_S, fn_at, aCons_at, kcons_at, aNil_at, kcons2_at, bind_ok, bind_then, then_at, len_sc, add_i]
  simp only [kasg_at, gN_at, List.set_cons_succ, List.set_cons_zero, bind_ok, bind_then, then_at, nx_at, seq_nx]
  exact key _
open PySem L2
open PySem L2
theorem while_at {n : Nat} {t : TV} {b : SV} {ρ : En} {m : Sto} : sWhile n t b ρ m = loopW t b n ρ m := rfl
open PySem L2
theorem add_ll {a b : List D} {m : Sto} (h : a.length + b.length <= 1000) : addD (.lst a) (.lst b) m = .ok (.lst (a ++ b)) m := if_pos (Nat.le_trans h (by decide))
open PySem L2
theorem all_trueM {τ : Type} (l : List τ) {m : Sto} : allF [.lst (l.map fun _ => D.bl true)] m = .ok (.bl true) m := by
 rw [show (l.map fun _ => D.bl true) = (l.map fun _ => true).map D.bl by simp, all_bls]
 simp
section
variable {c f mth : Str} {fa fv : EV} {fr : AV} {ρ : En} {m : Sto} {d : D} {g : List D -> Sto -> Res D}
def kFs3 (ρ : En) : Unit -> Sto -> Res Fl := fun _ m3 => .ok (.nx ρ) m3
def kFs2 (c f : Str) (ρ : En) (y : D) : D -> Sto -> Res Fl := fun x m2 => (setM c f x y m2).bind (kFs3 ρ)
def kFs1 (c f : Str) (fo : EV) (ρ : En) : D -> Sto -> Res Fl := fun y m1 => (fo ρ m1).bind (kFs2 c f ρ y)
theorem fld_at : eFld c f fa ρ m = (fa ρ m).bind (fldM c f) := rfl
theorem sfld_at : sFldM c f fa fv ρ m = (fv ρ m).bind (kFs1 c f fa ρ) := rfl
theorem kfs1_at : kFs1 c f fa ρ d m = (fa ρ m).bind (kFs2 c f ρ d) := rfl
theorem kfs2_at (x : D) : kFs2 c f ρ d x m = (setM c f x d m).bind (kFs3 ρ) := rfl
theorem kfs3_at : kFs3 ρ () m = .ok (.nx ρ) m := rfl
def kMt2 (g : List D -> Sto -> Res D) (x : D) : List D -> Sto -> Res D := fun ds m2 => g (x :: ds) m2
def kMt1 (c mth : Str) (g : List D -> Sto -> Res D) (fr : AV) (ρ : En) : D -> Sto -> Res D := fun x m1 => if insOk c mth x m1 = true then (fr ρ m1).bind (kMt2 g x) else .bad
theorem mth_at : eMth c mth g fa fr ρ m = (fa ρ m).bind (kMt1 c mth g fr ρ) := rfl
theorem kmt1_at : kMt1 c mth g fr ρ d m = if insOk c mth d m = true then (fr ρ m).bind (kMt2 g d) else .bad := rfl
theorem kmt2_at (ds : List D) : kMt2 g d ds m = g (d :: ds) m := rfl
def kPar3 (i j k : Nat) (ρ : En) : List D -> Sto -> Res Fl := fun ds m1 => match ds with
 | [x, y, z] => .ok (.nx (((ρ.set i (some x)).set j (some y)).set k (some z))) m1
 | _ => .bad
theorem par3_at (i j k : Nat) : sPar3 i j k fr ρ m = (fr ρ m).bind (kPar3 i j k ρ) := rfl
theorem kpar3_at (i j k : Nat) (x y z : D) : kPar3 i j k ρ [x, y, z] m = .ok (.nx (((ρ.set i (some x)).set j (some y)).set k (some z))) m := rfl
def kForO (h : GV) (b : SV) (ρ : En) : Nat × MO × List D -> Sto -> Res Fl := fun t m1 => loopO t.1 t.2.1 h b t.2.2 ρ m1
theorem forO_at {it : OI} {h : GV} {b : SV} : sForO it h b ρ m = (it ρ m).bind (kForO h b ρ) := rfl
theorem kforO_at {h : GV} {b : SV} (k : Nat) (o : MO) (ds : List D) : kForO h b ρ (k, o, ds) m = loopO k o h b ds ρ m := rfl
theorem objI_at : aObj fa ρ m = (fa ρ m).bind asObj := rfl
theorem isnt_in (i : Int) : isntD (.int i) .non m = .ok (.bl true) m := rfl
theorem is_in (i : Int) : isD (.int i) .non m = .ok (.bl false) m := rfl
end
local macro_rules | `(tactic| walk_at "w") => do
  let ids := ("run_at fin_nx fin_rt seq_at seq_nx seq_rt nil_at ret_at rt_at retN_at drop_at kdrop_at if_at kif_at asg_at kasg_at nx_at gs_nil gs_cons gT_at par_at kpar_at List.set_cons_zero List.set_cons_succ for_at kfor_at eC_at op_at kop_at un_at fn_at ife_at kife_at aNil_at aCons_at kcons_at kcons2_at asB_at tV_at andT_at kandT_at orT_at korT_at notT_at knotT_at and_at kand_at or_at kor_at not_at knot_at aIt_at sq_t sq_l sq_s sq_c rngA_at enumA_at kenum_t kenum_l zipA_at kzip_at zip3A_at kzip3_at kzip4_at oNone_at oSome_at ksome_at slD_at ksl1_at ksl2_at slA_at kslA1_at kslA2_at meth_at kmeth_at isStr_at isTup_at chain_at kch1_at kch2_at kch3_at put_at kputA_at kputB_at kputC_at kputE_at bind_ok bind_then then_at var_0 var_S gN_at Bool.false_eq_true reduceIte List.map_cons List.map_nil List.length_cons List.length_nil Nat.reduceAdd Nat.reduceSub List.cons_append List.nil_append add_i sub_i eq_i ne_i eq_s ne_s lt_i le_i gt_i ge_i lst_0 lst_2 lst_3 lst_4 lst_5 tup_0 tup_1 tup_2 tup_3 min_i len_t len_l tup_l l1 ix_t0 ix_t1 ix_t2 List.replicate List.append_nil decide_eq_true_eq Bool.not_true Bool.not_false eq_self not_true_eq_false not_false_eq_true decide_true decide_false ofs_eq String.reduceEq fld_at sfld_at kfs1_at kfs2_at kfs3_at mth_at kmt1_at kmt2_at par3_at kpar3_at forO_at kforO_at objI_at isnt_in is_in is_nn isnt_nn max_i".splitOn " ").toArray.map fun s => Lean.mkIdent s.toName
  `(tactic| try simp only [$[$ids:ident],*])
def wdN (n : Nat) : Nat := if n <= 1 then 0 else (n - 1).log2 + 1
theorem wdN_lt {n w : Nat} : 2 ^ w < n ↔ w < wdN n := by
 unfold wdN
 by_cases h : n <= 1
 ·rw [if_pos h]
  have := Nat.one_le_two_pow (n := w)
  omega
 ·rw [if_neg h, Nat.lt_succ_iff, Nat.le_log2 (by omega)]
  omega
def wfT : TV := (tV (eOp ltD (eVar 2) (eVar 0)))
def wfB : SV := (sSeq (sAsg (eOp mulD (eVar 2) (eC (.int 2))) (gN 2)) (sAsg (eOp addD (eVar 1) (eC (.int 1))) (gN 1)))
theorem wf_loop {n : Nat} {m : Sto} : ∀ (j w fuel : Nat), w + j = wdN n -> j < fuel -> loopW wfT wfB fuel [some (.int n), some (.int w), some (.int (2 ^ w))] m = .ok (.nx [some (.int n), some (.int (wdN n)), some (.int (2 ^ wdN n))]) m
 | 0, w, 0, _, h => absurd h (Nat.not_lt_zero _)
 | 0, w, fuel + 1, e, _ => by
  have hw : w = wdN n := by omega
  subst hw
  have hn : ¬ ((2 : Int) ^ wdN n < n) := by
   have := mt wdN_lt.mp (Nat.lt_irrefl (wdN n))
   exact_mod_cast this
  rw [loopW]
  have et : wfT [some (.int n), some (.int (wdN n)), some (.int (2 ^ wdN n))] m = .ok false m := by
   unfold wfT; walk_at "w"; rw [decide_eq_false hn]
  rw [et, bind_ok, if_neg (by decide)]
 | j + 1, w, 0, _, h => absurd h (Nat.not_lt_zero _)
 | j + 1, w, fuel + 1, e, h => by
  have hn : (2 : Int) ^ w < n := by
   have := wdN_lt.mpr (show w < wdN n by omega)
   exact_mod_cast this
  rw [loopW]
  have et : wfT [some (.int n), some (.int w), some (.int (2 ^ w))] m = .ok true m := by
   unfold wfT; walk_at "w"; rw [decide_eq_true hn]
  have eb : wfB [some (.int n), some (.int w), some (.int (2 ^ w))] m = .ok (.nx [some (.int n), some (.int ((w + 1 : Nat) : Int)), some (.int (2 ^ (w + 1)))]) m := by
   unfold wfB; walk_at "w"; rw [mul_i ⟨by decide, by decide⟩]; walk_at "w"; rw [Int.pow_succ]
   rfl
  rw [et, bind_ok, if_pos rfl, eb, bind_ok]
  exact wf_loop j (w + 1) fuel (by omega) (by omega)
theorem widthFor_w {n : Nat} {m : Sto} (h : n <= 2 ^ 50) : gWidthFor [.int n] m = .ok (.int (wdN n)) m := by
 have hw : wdN n <= 50 := Nat.le_of_not_lt fun z => by
  have := wdN_lt.mpr z
  omega
 apply run_eq
 unfold gWidthFor runF
 show Run (Res.bind (sSeq (sAsg (eC (.int 0)) (gN 1)) (sSeq (sAsg (eC (.int 1)) (gN 2)) (sSeq (sWhile fuelW wfT wfB) (sRet (eVar 1)))) [some (.int n), none, none] m) finF) _
 walk_at "w"; rw [while_at]
 have := wf_loop (n := n) (m := m) (wdN n) 0 fuelW (by omega) (Nat.lt_of_le_of_lt hw (by decide))
 rw [show ((0 : Nat) : Int) = 0 from rfl, show ((2 : Int) ^ 0) = 1 from rfl] at this
 rw [this]; walk_at "w"; exact Run.ok ⟨rfl, rfl⟩
theorem aComp_en {τ : Type} (enc : τ -> D) {n : Nat} {it : AV} {g : GV} {el : EV} {ρ : En} {m : Sto} {l : List τ} (f : τ -> D) (h : it ρ m = .ok (l.map enc) m) (hl : l.length <= 1000000) (hf : ∀ t ∈ l, ∃ ρ1, g (enc t) (ρ ++ List.replicate n none) m = .ok ρ1 m /\ el ρ1 m = .ok (f t) m) : aComp n it g tYesM el ρ m = .ok (l.map f) m := by
 apply run_eq
 refine Run.mono (aComp_run (ds := l.map enc) (fun _ m' => m' = m) (fun i _ y => ∃ t, l[i]? = some t /\ y = f t) h (by rw [List.length_map]; exact hl) rfl ?_) ?_
 ·rintro i d m1 hd rfl
  rw [List.getElem?_map] at hd
  obtain ⟨t, ht, rfl⟩ := Option.map_eq_some_iff.mp hd
  obtain ⟨ρ1, e1, e2⟩ := hf t (List.mem_of_getElem? ht)
  rw [e1]
  show Run (el ρ1 m1) _
  rw [e2]; exact Run.ok ⟨⟨t, ht, rfl⟩, rfl⟩
 ·rintro ys m1 ⟨hlen, hP, rfl⟩
  rw [List.length_map] at hlen
  refine ⟨List.ext_getElem? fun i => ?_, rfl⟩
  rw [List.getElem?_map]
  by_cases hi : i < l.length
  ·have e1 : ys[i]? = some (ys[i]'(by omega)) := List.getElem?_eq_getElem _
   have e2 : (l.map enc)[i]? = some ((l.map enc)[i]'(by rw [List.length_map]; exact hi)) := List.getElem?_eq_getElem _
   obtain ⟨t, ht, hy⟩ := hP i _ _ e2 e1
   rw [e1, ht, hy]
   rfl
  ·rw [List.getElem?_eq_none (by omega), List.getElem?_eq_none (by omega)]
   rfl
open PySem L2
open PySem L2
theorem aComp_filt {n : Nat} {it : AV} {g : GV} {c : TV} {el : EV} {ρ : En} {m : Sto} {ds : List D} (b : D -> Bool) (h : it ρ m = .ok ds m) (hl : ds.length <= 1000000) (hf : ∀ d ∈ ds, ∃ ρ1, g d (ρ ++ List.replicate n none) m = .ok ρ1 m /\ c ρ1 m = .ok (b d) m /\ el ρ1 m = .ok d m) : aComp n it g c el ρ m = .ok (ds.filter b) m := by
 unfold aComp; rw [h, bind_ok, if_pos hl]; clear h hl
 induction ds with
 | nil => rfl
 | cons d r ih =>
  obtain ⟨ρ1, e1, e2, e3⟩ := hf d List.mem_cons_self
  rw [compM, e1, bind_ok, e2, bind_ok]
  have ih := ih fun d hd => hf d (List.mem_cons_of_mem _ hd)
  cases hb : b d with
  | true => rw [if_pos rfl, e3, bind_ok, ih, bind_ok, List.filter_cons_of_pos hb]
  | false => rw [if_neg (by simp), ih, List.filter_cons_of_neg (by simp [hb])]
theorem pow_mono {a b : Nat} (h : a <= b) : (2 : Int) ^ a <= 2 ^ b := by
 have : (2 : Nat) ^ a <= 2 ^ b := Nat.pow_le_pow_right (by decide) h
 exact_mod_cast this
def topW (w : Nat) (os : List Int) (b : Int) : Int := maxV (b :: os.map fun o => (o + b) % 2 ^ w)
def InW (w : Nat) (os : List Int) (k : Nat) (b : Int) : Prop := b < 2 ^ k /\ ∀ o ∈ os, (o + b) % 2 ^ w < 2 ^ k
theorem topW_lt {w k : Nat} {os : List Int} {b : Int} : topW w os b < 2 ^ k ↔ InW w os k b := by
 have hm : topW w os b ∈ b :: os.map fun o => (o + b) % 2 ^ w := maxV_mem (by simp)
 constructor
 ·intro h
  refine ⟨Int.lt_of_le_of_lt (le_maxV (.head _)) h, fun o ho => Int.lt_of_le_of_lt (le_maxV (.tail _ (List.mem_map.mpr ⟨o, ho, rfl⟩))) h⟩
 ·rintro ⟨h1, h2⟩
  rcases List.mem_cons.mp hm with e | e
  ·rw [e]; exact h1
  ·obtain ⟨o, ho, e⟩ := List.mem_map.mp e
   rw [<- e]; exact h2 o ho
theorem widthWith_w {w : Nat} {os : List Int} {b : Int} {m : Sto} (hw : w <= 40) (hl : os.length <= 7) (hb : 0 <= b) (hb2 : b < 2 ^ w) :
  gWidthWith [.int w, .tup (os.map D.int), .int b] m = .ok (.int (wdN (1 + topW w os b).toNat)) m := by
 have hp : (0 : Int) < 2 ^ w := Int.pow_pos (by decide)
 have hpw : (2 : Int) ^ w <= 2 ^ 40 := pow_mono hw
 have ht : topW w os b < 2 ^ w := topW_lt.mpr ⟨hb2, fun o _ => Int.emod_lt_of_pos _ hp⟩
 have ht0 : 0 <= topW w os b := Int.le_trans hb (le_maxV (.head _))
 have ec : aComp 1 (aIt (eVar 1)) (gN 3) tYesM (eFn gRestOf (aCons (eOp addD (eVar 3) (eVar 2)) (aCons (eVar 0) aNil))) [some (.int w), some (.tup (os.map D.int)), some (.int b)] m = .ok (os.map fun o => D.int ((o + b) % 2 ^ w)) m :=
  aComp_en D.int (fun o => D.int ((o + b) % 2 ^ w)) rfl (by omega) fun o _ => ⟨_, rfl, by
   walk_at "w"
   rw [run_eq (restOf_run (by omega))]⟩
 apply run_eq
 unfold gWidthWith gWidthWith0; walk_at "w"; rw [lst_1]; walk_at "w"; rw [ec]; walk_at "w"; rw [add_ll (by simp; omega)]; walk_at "w"
 have e : D.int b :: os.map (fun o => D.int ((o + b) % 2 ^ w)) = (b :: os.map fun o => (o + b) % 2 ^ w).map D.int := by simp
 rw [e, max_l (by simp)]; walk_at "w"
 have e2 : (1 + maxV (b :: os.map fun o => (o + b) % 2 ^ w) : Int) = ((1 + topW w os b).toNat : Nat) := by
  show (1 + topW w os b : Int) = _
  omega
 rw [e2, widthFor_w (by omega)]; exact Run.ok ⟨rfl, rfl⟩
open PySem L2 PyProof.Rows
theorem lex_trans : ∀ {xs ys zs : List Int}, HT.lexLt xs ys = true -> HT.lexLt ys zs = true -> HT.lexLt xs zs = true
 | [], [], _, h, _ => by cases h
 | [], _ :: _, [], _, h => by cases h
 | [], _ :: _, _ :: _, _, _ => rfl
 | _ :: _, [], _, h, _ => by cases h
 | _ :: _, _ :: _, [], _, h => by cases h
 | x :: xs, y :: ys, z :: zs, h, k => by
  rw [HT.lexLt_cons] at *
  by_cases a : x = y
  ·subst a
   rw [if_pos rfl] at h
   by_cases b : x = z
   ·subst b
    rw [if_pos rfl] at *
    exact lex_trans h k
   ·rw [if_neg b] at *
    exact k
  ·rw [if_neg a, decide_eq_true_eq] at h
   by_cases b : y = z
   ·subst b
    rw [if_neg a]
    simpa using h
   ·rw [if_neg b, decide_eq_true_eq] at k
    rw [if_neg (by omega)]; simp only [decide_eq_true_eq]
    omega
theorem best_tr {bt : Nat -> Nat -> Bool} (tr : ∀ a b c, bt a b = true -> bt b c = true -> bt a c = true) (ir : ∀ a, bt a a = false) : ∀ n i, i <= n -> bt i (argBest bt n) = false
 | 0, i, h => by
  have : i = 0 := by omega
  subst this
  exact ir 0
 | n + 1, i, h => by
  unfold argBest
  by_cases c : bt (n + 1) (argBest bt n) = true
  ·rw [if_pos c]
   rcases Nat.lt_or_ge n i with hi | hi
   ·rw [show i = n + 1 by omega]; exact ir _
   ·have q := best_tr tr ir n i hi
    cases e : bt i (n + 1) with
    | false => rfl
    | true => rw [tr _ _ _ e c] at q; cases q
  ·rw [if_neg c]
   rcases Nat.lt_or_ge n i with hi | hi
   ·rw [show i = n + 1 by omega]; simpa using c
   ·exact best_tr tr ir n i hi
theorem lex_irr : ∀ xs : List Int, HT.lexLt xs xs = false
 | [] => rfl
 | x :: xs => by rw [HT.lexLt_cons, if_pos rfl]; exact lex_irr xs
theorem minAt_spec {rows : List (List Int)} (h : rows ≠ []) : ∃ r, rows[minAt rows]? = some r /\ ∀ r' ∈ rows, HT.lexLt r' r = false := by
 have hp := List.length_pos_iff.mpr h
 have hl : minAt rows < rows.length := by
  have := argBest_le (bt := fun i j => HT.lexLt (rows.getD i []) (rows.getD j [])) (rows.length - 1)
  unfold minAt
  omega
 refine ⟨rows[minAt rows], List.getElem?_eq_getElem hl, fun r' hr => ?_⟩
 obtain ⟨i, hi, rfl⟩ := List.mem_iff_getElem.mp hr
 have q := best_tr (bt := fun i j => HT.lexLt (rows.getD i []) (rows.getD j [])) (fun a b c => lex_trans) (fun a => lex_irr _) (rows.length - 1) i (by omega)
 have e1 : rows.getD i [] = rows[i] := by simp [List.getD, hi]
 have e2 : rows.getD (minAt rows) [] = rows[minAt rows] := by simp [List.getD, hl]
 rw [<- e1, <- e2]
 exact q
theorem asRows_pairs {τ : Type} (f g : τ -> Int) : ∀ l : List τ, asRows (l.map fun b => D.tup [.int (f b), .int (g b)]) = some (l.map fun b => [f b, g b])
 | [] => rfl
 | b :: l => by
  rw [List.map_cons, asRows, asRows_pairs f g l]
  rfl
def belW (w : Nat) (os : List Int) : List Int := 0 :: os.map fun o => (-o) % 2 ^ w
theorem wd_le {w k : Nat} {os : List Int} {b : Int} (h0 : 0 <= b) : wdN (1 + topW w os b).toNat <= k ↔ InW w os k b := by
 have ht0 : 0 <= topW w os b := Int.le_trans h0 (le_maxV (.head _))
 rw [<- topW_lt]
 have hp : ((2 ^ k : Nat) : Int) = 2 ^ k := by norm_cast
 constructor
 ·intro h
  have : ¬ 2 ^ k < (1 + topW w os b).toNat := fun q => absurd (wdN_lt.mp q) (Nat.not_lt.mpr h)
  omega
 ·intro h
  exact Nat.le_of_not_lt fun q => by
   have := wdN_lt.mpr q
   omega
def Tight (w : Nat) (os : List Int) (k : Nat) (b : Int) : Prop :=
 b ∈ belW w os /\ InW w os k b /\ ∀ b' ∈ belW w os, ∀ k' : Nat, InW w os k' b' -> k < k' ∨ (k = k' /\ b <= b')
theorem bel_range {w : Nat} {os : List Int} {b : Int} (h : b ∈ belW w os) : 0 <= b /\ b < 2 ^ w := by
 have hp : (0 : Int) < 2 ^ w := Int.pow_pos (by decide)
 rcases List.mem_cons.mp h with rfl | h
 ·exact ⟨Int.le_refl _, hp⟩
 ·obtain ⟨o, _, rfl⟩ := List.mem_map.mp h
  exact ⟨Int.emod_nonneg _ (by omega), Int.emod_lt_of_pos _ hp⟩
theorem tightest_w {w : Nat} {os : List Int} {m : Sto} (hw : w <= 40) (hl : os.length <= 7) :
  ∃ (k : Nat) (b : Int), Tight w os k b /\ gTightest [.int w, .tup (os.map D.int)] m = .ok (.tup [.int k, .int b]) m := by
 have hne : (belW w os).map (fun b => [((wdN (1 + topW w os b).toNat : Nat) : Int), b]) ≠ [] := by simp [belW]
 obtain ⟨r, hr, hmin⟩ := minAt_spec hne
 have hr2 := hr
 rw [List.getElem?_map] at hr2
 obtain ⟨b, hb, rfl⟩ := Option.map_eq_some_iff.mp hr2
 have hbm : b ∈ belW w os := List.mem_of_getElem? hb
 refine ⟨wdN (1 + topW w os b).toNat, b, ⟨hbm, (wd_le (bel_range hbm).1).mp (Nat.le_refl _), fun b' hb' k' hk => ?_⟩, ?_⟩
 ·have q := hmin _ (List.mem_map.mpr ⟨b', hb', rfl⟩)
  have hk' := (wd_le (bel_range hb').1).mpr hk
  rw [HT.lexLt_cons] at q
  by_cases c : ((wdN (1 + topW w os b').toNat : Nat) : Int) = ((wdN (1 + topW w os b).toNat : Nat) : Int)
  ·rw [if_pos c, HT.lexLt_cons] at q
   have hbb : b <= b' := by
    by_cases d : b' = b
    ·omega
    ·rw [if_neg d, decide_eq_false_iff_not] at q
     omega
   omega
  ·rw [if_neg c, decide_eq_false_iff_not] at q
   omega
 ·have ec : aComp 1 (aIt (eVar 1)) (gN 3) tYesM (eFn gRestOf (aCons (eUn negD (eVar 3)) (aCons (eVar 0) aNil))) [some (.int w), some (.tup (os.map D.int)), none] m = .ok (os.map fun o => D.int ((-o) % 2 ^ w)) m :=
   aComp_en D.int (fun o => D.int ((-o) % 2 ^ w)) rfl (by omega) fun o _ => ⟨_, rfl, by
    walk_at "w"; rw [show negD (.int o) m = .ok (.int (-o)) m from rfl]; walk_at "w"
    rw [run_eq (restOf_run (by omega))]⟩
  have ed : aComp 1 (aIt (eVar 2)) (gN 3) tYesM (eFn gTup (aCons (eFn gWidthWith (aCons (eVar 0) (aCons (eVar 1) (aCons (eVar 3) aNil)))) (aCons (eVar 3) aNil))) [some (.int w), some (.tup (os.map D.int)), some (.lst ((belW w os).map D.int))] m
    = .ok ((belW w os).map fun b => D.tup [.int (wdN (1 + topW w os b).toNat : Nat), .int b]) m :=
   aComp_en D.int (fun b => D.tup [.int (wdN (1 + topW w os b).toNat : Nat), .int b]) rfl (by simp [belW]; omega) fun b hb => ⟨_, rfl, by
    walk_at "w"; rw [widthWith_w hw hl (bel_range hb).1 (bel_range hb).2]
    walk_at "w"⟩
  apply run_eq
  unfold gTightest gTightest0; walk_at "w"; rw [lst_1]; walk_at "w"; rw [ec]; walk_at "w"; rw [add_ll (by simp; omega)]; walk_at "w"
  have e : D.int 0 :: os.map (fun o => D.int ((-o) % 2 ^ w)) = (belW w os).map D.int := by simp [belW]
  rw [e, ed]; walk_at "w"
  have ef : minTF [.lst ((belW w os).map fun b => D.tup [.int (wdN (1 + topW w os b).toNat : Nat), .int b])] m = .ok (.tup [.int (wdN (1 + topW w os b).toNat : Nat), .int b]) m := by
   unfold minTF
   dsimp only
   rw [show lOf (.lst ((belW w os).map fun b => D.tup [.int (wdN (1 + topW w os b).toNat : Nat), .int b])) m = some ((belW w os).map fun b => D.tup [.int (wdN (1 + topW w os b).toNat : Nat), .int b]) from rfl]
   dsimp only
   rw [asRows_pairs (fun b => ((wdN (1 + topW w os b).toNat : Nat) : Int)) (fun b => b)]
   dsimp only
   rw [List.getElem?_map, hb]
   dsimp only [Option.map]
   rw [if_pos hne]
  rw [ef]; exact Run.ok ⟨rfl, rfl⟩
open PySem L2 PyProof.Rows
def inW7 (w : Nat) (os : List Int) (k : Nat) (b : Int) : Bool := decide (b < 2 ^ k) && os.all fun o => decide ((o + b) % 2 ^ w < 2 ^ k)
theorem inW7_iff {w k : Nat} {os : List Int} {b : Int} : inW7 w os k b = true ↔ InW w os k b := by
 unfold inW7 InW; rw [Bool.and_eq_true, List.all_eq_true, decide_eq_true_eq]; simp only [decide_eq_true_eq]
theorem in_w {w k : Nat} {os : List Int} {b : Int} {m : Sto} (hw : w <= 40) (hk : k <= 1000) (hl : os.length <= 7) :
  gLawIn [.int w, .tup (os.map D.int), .int k, .int b] m = .ok (.bl (inW7 w os k b)) m := by
 have hp : (0 : Int) < 2 ^ w := Int.pow_pos (by decide)
 have ec : aComp 1 (aIt (eVar 1)) (gN 6) tYesM (eOp ltD (eOp modD (eOp addD (eVar 6) (eVar 3)) (eVar 4)) (eVar 5)) [some (.int w), some (.tup (os.map D.int)), some (.int k), some (.int b), some (.int (2 ^ w)), some (.int (2 ^ k))] m
   = .ok (os.map fun o => D.bl (decide ((o + b) % 2 ^ w < 2 ^ k))) m :=
  aComp_en D.int (fun o => D.bl (decide ((o + b) % 2 ^ w < 2 ^ k))) rfl (by omega) fun o _ => ⟨_, rfl, by
   walk_at "w"; rw [mod_i hp]
   walk_at "w"⟩
 apply run_eq
 unfold gLawIn gLawIn0; walk_at "w"; rw [shl_1 (by omega)]; walk_at "w"; rw [shl_1 (by omega)]; walk_at "w"
 unfold inW7
 by_cases c : b < 2 ^ k
 ·rw [decide_eq_true c, if_pos c]; rw [ec]; walk_at "w"
  have e : os.map (fun o => D.bl (decide ((o + b) % 2 ^ w < 2 ^ k))) = (os.map fun o => decide ((o + b) % 2 ^ w < 2 ^ k)).map D.bl := by simp
  rw [e, all_bls]
  refine Run.ok ⟨?_, rfl⟩
  rw [List.all_map]
  rfl
 ·rw [decide_eq_false c, if_neg c]; walk_at "w"; exact Run.ok ⟨rfl, rfl⟩
structure BelOk (w : Nat) (os : List Int) (Bs : List Int) : Prop where
 len : Bs.length <= 100
 ord : Bs.Pairwise (· <= ·)
 has : ∀ b ∈ belW w os, b ∈ Bs
 low : ∀ b ∈ Bs, ∀ k : Nat, InW w os k b -> ∃ b' ∈ belW w os, b' <= b /\ InW w os k b'
theorem low_all {w : Nat} {os : List Int} (ho : ∀ o ∈ os, 0 <= o /\ o < 2 ^ w) : ∀ (n : Nat) (k : Nat), (n : Int) < 2 ^ w -> InW w os k n -> ∃ b' ∈ belW w os, b' <= n /\ InW w os k b'
 | 0, k, _, h => ⟨0, .head _, Int.le_refl _, h⟩
 | n + 1, k, hn, h => by
  have hp : (0 : Int) < 2 ^ w := Int.pow_pos (by decide)
  by_cases c : ∃ o ∈ os, (o + ((n + 1 : Nat) : Int)) % 2 ^ w = 0
  ·obtain ⟨o, hm, e⟩ := c
   refine ⟨((n + 1 : Nat) : Int), .tail _ (List.mem_map.mpr ⟨o, hm, ?_⟩), Int.le_refl _, h⟩
   have e2 : (-o) % 2 ^ w = ((n + 1 : Nat) : Int) % 2 ^ w := by
    have : ((n + 1 : Nat) : Int) = (o + ((n + 1 : Nat) : Int)) + -o := by omega
    rw [this, Int.add_emod, e, Int.zero_add, Int.emod_emod]
   rw [e2, Int.emod_eq_of_lt (by omega) hn]
  ·have h' : InW w os k (n : Int) := by
    refine ⟨by have := h.1; omega, fun o hm => ?_⟩
    have q := h.2 o hm
    have z : (o + ((n + 1 : Nat) : Int)) % 2 ^ w ≠ 0 := fun e => c ⟨o, hm, e⟩
    have z0 := Int.emod_nonneg (o + ((n + 1 : Nat) : Int)) (by omega : (2 : Int) ^ w ≠ 0)
    have z1 := Int.emod_lt_of_pos (o + ((n + 1 : Nat) : Int)) hp
    have e : (o + (n : Int)) % 2 ^ w = (o + ((n + 1 : Nat) : Int)) % 2 ^ w - 1 := by
     have e1 : (o + (n : Int)) = (o + ((n + 1 : Nat) : Int)) - 1 := by omega
     rw [e1, Int.sub_emod]
     by_cases w0 : (2 : Int) ^ w = 1
     ·rw [w0] at z1; omega
     ·rw [Int.emod_eq_of_lt (a := 1) (by decide) (by omega), Int.emod_eq_of_lt (by omega) (by omega)]
    omega
   obtain ⟨b', hb', l, q⟩ := low_all ho n k (by omega) h'
   exact ⟨b', hb', by omega, q⟩
theorem mem_once {ns : List Int} {x : Int} : x ∈ onceI ns ↔ x ∈ ns := by
 have h := firstMet_any (fun i => ns.getD i 0) ns.length x
 rw [onceI_met] at h
 have e : (List.range ns.length).map (fun i => ns.getD i 0) = ns := by
  apply List.ext_getElem?
  intro i
  rw [List.getElem?_map]
  rcases Nat.lt_or_ge i ns.length with z | z <;> simp [z]
 rw [e] at h
 constructor
 ·intro hx
  have : (onceI ns).any (· == x) = true := List.any_eq_true.mpr ⟨x, hx, by simp⟩
  rw [h] at this
  obtain ⟨y, hy, e⟩ := List.any_eq_true.mp this
  rw [beq_iff_eq] at e; rwa [← e]
 ·intro hx
  have : ns.any (· == x) = true := List.any_eq_true.mpr ⟨x, hx, by simp⟩
  rw [<- h] at this
  obtain ⟨y, hy, e⟩ := List.any_eq_true.mp this
  rw [beq_iff_eq] at e; rwa [← e]
theorem belows_w {w : Nat} {os : List Int} {m : Sto} (hw : w <= 40) (hl : os.length <= 7) (ho : ∀ o ∈ os, 0 <= o /\ o < 2 ^ w) :
  ∃ Bs : List Int, BelOk w os Bs /\ gLawBelows [.int w, .tup (os.map D.int)] m = .ok (.lst (Bs.map D.int)) m := by
 have hp : (0 : Int) < 2 ^ w := Int.pow_pos (by decide)
 by_cases c : w < 7
 ·have h64 : (2 : Nat) ^ w <= 64 := Nat.pow_le_pow_right (by decide) (by omega : w <= 6)
  have hc : ((2 ^ w : Nat) : Int) = 2 ^ w := by norm_cast
  refine ⟨(List.range (2 ^ w)).map fun i : Nat => (i : Int), ⟨by simp; omega, ?_, fun b hb => ?_, fun b hb k hk => ?_⟩, ?_⟩
  ·rw [List.pairwise_map]
   exact List.pairwise_le_range.imp fun h => by omega
  ·have := bel_range hb
   exact List.mem_map.mpr ⟨b.toNat, List.mem_range.mpr (by omega), by omega⟩
  ·obtain ⟨n, hn, rfl⟩ := List.mem_map.mp hb
   exact low_all ho n k (by have := List.mem_range.mp hn; omega) hk
  ·apply run_eq
   unfold gLawBelows gLawBelows0; walk_at "w"; rw [if_pos (by omega)]; walk_at "w"; rw [shl_1 (by omega)]; walk_at "w"; rw [<- hc, show lstRF [.int ((2 ^ w : Nat) : Int)] m = .ok (.lst (intsD 0 ((2 ^ w : Nat) : Int).toNat)) m from if_pos ⟨by omega, by omega⟩]; walk_at "w"
   refine Run.ok ⟨?_, rfl⟩
   rw [Int.toNat_natCast]
   unfold intsD
   simp
 ·refine ⟨sortI (onceI (belW w os)), ⟨?_, sortI_sorted _, fun b hb => (sortI_perm _).mem_iff.mpr (mem_once.mpr hb), fun b hb k hk => ⟨b, mem_once.mp ((sortI_perm _).mem_iff.mp hb), Int.le_refl _, hk⟩⟩, ?_⟩
  ·rw [sortI_len]
   have := onceI_len (belW w os)
   have e : (belW w os).length = os.length + 1 := by simp [belW]
   omega
  ·have ec : aComp 1 (aIt (eVar 1)) (gN 2) tYesM (eOp modD (eOp subD (eC (.int 0)) (eVar 2)) (eOp shlD (eC (.int 1)) (eVar 0))) [some (.int w), some (.tup (os.map D.int))] m = .ok (os.map fun o => D.int ((-o) % 2 ^ w)) m :=
    aComp_en D.int (fun o => D.int ((-o) % 2 ^ w)) rfl (by omega) fun o _ => ⟨_, rfl, by
     walk_at "w"; rw [shl_1 (by omega)]; walk_at "w"
     rw [mod_i hp, Int.zero_sub]⟩
   apply run_eq
   unfold gLawBelows gLawBelows0; walk_at "w"; rw [if_neg (by simp; omega)]; walk_at "w"; rw [lst_1]; walk_at "w"; rw [ec]; walk_at "w"; rw [add_ll (by simp; omega)]; walk_at "w"
   have e : D.int 0 :: os.map (fun o => D.int ((-o) % 2 ^ w)) = (belW w os).map D.int := by simp [belW]
   rw [e]
   have ef : sortSet (.lst ((belW w os).map D.int)) m = .ok (.lst ((sortI (onceI (belW w os))).map D.int)) m := by
    unfold sortSet; rw [show (lOf (.lst ((belW w os).map D.int)) m).bind asInts = some (belW w os) from asInts_map _]
    dsimp only
    rw [if_pos (by simp [belW]; omega)]
    rfl
   rw [ef]; exact Run.ok ⟨rfl, rfl⟩
open PySem L2 PyProof.Rows
theorem tight_le {w K : Nat} {os : List Int} {b : Int} (h : Tight w os K b) : K <= w := by
 have hp : (0 : Int) < 2 ^ w := Int.pow_pos (by decide)
 have := h.2.2 0 (.head _) w ⟨hp, fun o _ => Int.emod_lt_of_pos _ hp⟩
 omega
theorem filt_none {w K k : Nat} {os Bs : List Int} {b : Int} (h : Tight w os K b) (hB : BelOk w os Bs) (hk : k < K) : Bs.filter (inW7 w os k) = [] := by
 rw [List.filter_eq_nil_iff]
 intro x hx c
 obtain ⟨b', hb', _, q⟩ := hB.low x hx k (inW7_iff.mp c)
 have := h.2.2 b' hb' k q
 omega
theorem filt_head {w K : Nat} {os Bs : List Int} {b : Int} (h : Tight w os K b) (hB : BelOk w os Bs) : ∃ r, Bs.filter (inW7 w os K) = b :: r := by
 have hb : b ∈ Bs.filter (inW7 w os K) := List.mem_filter.mpr ⟨hB.has b h.1, inW7_iff.mpr h.2.1⟩
 have ho : (Bs.filter (inW7 w os K)).Pairwise (· <= ·) := hB.ord.sublist List.filter_sublist
 cases e : Bs.filter (inW7 w os K) with
 | nil => rw [e] at hb; cases hb
 | cons x r =>
  rw [e] at hb ho
  have hx : x ∈ Bs.filter (inW7 w os K) := by rw [e]; exact .head _
  obtain ⟨h1, h2⟩ := List.mem_filter.mp hx
  obtain ⟨b', hb', l, q⟩ := hB.low x h1 K (inW7_iff.mp h2)
  have z := h.2.2 b' hb' K q
  have : x <= b := by
   rcases List.mem_cons.mp hb with e | e
   ·omega
   ·exact (List.pairwise_cons.mp ho).1 b e
  have : x = b := by omega
  exact ⟨r, by rw [this]⟩
def isB7 (p : Int -> Bool) : D -> Bool
 | .int x => p x
 | _ => false
theorem filt_i7 (p : Int -> Bool) : ∀ l : List Int, (l.map D.int).filter (isB7 p) = (l.filter p).map D.int
 | [] => rfl
 | x :: l => by
  rw [List.map_cons, List.filter_cons, List.filter_cons, filt_i7 p l]
  show (if p x = true then _ else _) = _
  split <;> rfl
theorem due_w {w K : Nat} {os : List Int} {b : Int} {m : Sto} (h : Tight w os K b) (hw : w <= 40) (hl : os.length <= 7) (ho : ∀ o ∈ os, 0 <= o /\ o < 2 ^ w) :
  gLawDue9 [.int w, .tup (os.map D.int)] m = .ok (.tup [.int K, .int b]) m := by
 have hK := tight_le h
 obtain ⟨Bs, hB, eB⟩ := belows_w (m := m) hw hl ho
 apply run_eq
 unfold gLawDue9 gLawDue90; walk_at "w"; rw [rng_ok (by omega) (by omega)]; walk_at "w"; refine Run.bind (loop_ret (fun k ρ m' => ∃ x y, ρ = [some (.int w), some (.tup (os.map D.int)), x, y] /\ m' = m /\ k <= K) (fun v m' => v = .tup [.int K, .int b] /\ m' = m) _ 0 ⟨_, _, rfl, rfl, Nat.zero_le _⟩ ?_) ?_
 ·rintro i d ρ m1 hd ⟨x, y, rfl, rfl, hi⟩
  have hdi : d = .int (i : Nat) := by
   unfold intsD at hd
   rw [List.getElem?_map] at hd
   obtain ⟨j, hj, rfl⟩ := Option.map_eq_some_iff.mp hd
   have : j = i := by
    rw [List.getElem?_range (by
     rcases Nat.lt_or_ge i ((w : Int) + 1).toNat with z | z
     ·exact z
     ·rw [List.getElem?_eq_none (by simpa using z)] at hj; cases hj)] at hj
    cases hj; rfl
   subst this
   simp
  subst hdi
  have ec : aComp 1 (aIt (eFn gLawBelows (aCons (eVar 0) (aCons (eVar 1) aNil)))) (gN 4) (tV (eFn gLawIn (aCons (eVar 0) (aCons (eVar 1) (aCons (eVar 2) (aCons (eVar 4) aNil)))))) (eVar 4) [some (.int w), some (.tup (os.map D.int)), some (.int (i : Nat)), y] m1 = .ok ((Bs.filter (inW7 w os i)).map D.int) m1 := by
   rw [<- filt_i7]
   refine aComp_filt (ds := Bs.map D.int) (isB7 (inW7 w os i)) ?_ (by rw [List.length_map]; have := hB.len; omega) fun d hd => ?_
   ·walk_at "w"; rw [eB]; walk_at "w"
   ·obtain ⟨x, hx, rfl⟩ := List.mem_map.mp hd
    refine ⟨_, rfl, ?_, rfl⟩
    walk_at "w"; rw [in_w hw (by omega) hl]; walk_at "w"
    rfl
  rw [Nat.zero_add] at hi
  walk_at "w"; rw [ec]; walk_at "w"; rw [show (D.lst []) = .lst (([] : List Int).map D.int) from rfl, ne_lst]; walk_at "w"
  rcases Nat.lt_or_ge i K with z | z
  ·rw [filt_none h hB z]; simp only [decide_true, Bool.not_true]; walk_at "w"
   exact Run.ok (.inl ⟨_, rfl, _, _, rfl, rfl, by omega⟩)
  ·have e : i = K := by omega
   subst e
   obtain ⟨r, er⟩ := filt_head h hB
   rw [er]; simp only [List.cons_ne_nil, reduceCtorEq, decide_false, Bool.not_false]; walk_at "w"; rw [ix_l0]; walk_at "w"
   exact Run.ok (.inr ⟨_, rfl, rfl, rfl⟩)
 ·rintro fl m' (⟨ρ', rfl, x, y, _, _, q⟩ | ⟨v, rfl, rfl, rfl⟩)
  ·exfalso
   unfold intsD at q
   rw [List.length_map, List.length_range] at q
   omega
  ·walk_at "w"; exact Run.ok ⟨rfl, rfl⟩
open PySem PyProof.Rows L2 Mth
open PySem PyProof.Rows L2 Mth
open PySem PyProof.Rows L2 Mth
open PySem PyProof.Rows L2 Mth
open PySem PyProof.Rows L2 Mth
def kCmp (n : Nat) (g : GV) (cc : TV) (el : EV) (ρ : En) : List D -> Sto -> Res (List D) := fun ds m => aComp n (fun _ m => .ok ds m) g cc el ρ m
theorem aComp_it {n : Nat} {it : AV} {g : GV} {cc : TV} {el : EV} {ρ : En} {m : Sto} : aComp n it g cc el ρ m = (it ρ m).bind (kCmp n g cc el ρ) := by
 unfold aComp kCmp aComp
 cases it ρ m <;> rfl
theorem kCmp_at {n : Nat} {g : GV} {cc : TV} {el : EV} {ρ : En} {ds : List D} {m : Sto} : kCmp n g cc el ρ ds m = aComp n (fun _ m => .ok ds m) g cc el ρ m := rfl
open PySem L2 PyProof.Rows
theorem shl_i {d : Int} {m : Sto} (h0 : 0 <= d) (h1 : d <= 1000) : shlD (.int 1) (.int d) m = .ok (.int (2 ^ d.toNat)) m := by
 have e : d = ((d.toNat : Nat) : Int) := by omega
 rw [e, shl_1 (by omega), Int.toNat_natCast]
theorem offset_run {m0 : Sto} {p w : Nat} {m : Sto} (hp : P2 m0 p m) (h1 : 0 < w) (h2 : w <= 40) :
  Run (gLawOffset [.ob p, .int w] m) fun a m' => ∃ v : Int, a = .int v /\ 0 <= v /\ v < 2 ^ w /\ P2 m0 p m' := by
 have hpw : (0 : Int) < 2 ^ w := Int.pow_pos (by decide)
 unfold gLawOffset gLawOffset0; walk_at "w"; rw [shl_1 (by omega)]; walk_at "w"; refine Run.bind (draw_run hp (by omega) (by omega)) ?_; rintro _ m1 ⟨d1, rfl, a0, a1, hp1, _⟩; walk_at "w"; rw [shl_i a0 (by omega)]; walk_at "w"; refine Run.bind (draw_run hp1 (by decide) (by decide)) ?_; rintro _ m2 ⟨d2, rfl, b0, b1, hp2, _⟩; walk_at "w"; refine Run.bind (draw_run hp2 (by decide) (by decide)) ?_
 rintro _ m3 ⟨d3, rfl, c0, c1, hp3, _⟩; walk_at "w"; refine Run.bind (draw_run hp3 (by decide) (by decide)) ?_; rintro _ m4 ⟨d4, rfl, e0, e1, hp4, _⟩; walk_at "w"; refine Run.bind (value2_run hp4 h2) ?_; rintro _ m5 ⟨d5, rfl, f0, f1, hp5, _⟩; walk_at "w"; rw [lst_6]; walk_at "w"; refine Run.bind (draw_run hp5 (by decide) (by decide)) ?_; rintro _ m6 ⟨d6, rfl, g0, g1, hp6, _⟩; walk_at "w"
 obtain ⟨x, hx, e⟩ := ix_any (m := m6) (xs := [.int 0, .int d3, .int (0 - d4), .int (2 ^ d1.toNat + d2 - 1), .int (0 - (2 ^ d1.toNat + d2 - 1)), .int d5]) g0 g1
 rw [e]; walk_at "w"
 obtain ⟨y, rfl⟩ : ∃ y : Int, x = .int y := by
  simp only [List.mem_cons, List.not_mem_nil, or_false] at hx
  rcases hx with rfl | rfl | rfl | rfl | rfl | rfl <;> exact ⟨_, rfl⟩
 rw [mod_i hpw]; walk_at "w"; exact Run.ok ⟨_, rfl, Int.emod_nonneg _ (by omega), Int.emod_lt_of_pos _ hpw, hp6⟩
theorem tight_nil {w K : Nat} {b : Int} (h : Tight w [] K b) : K = 0 /\ b = 0 := by
 have hb : b = 0 := by
  have := h.1
  simpa [belW] using this
 have := h.2.2 0 (.head _) 0 ⟨by decide, fun o ho => by cases ho⟩
 omega
theorem law_worth07 {ns : List Int} (hn : ns.length <= 63) : ∃ a m, gLaw31 [.scr (ns.map D.int)] [] = .ok a m /\ a = .bl true := by
 show Run (gLaw31 [.scr (ns.map D.int)] []) fun a _ => a = .bl true
 unfold gLaw31 gLaw310; walk_at "w"; rw [len_sc]; walk_at "w"; generalize hN : (2 + if (ns.length : Int) < 14 then (ns.length : Int) else 14) = N
 have N0 : 0 <= N := by rw [<- hN]; split <;> omega
 have N1 : N <= 16 := by rw [<- hN]; split <;> omega
 clear hN
 rw [rng_ok N0 (by omega)]; walk_at "w"; refine Run.bind (loop_run (fun k ρ m' => ∃ (x1 x2 x3 x4 x5 x6 : Option D), ρ = [some (.scr (ns.map D.int)), x1, x2, x3, x4, x5, x6]) (intsD 0 N.toNat) 0 ⟨_, _, _, _, _, _, rfl⟩ ?_) ?_
 ·rintro i d ρ m hd ⟨x1, x2, x3, x4, x5, x6, rfl⟩
  have hi := (List.getElem?_eq_some_iff.mp hd).1
  rw [len_ints] at hi
  have := at_ints hd
  subst this
  walk_at "w"; refine Run.bind (pot2_run (by omega) hn) ?_; rintro _ m1 ⟨p, rfl, hp1⟩; walk_at "w"; rw [rng_ok (by decide) (by decide)]; walk_at "w"
  refine Run.mono (loop_run (fun k ρ m' => ∃ (x3 x4 x5 x6 : Option D), ρ = [some (.scr (ns.map D.int)), some (.int (i : Nat)), some (.ob p), x3, x4, x5, x6] /\ P2 m1 p m') (intsD 0 (3 : Int).toNat) 0 ⟨_, _, _, _, rfl, hp1⟩ ?_) ?_
  ·rintro j d ρ m2 hd2 ⟨x3, x4, x5, x6, rfl, hp2⟩; walk_at "w"; refine Run.bind (draw_run hp2 (by decide) (by decide)) ?_; rintro _ m3 ⟨d1, rfl, a0, a1, hp3, _⟩; walk_at "w"; refine Run.bind (draw_run hp3 (by decide) (by decide)) ?_; rintro _ m4 ⟨d2, rfl, b0, b1, hp4, _⟩; walk_at "w"; refine Run.bind (draw_run hp4 (by decide) (by decide)) ?_; rintro _ m5 ⟨d3, rfl, c0, c1, hp5, _⟩; walk_at "w"
   obtain ⟨x, hx, e⟩ := ix_any (m := m5) (xs := [.int 1, .int 2, .int (1 + d1), .int (1 + d2), .int 40]) c0 c1
   rw [e]; walk_at "w"
   obtain ⟨w, rfl, w0, w1⟩ : ∃ w : Nat, x = .int w /\ 0 < w /\ w <= 40 := by
    simp only [List.mem_cons, List.not_mem_nil, or_false] at hx
    rcases hx with rfl | rfl | rfl | rfl | rfl
    ·exact ⟨1, rfl, by decide, by decide⟩
    ·exact ⟨2, rfl, by decide, by decide⟩
    ·exact ⟨(1 + d1).toNat, by congr 1; omega, by omega, by omega⟩
    ·exact ⟨(1 + d2).toNat, by congr 1; omega, by omega, by omega⟩
    ·exact ⟨40, rfl, by decide, by decide⟩
   clear e hx; rw [aComp_it]; walk_at "w"; refine Run.bind (draw_run hp5 (by decide) (by decide)) ?_; rintro _ m6 ⟨y, rfl, y0, y1, hp6, _⟩; walk_at "w"
   obtain ⟨n, hn'⟩ : ∃ n : Nat, y = n := ⟨y.toNat, by omega⟩
   subst hn'
   rw [rng_ok (by omega) (by omega), Int.toNat_natCast]; walk_at "w"; rw [kCmp_at]; refine Run.bind (aComp_run (ds := intsD 0 n) (fun k m' => P2 m1 p m') (fun _ _ x => ∃ v : Int, x = .int v /\ 0 <= v /\ v < 2 ^ w) rfl (by rw [len_ints]; omega) hp6 ?_) ?_
   ·intro j d m7 hd7 h7
    walk_at "w"
    refine Run.mono (offset_run h7 w0 w1) ?_
    rintro _ m8 ⟨v, rfl, v0, v1, h8⟩
    exact ⟨⟨v, rfl, v0, v1⟩, h8⟩
   ·rintro xs m7 ⟨hlen, hP, hp7⟩
    rw [len_ints] at hlen
    obtain ⟨os, rfl, hF⟩ := lift D.int (fun _ v => 0 <= v /\ v < 2 ^ w) xs 0 fun i x hx => by
     have hi : i < n := by have := (List.getElem?_eq_some_iff.mp hx).1; omega
     exact hP i _ x (List.getElem?_eq_getElem (by rw [len_ints]; exact hi)) hx
    rw [List.length_map] at hlen
    have ho : ∀ o ∈ os, 0 <= o /\ o < 2 ^ w := fun o h => by
     obtain ⟨i, hi⟩ := List.mem_iff_getElem?.mp h
     exact hF i o hi
    walk_at "w"
    try rw [tup_l]
    walk_at "w"
    obtain ⟨K, b, hT, eT⟩ := tightest_w (m := m7) w1 (by omega : os.length <= 7)
    rw [eT]; walk_at "w"
    have ea : aComp 1 (aIt (eVar 6)) (gN 7) tYesM (eFn gIsWhole (aCons (eVar 7) aNil)) [some (.scr (ns.map D.int)), some (.int (i : Nat)), some (.ob p), some d, some (.int w), some (.tup (os.map D.int)), some (.tup [.int K, .int b])] m7 = .ok (([K, b] : List Int).map fun _ => D.bl true) m7 :=
     aComp_en D.int (fun _ => D.bl true) rfl (by simp) fun o _ => ⟨_, rfl, by
      walk_at "w"
      rw [whole_i]⟩
    rw [isi_tt]; walk_at "w"; rw [if_neg (by decide), ea]; walk_at "w"; rw [show allF [.lst [.bl true, .bl true]] m7 = .ok (.bl true) m7 from all_trueM ([K, b] : List Int)]; walk_at "w"; rw [due_w hT w1 (by omega) ho]; walk_at "w"; rw [show (D.tup [.int ((K : Nat) : Int), .int b]) = .tup (([K, b] : List Int).map D.int) from rfl, ne_tup, decide_eq_true rfl]; walk_at "w"; exact Run.ok ⟨_, rfl, _, _, _, _, rfl, hp7⟩
  ·rintro _ m5 ⟨ρ, rfl, x3, x4, x5, x6, rfl, _⟩
   exact ⟨_, rfl, _, _, _, _, _, _, rfl⟩
 ·rintro _ m3 ⟨ρ, rfl, x1, x2, x3, x4, x5, x6, rfl⟩; walk_at "w"; refine Run.bind (pot2_run (k := 0) (by omega) hn) ?_; rintro _ m1 ⟨p, rfl, hp1⟩; walk_at "w"; refine Run.bind (draw_run hp1 (by decide) (by decide)) ?_; rintro _ m2 ⟨d1, rfl, a0, a1, hp2, _⟩; walk_at "w"
  obtain ⟨w, hw⟩ : ∃ w : Nat, 1 + d1 = w := ⟨(1 + d1).toNat, by omega⟩
  rw [hw]
  obtain ⟨K, b, hT, eT⟩ := tightest_w (w := w) (os := []) (m := m2) (by omega) (by simp)
  obtain ⟨rfl, rfl⟩ := tight_nil hT
  rw [List.map_nil] at eT
  rw [eT]; walk_at "w"
  have := eq_tup [0, 0] [0, 0] (m := m2)
  rw [show (D.tup [.int ((0 : Nat) : Int), .int 0]) = .tup (([0, 0] : List Int).map D.int) from rfl]; rw [show (D.tup [.int 0, .int 0]) = .tup (([0, 0] : List Int).map D.int) from rfl, this]; walk_at "w"
  exact Run.ok rfl
end MD
set_option autoImplicit false
namespace K07
open PySem PyProof.Rows L2 MD
structure Txt (mg : Str -> Option Value) : Prop where
 min : mg "min" = none
 range : mg "range" = none
 sorted : mg "sorted" = none
 int : mg "int" = none
 isi : mg "isinstance" = none
 all : mg "all" = none
 list : mg "list" = none
 set : mg "set" = none
 max : mg "max" = none
 len : mg "len" = none
 abs : mg "abs" = none
 bool : mg "bool" = none
 tuple : mg "tuple" = none
set_option maxHeartbeats 16000000
section
variable (P : Program) (w : World) {K : PySem.W.Frag} {mg : Str -> Option Value} (base : Heap) {cl : Str -> Addr} {f : Addr} {fd : FuncData}
theorem scWidthFor : FnScope ["many", "width", "room"] ["many"] (defScope sWidthFor) := sco
theorem ok_WidthFor (F : Fun K "width_for" "width_for" sWidthFor f fd) (b : Binds K fd ["many"] []) (m : mg "width_for" = some (.ref f)) (T : Txt mg) : FnX P w K mg base cl "width_for" 1 1 gWidthFor :=
 have h := mkx P w base cl 0 F b m scWidthFor fun cdv A outer s H E hr =>
  (qss_cons (qs_set (i := 1) scWidthFor.nd rfl (Or.inl rfl) qe_int)
  (qss_cons (qs_set (i := 2) scWidthFor.nd rfl (Or.inl rfl) qe_int)
  (qss_cons (qs_while (n := fuelW) PassesOwn.never (qt_cmp op_ltA od_lt (qe_var 2) (qe_var 0) (nomark _))
  (qss_cons (qs_set (i := 2) scWidthFor.nd rfl (Or.inl rfl) (qe_op op_mulA od_mul (qe_var 2) qe_int))
  (qss_one (qs_set (i := 1) scWidthFor.nd rfl (Or.inl rfl) (qe_op op_addA od_add (qe_var 1) qe_int)))))
  (qss_one (qs_ret (qe_var 1))))))
 h
theorem scRestOf : FnScope ["number", "width"] ["number", "width"] (defScope sRestOf) := sco
theorem ok_RestOf (F : Fun K "rest_of" "rest_of" sRestOf f fd) (b : Binds K fd ["number", "width"] []) (m : mg "rest_of" = some (.ref f)) (T : Txt mg) : FnX P w K mg base cl "rest_of" 1 2 gRestOf :=
 have h := mkx P w base cl 0 F b m scRestOf fun cdv A outer s H E hr =>
  (qss_one (qs_ret (qe_op op_mod od_mod (qe_var 0) (qe_op op_shl od_shl qe_int (qe_var 1)))))
 h
theorem scTightest : FnScope ["w", "offsets", "belows"] ["w", "offsets"] (defScope sTightest) := sco
theorem ok_Tightest (F : Fun K "tightest" "tightest" sTightest f fd) (b : Binds K fd ["w", "offsets"] []) (m : mg "tightest" = some (.ref f)) (T : Txt mg) (hRestOf : FnX P w K mg base cl "rest_of" 1 2 gRestOf) (hWidthWith : FnX P w K mg base cl "width_with" 2 3 gWidthWith) : FnX P w K mg base cl "tightest" 3 2 gTightest :=
 have h := mkx P w base cl 2 F b m scTightest fun cdv A outer s H E hr =>
  (qss_cons (qs_set (i := 2) scTightest.nd rfl (Or.inl rfl) (qe_op op_addA od_add (qe_lst (qa_cons qe_int qa_nil)) (qe_comp rfl rfl (N0 := ["w", "offsets", "belows"]) (xs := ["offset"]) ⟨(by with_unfolding_all rfl), rfl, rfl, rfl, (by repeat (first | exact trivial | refine ⟨rfl, ?_⟩)), rfl, .inl rfl⟩ (qi_seq (qe_var 1)) (fun _ _ _ _ => (qg_name (i := 3) (by decide +kernel : (["w", "offsets", "belows", "offset"] : List Str).Nodup) rfl (Or.inl rfl))) (fun _ _ _ _ => qif_nil) (fun _ _ _ _ => (qfn hRestOf hr (qa_cons (qe_un un_neg ud_neg (qe_var 3)) (qa_cons (qe_var 0) qa_nil)))))))
  (qss_one (qs_ret (qe_callB (call_minT rfl (hu_of hr)) fd_minT (by rfl) T.min boot_min (qa_cons (qe_comp rfl rfl (N0 := ["w", "offsets", "belows"]) (xs := ["below"]) ⟨(by with_unfolding_all rfl), rfl, rfl, rfl, (by repeat (first | exact trivial | refine ⟨rfl, ?_⟩)), rfl, .inl rfl⟩ (qi_seq (qe_var 2)) (fun _ _ _ _ => (qg_name (i := 3) (by decide +kernel : (["w", "offsets", "belows", "below"] : List Str).Nodup) rfl (Or.inl rfl))) (fun _ _ _ _ => qif_nil) (fun _ _ _ _ => (qe_tup (qa_cons (qfn hWidthWith hr (qa_cons (qe_var 0) (qa_cons (qe_var 1) (qa_cons (qe_var 3) qa_nil)))) (qa_cons (qe_var 3) qa_nil))))) qa_nil)))))
 h
theorem scWidthWith : FnScope ["w", "offsets", "below"] ["w", "offsets", "below"] (defScope sWidthWith) := sco
theorem ok_WidthWith (F : Fun K "width_with" "width_with" sWidthWith f fd) (b : Binds K fd ["w", "offsets", "below"] []) (m : mg "width_with" = some (.ref f)) (T : Txt mg) (hRestOf : FnX P w K mg base cl "rest_of" 1 2 gRestOf) (hWidthFor : FnX P w K mg base cl "width_for" 1 1 gWidthFor) : FnX P w K mg base cl "width_with" 2 3 gWidthWith :=
 have h := mkx P w base cl 1 F b m scWidthWith fun cdv A outer s H E hr =>
  (qss_one (qs_ret (qfn hWidthFor hr (qa_cons (qe_op op_addA od_add qe_int (qe_callB (call_maxL rfl) fd_maxL (by rfl) T.max boot_max (qa_cons (qe_op op_addA od_add (qe_lst (qa_cons (qe_var 2) qa_nil)) (qe_comp rfl rfl (N0 := ["w", "offsets", "below"]) (xs := ["offset"]) ⟨(by with_unfolding_all rfl), rfl, rfl, rfl, (by repeat (first | exact trivial | refine ⟨rfl, ?_⟩)), rfl, .inl rfl⟩ (qi_seq (qe_var 1)) (fun _ _ _ _ => (qg_name (i := 3) (by decide +kernel : (["w", "offsets", "below", "offset"] : List Str).Nodup) rfl (Or.inl rfl))) (fun _ _ _ _ => qif_nil) (fun _ _ _ _ => (qfn hRestOf hr (qa_cons (qe_op op_addA od_add (qe_var 3) (qe_var 2)) (qa_cons (qe_var 0) qa_nil)))))) qa_nil))) qa_nil))))
 h
theorem scLawPot : FnScope ["_law_script", "_law_k", "_law_cell", "_law_great"] ["_law_script", "_law_k"] (defScope sLawPot) := sco
theorem ok_LawPot (F : Fun K "_law_pot" "_law_pot" sLawPot f fd) (b : Binds K fd ["_law_script", "_law_k"] []) (m : mg "_law_pot" = some (.ref f)) (T : Txt mg) : FnX P w K mg base cl "_law_pot" 1 2 gLawPot2 :=
 have h := mkx P w base cl 0 F b m scLawPot fun cdv A outer s H E hr =>
  (qss_cons (qs_set (i := 2) scLawPot.nd rfl (Or.inl rfl) (qe_if (qt_cmp op_ltA od_lt (qe_var 1) (qe_callB call_lenA fd_len (by rfl) T.len PySem.boot_len (qa_cons (qe_var 0) qa_nil)) (nomark _)) (qe_ix (ix_A (hu_of hr)) od_ixS (qe_var 0) (qe_var 1) (fun _ _ => rfl)) (qe_op op_addA od_add (qe_callB call_lenA fd_len (by rfl) T.len PySem.boot_len (qa_cons (qe_var 0) qa_nil)) (qe_var 1))))
  (qss_cons (qs_set (i := 3) scLawPot.nd rfl (Or.inl rfl) (qe_op op_mulA od_mul (qe_op op_mod od_mod (qe_callB call_abs fd_abs (by rfl) T.abs boot_abs (qa_cons (qe_var 2) qa_nil)) (qe_callTy call_intA fd_int (by rfl) T.int boot_int (qa_cons (qe_op op_addA od_add qe_str (qe_op op_mulA od_mul qe_str qe_int)) qa_nil))) (qe_callTy call_intA fd_int (by rfl) T.int boot_int (qa_cons (qe_cmp op_ge od_ge (qe_callB call_abs fd_abs (by rfl) T.abs boot_abs (qa_cons (qe_var 2) qa_nil)) (qe_op op_pow od_pow qe_int qe_int) (nomark _)) qa_nil))))
  (qss_one (qs_ret (qe_newl (qa_cons (qe_var 3) (qa_cons (qe_op op_mod od_mod (qe_op op_mulA od_mul (qe_op op_addA od_add (qe_op op_addA od_add (qe_op op_mod od_mod (qe_var 2) qe_int) (qe_op op_mulA od_mul qe_int (qe_var 1))) qe_int) qe_int) qe_int) qa_nil)))))))
 h
theorem scLawDraw : FnScope ["_law_pot_here", "_law_many", "_law_digit", "_law_mixed"] ["_law_pot_here", "_law_many"] (defScope sLawDraw) := sco
theorem ok_LawDraw (F : Fun K "_law_draw" "_law_draw" sLawDraw f fd) (b : Binds K fd ["_law_pot_here", "_law_many"] []) (m : mg "_law_draw" = some (.ref f)) (T : Txt mg) : FnX P w K mg base cl "_law_draw" 1 2 gLawDraw :=
 have h := mkx P w base cl 0 F b m scLawDraw fun cdv A outer s H E hr =>
  (qss_cons (qs_if (qt_cmp op_gt od_gt (qxi hr (qe_var 0) qe_int) qe_int (nomark _))
  (qss_cons (qs_asg (qe_tup (qa_cons (qe_op op_fdivL od_fdiv (qxi hr (qe_var 0) qe_int) (qe_var 1)) (qa_cons (qe_op op_mod od_mod (qxi hr (qe_var 0) qe_int) (qe_var 1)) qa_nil))) (qg_tup (n := 2) rfl (qgs_cons (qg_item (qe_var 0) qe_int) (qgs_cons (qg_name (i := 2) scLawDraw.nd rfl (Or.inl rfl)) qgs_nil))))
  (qss_one (qs_ret (qe_var 2))))
  qss_nil)
  (qss_cons (qs_asg (qe_op op_mod od_mod (qe_op op_addA od_add (qe_op op_mulA od_mul (qxi hr (qe_var 0) qe_int) qe_int) qe_int) qe_int) (qg_item (qe_var 0) qe_int))
  (qss_cons (qs_set (i := 3) scLawDraw.nd rfl (Or.inl rfl) (qe_op op_fdivL od_fdiv (qxi hr (qe_var 0) qe_int) qe_int))
  (qss_one (qs_ret (qe_op op_mod od_mod (qe_op op_fdivL od_fdiv (qe_op op_mod od_mod (qe_op op_mulA od_mul (qe_var 3) (qe_var 3)) qe_int) qe_int) (qe_var 1)))))))
 h
theorem scLawValue : FnScope ["_law_pot_here", "_law_breadth", "_law_top", "_law_far", "_law_turn", "_law_some"] ["_law_pot_here", "_law_breadth"] (defScope sLawValue) := sco
theorem ok_LawValue (F : Fun K "_law_value" "_law_value" sLawValue f fd) (b : Binds K fd ["_law_pot_here", "_law_breadth"] []) (m : mg "_law_value" = some (.ref f)) (T : Txt mg) (hLawDraw : FnX P w K mg base cl "_law_draw" 1 2 gLawDraw) : FnX P w K mg base cl "_law_value" 2 2 gLawValue2 :=
 have h := mkx P w base cl 1 F b m scLawValue fun cdv A outer s H E hr =>
  (qss_cons (qs_set (i := 2) scLawValue.nd rfl (Or.inl rfl) (qe_op op_sub od_sub (qe_op op_shl od_shl qe_int (qe_var 1)) qe_int))
  (qss_cons (qs_set (i := 3) scLawValue.nd rfl (Or.inl rfl) qe_int)
  (qss_cons (qs_for PassesOwn.never rfl (qi_rng1 (by rfl) T.range (qa_cons qe_int qa_nil)) (qg_name (i := 4) scLawValue.nd rfl (Or.inl rfl))
  (qss_one (qs_set (i := 3) scLawValue.nd rfl (Or.inl rfl) (qe_op op_addA od_add (qe_op op_mulA od_mul (qe_var 3) (qe_op op_shl od_shl qe_int qe_int)) (qfn hLawDraw hr (qa_cons (qe_var 0) (qa_cons (qe_op op_shl od_shl qe_int qe_int) qa_nil)))))))
  (qss_cons (qs_set (i := 5) scLawValue.nd rfl (Or.inl rfl) (qe_lst (qa_cons qe_int (qa_cons (qe_var 2) (qa_cons (qe_op op_fdivL od_fdiv (qe_var 2) qe_int) (qa_cons (qe_callB (call_min2 rfl) fd_min2 (by rfl) T.min boot_min (qa_cons (qe_var 2) (qa_cons (qe_op op_addA od_add (qe_op op_fdivL od_fdiv (qe_var 2) qe_int) qe_int) qa_nil))) (qa_cons (qe_callB (call_min2 rfl) fd_min2 (by rfl) T.min boot_min (qa_cons (qe_var 2) (qa_cons (qfn hLawDraw hr (qa_cons (qe_var 0) (qa_cons qe_int qa_nil))) qa_nil))) (qa_cons (qe_op op_mod od_mod (qe_var 3) (qe_op op_addA od_add (qe_var 2) qe_int)) (qa_cons (qe_op op_mod od_mod (qe_var 3) (qe_op op_addA od_add (qe_var 2) qe_int)) qa_nil)))))))))
  (qss_one (qs_ret (qxi hr (qe_var 5) (qfn hLawDraw hr (qa_cons (qe_var 0) (qa_cons qe_int qa_nil))))))))))
 h
theorem scLawWhole : FnScope ["_law_thing"] ["_law_thing"] (defScope sLawWhole) := sco
theorem ok_LawWhole (F : Fun K "_law_whole" "_law_whole" sLawWhole f fd) (b : Binds K fd ["_law_thing"] []) (m : mg "_law_whole" = some (.ref f)) (T : Txt mg) : FnX P w K mg base cl "_law_whole" 1 1 gIsWhole :=
 have h := mkx P w base cl 0 F b m scLawWhole fun cdv A outer s H E hr =>
  (qss_one (qs_ret (qe_and (qe_isi (n := "int") (by decide) (by rfl) T.isi (by rfl) T.int boot_int (qe_var 0)) (qe_one (qe_not (qe_isi (n := "bool") (by decide) (by rfl) T.isi (by rfl) T.bool boot_bool (qe_var 0)))))))
 h
theorem scLawOffset : FnScope ["_law_pot_here", "_law_w", "_law_size", "_law_far", "_law_some"] ["_law_pot_here", "_law_w"] (defScope sLawOffset) := sco
theorem ok_LawOffset (F : Fun K "_law_offset" "_law_offset" sLawOffset f fd) (b : Binds K fd ["_law_pot_here", "_law_w"] []) (m : mg "_law_offset" = some (.ref f)) (T : Txt mg) (hLawDraw : FnX P w K mg base cl "_law_draw" 1 2 gLawDraw) (hLawValue : FnX P w K mg base cl "_law_value" 2 2 gLawValue2) : FnX P w K mg base cl "_law_offset" 3 2 gLawOffset :=
 have h := mkx P w base cl 2 F b m scLawOffset fun cdv A outer s H E hr =>
  (qss_cons (qs_set (i := 2) scLawOffset.nd rfl (Or.inl rfl) (qe_op op_shl od_shl qe_int (qe_var 1)))
  (qss_cons (qs_set (i := 3) scLawOffset.nd rfl (Or.inl rfl) (qe_op op_sub od_sub (qe_op op_addA od_add (qe_op op_shl od_shl qe_int (qfn hLawDraw hr (qa_cons (qe_var 0) (qa_cons (qe_var 1) qa_nil)))) (qfn hLawDraw hr (qa_cons (qe_var 0) (qa_cons qe_int qa_nil)))) qe_int))
  (qss_cons (qs_set (i := 4) scLawOffset.nd rfl (Or.inl rfl) (qe_lst (qa_cons qe_int (qa_cons (qfn hLawDraw hr (qa_cons (qe_var 0) (qa_cons qe_int qa_nil))) (qa_cons (qe_op op_sub od_sub qe_int (qfn hLawDraw hr (qa_cons (qe_var 0) (qa_cons qe_int qa_nil)))) (qa_cons (qe_var 3) (qa_cons (qe_op op_sub od_sub qe_int (qe_var 3)) (qa_cons (qfn hLawValue hr (qa_cons (qe_var 0) (qa_cons (qe_var 1) qa_nil))) qa_nil))))))))
  (qss_one (qs_ret (qe_op op_mod od_mod (qxi hr (qe_var 4) (qfn hLawDraw hr (qa_cons (qe_var 0) (qa_cons qe_int qa_nil)))) (qe_var 2)))))))
 h
theorem scLawIn : FnScope ["_law_w", "_law_offsets", "_law_width", "_law_below", "_law_power", "_law_size"] ["_law_w", "_law_offsets", "_law_width", "_law_below"] (defScope sLawIn) := sco
theorem ok_LawIn (F : Fun K "_law_in" "_law_in" sLawIn f fd) (b : Binds K fd ["_law_w", "_law_offsets", "_law_width", "_law_below"] []) (m : mg "_law_in" = some (.ref f)) (T : Txt mg) : FnX P w K mg base cl "_law_in" 1 4 gLawIn :=
 have h := mkx P w base cl 0 F b m scLawIn fun cdv A outer s H E hr =>
  (qss_cons (qs_asg (qe_tup (qa_cons (qe_op op_shl od_shl qe_int (qe_var 0)) (qa_cons (qe_op op_shl od_shl qe_int (qe_var 2)) qa_nil))) (qg_tup (n := 2) rfl (qgs_cons (qg_name (i := 4) scLawIn.nd rfl (Or.inr rfl)) (qgs_cons (qg_name (i := 5) scLawIn.nd rfl (Or.inr rfl)) qgs_nil))))
  (qss_one (qs_ret (qe_and (qe_cmp op_ltA od_lt (qe_var 3) (qe_var 5) (nomark _)) (qe_one (qe_callB (call_allB rfl) fd_all (by rfl) T.all boot_all (qa_cons (qe_comp rfl rfl (N0 := ["_law_w", "_law_offsets", "_law_width", "_law_below", "_law_power", "_law_size"]) (xs := ["_law_offset_here"]) ⟨(by with_unfolding_all rfl), rfl, rfl, rfl, (by repeat (first | exact trivial | refine ⟨rfl, ?_⟩)), rfl, .inl rfl⟩ (qi_seq (qe_var 1)) (fun _ _ _ _ => (qg_name (i := 6) (by decide +kernel : (["_law_w", "_law_offsets", "_law_width", "_law_below", "_law_power", "_law_size", "_law_offset_here"] : List Str).Nodup) rfl (Or.inl rfl))) (fun _ _ _ _ => qif_nil) (fun _ _ _ _ => (qe_cmp op_ltA od_lt (qe_op op_mod od_mod (qe_op op_addA od_add (qe_var 6) (qe_var 3)) (qe_var 4)) (qe_var 5) (nomark _)))) qa_nil)))))))
 h
theorem scLawBelows : FnScope ["_law_w", "_law_offsets"] ["_law_w", "_law_offsets"] (defScope sLawBelows) := sco
theorem ok_LawBelows (F : Fun K "_law_belows" "_law_belows" sLawBelows f fd) (b : Binds K fd ["_law_w", "_law_offsets"] []) (m : mg "_law_belows" = some (.ref f)) (T : Txt mg) : FnX P w K mg base cl "_law_belows" 1 2 gLawBelows :=
 have h := mkx P w base cl 0 F b m scLawBelows fun cdv A outer s H E hr =>
  (qss_cons (qs_if (qt_cmp op_ltA od_lt (qe_var 0) qe_int (nomark _))
  (qss_one (qs_ret (qe_lstR rfl (by rfl) T.list (by rfl) T.range (qa_cons (qe_op op_shl od_shl qe_int (qe_var 0)) qa_nil))))
  qss_nil)
  (qss_one (qs_ret (qe_sortS rfl (qe_op op_addA od_add (qe_lst (qa_cons qe_int qa_nil)) (qe_comp rfl rfl (N0 := ["_law_w", "_law_offsets"]) (xs := ["_law_offset_here"]) ⟨(by with_unfolding_all rfl), rfl, rfl, rfl, (by repeat (first | exact trivial | refine ⟨rfl, ?_⟩)), rfl, .inl rfl⟩ (qi_seq (qe_var 1)) (fun _ _ _ _ => (qg_name (i := 2) (by decide +kernel : (["_law_w", "_law_offsets", "_law_offset_here"] : List Str).Nodup) rfl (Or.inl rfl))) (fun _ _ _ _ => qif_nil) (fun _ _ _ _ => (qe_op op_mod od_mod (qe_op op_sub od_sub qe_int (qe_var 2)) (qe_op op_shl od_shl qe_int (qe_var 0)))))) (by rfl) T.sorted boot_sorted (by rfl) T.set PyProof.Rows.boot_set))))
 h
theorem scLawDue : FnScope ["_law_w", "_law_offsets", "_law_width", "_law_some"] ["_law_w", "_law_offsets"] (defScope sLawDue) := sco
theorem ok_LawDue (F : Fun K "_law_due" "_law_due" sLawDue f fd) (b : Binds K fd ["_law_w", "_law_offsets"] []) (m : mg "_law_due" = some (.ref f)) (T : Txt mg) (hLawBelows : FnX P w K mg base cl "_law_belows" 1 2 gLawBelows) (hLawIn : FnX P w K mg base cl "_law_in" 1 4 gLawIn) : FnX P w K mg base cl "_law_due" 2 2 gLawDue9 :=
 have h := mkx P w base cl 1 F b m scLawDue fun cdv A outer s H E hr =>
  (qss_cons (qs_for PassesOwn.never rfl (qi_rng1 (by rfl) T.range (qa_cons (qe_op op_addA od_add (qe_var 0) qe_int) qa_nil)) (qg_name (i := 2) scLawDue.nd rfl (Or.inr rfl))
  (qss_cons (qs_setC (i := 3) rfl rfl scLawDue.nd rfl rfl (N0 := ["_law_w", "_law_offsets", "_law_width", "_law_some"]) (xs := ["_law_below"]) ⟨(by with_unfolding_all rfl), rfl, rfl, rfl, (by repeat (first | exact trivial | refine ⟨rfl, ?_⟩)), rfl, .inl rfl⟩ (qi_seq (qfn hLawBelows hr (qa_cons (qe_var 0) (qa_cons (qe_var 1) qa_nil)))) (fun _ _ _ _ => (qg_name (i := 4) (by decide +kernel : (["_law_w", "_law_offsets", "_law_width", "_law_some", "_law_below"] : List Str).Nodup) rfl (Or.inl rfl))) (fun _ _ _ _ => (qif_one (qt_val (qfn hLawIn hr (qa_cons (qe_var 0) (qa_cons (qe_var 1) (qa_cons (qe_var 2) (qa_cons (qe_var 4) qa_nil)))))))) (fun _ _ _ _ => (qe_var 4)))
  (qss_one (qs_if (qt_cmp (op_neA hr.units) od_ne (qe_var 3) (qe_lst qa_nil) (nomark _))
  (qss_one (qs_ret (qe_tup (qa_cons (qe_var 2) (qa_cons (qxi hr (qe_var 3) qe_int) qa_nil)))))
  qss_nil))))
  (qss_one (qs_ret qe_non)))
 h
theorem scLaw : FnScope ["_law_script", "_law_k", "_law_pot_here", "_law_turn", "_law_w", "_law_offsets", "_law_found"] ["_law_script"] (defScope sLaw) := sco
theorem ok_Law (F : Fun K "law" "law" sLaw f fd) (b : Binds K fd ["_law_script"] []) (m : mg "law" = some (.ref f)) (T : Txt mg) (hLawDraw : FnX P w K mg base cl "_law_draw" 1 2 gLawDraw) (hLawDue : FnX P w K mg base cl "_law_due" 2 2 gLawDue9) (hLawOffset : FnX P w K mg base cl "_law_offset" 3 2 gLawOffset) (hLawPot : FnX P w K mg base cl "_law_pot" 1 2 gLawPot2) (hLawWhole : FnX P w K mg base cl "_law_whole" 1 1 gIsWhole) (hTightest : FnX P w K mg base cl "tightest" 3 2 gTightest) : FnOk P w K mg base CX0 4 f fd ["_law_script"] (spD K cl X0 1 gLaw31) :=
 have h := fnO (P := P) (w := w) (mg := mg) (base := base) (cl := cl) (k := 3) F scLaw rfl fun cdv A outer s H E hr =>
  (qss_cons (qs_for PassesOwn.never rfl (qi_rng1 (by rfl) T.range (qa_cons (qe_op op_addA od_add qe_int (qe_callB (call_min2 rfl) fd_min2 (by rfl) T.min boot_min (qa_cons qe_int (qa_cons (qe_callB call_lenA fd_len (by rfl) T.len PySem.boot_len (qa_cons (qe_var 0) qa_nil)) qa_nil)))) qa_nil)) (qg_name (i := 1) scLaw.nd rfl (Or.inl rfl))
  (qss_cons (qs_set (i := 2) scLaw.nd rfl (Or.inr rfl) (qfn hLawPot hr (qa_cons (qe_var 0) (qa_cons (qe_var 1) qa_nil))))
  (qss_one (qs_for PassesOwn.never rfl (qi_rng1 (by rfl) T.range (qa_cons qe_int qa_nil)) (qg_name (i := 3) scLaw.nd rfl (Or.inl rfl))
  (qss_cons (qs_set (i := 4) scLaw.nd rfl (Or.inr rfl) (qxi hr (qe_lst (qa_cons qe_int (qa_cons qe_int (qa_cons (qe_op op_addA od_add qe_int (qfn hLawDraw hr (qa_cons (qe_var 2) (qa_cons qe_int qa_nil)))) (qa_cons (qe_op op_addA od_add qe_int (qfn hLawDraw hr (qa_cons (qe_var 2) (qa_cons qe_int qa_nil)))) (qa_cons qe_int qa_nil)))))) (qfn hLawDraw hr (qa_cons (qe_var 2) (qa_cons qe_int qa_nil)))))
  (qss_cons (qs_set (i := 5) scLaw.nd rfl (Or.inl rfl) (qe_callTy (call_tupA rfl) fd_tup (by rfl) T.tuple boot_tuple (qa_cons (qe_comp rfl rfl (N0 := ["_law_script", "_law_k", "_law_pot_here", "_law_turn", "_law_w", "_law_offsets", "_law_found"]) (xs := ["_law_j"]) ⟨(by with_unfolding_all rfl), rfl, rfl, rfl, (by repeat (first | exact trivial | refine ⟨rfl, ?_⟩)), rfl, .inl rfl⟩ (qi_rng1 (by rfl) T.range (qa_cons (qfn hLawDraw hr (qa_cons (qe_var 2) (qa_cons qe_int qa_nil))) qa_nil)) (fun _ _ _ _ => (qg_name (i := 7) (by decide +kernel : (["_law_script", "_law_k", "_law_pot_here", "_law_turn", "_law_w", "_law_offsets", "_law_found", "_law_j"] : List Str).Nodup) rfl (Or.inl rfl))) (fun _ _ _ _ => qif_nil) (fun _ _ _ _ => (qfn hLawOffset hr (qa_cons (qe_var 2) (qa_cons (qe_var 4) qa_nil))))) qa_nil)))
  (qss_cons (qs_set (i := 6) scLaw.nd rfl (Or.inl rfl) (qfn hTightest hr (qa_cons (qe_var 4) (qa_cons (qe_var 5) qa_nil))))
  (qss_cons (qs_if (qt_bool (qw_or (qt_not (qt_val (qe_isi (n := "tuple") (by decide) (by rfl) T.isi (by rfl) T.tuple boot_tuple (qe_var 6)))) (qw_or (qt_cmp (op_neA hr.units) od_ne (qe_callB call_lenA fd_len (by rfl) T.len PySem.boot_len (qa_cons (qe_var 6) qa_nil)) qe_int (nomark _)) (qw_or1 (qt_not (qt_val (qe_callB (call_allB rfl) fd_all (by rfl) T.all boot_all (qa_cons (qe_comp rfl rfl (N0 := ["_law_script", "_law_k", "_law_pot_here", "_law_turn", "_law_w", "_law_offsets", "_law_found"]) (xs := ["_law_one"]) ⟨(by with_unfolding_all rfl), rfl, rfl, rfl, (by repeat (first | exact trivial | refine ⟨rfl, ?_⟩)), rfl, .inl rfl⟩ (qi_seq (qe_var 6)) (fun _ _ _ _ => (qg_name (i := 7) (by decide +kernel : (["_law_script", "_law_k", "_law_pot_here", "_law_turn", "_law_w", "_law_offsets", "_law_found", "_law_one"] : List Str).Nodup) rfl (Or.inl rfl))) (fun _ _ _ _ => qif_nil) (fun _ _ _ _ => (qfn hLawWhole hr (qa_cons (qe_var 7) qa_nil)))) qa_nil))))))))
  (qss_one (qs_ret qe_bl))
  qss_nil)
  (qss_one (qs_if (qt_cmp (op_neA hr.units) od_ne (qe_var 6) (qfn hLawDue hr (qa_cons (qe_var 4) (qa_cons (qe_var 5) qa_nil))) (nomark _))
  (qss_one (qs_ret qe_bl))
  qss_nil))))))))))
  (qss_one (qs_ret (qe_cmp (op_eqA hr.units) od_eq (qfn hTightest hr (qa_cons (qe_op op_addA od_add qe_int (qfn hLawDraw hr (qa_cons (qfn hLawPot hr (qa_cons (qe_var 0) (qa_cons qe_int qa_nil))) (qa_cons qe_int qa_nil)))) (qa_cons (qe_tup qa_nil) qa_nil))) (qe_tup (qa_cons qe_int (qa_cons qe_int qa_nil))) (nomark _)))))
 h
end
end K07
set_option autoImplicit false
namespace K07
open PySem L2 MD
theorem law_worth {ns : List Int} (h : ns.length <= 63) : ∃ a m, gLaw31 [.scr (ns.map D.int)] [] = .ok a m /\ a = .bl true := law_worth07 h
end K07
set_option autoImplicit false
namespace K07
open PySem PyProof.Rows L2 MD PySem.W.Fast
theorem trH {α β : Type} {f f' g g' : α -> β} (a : f = f') (c : g = g') {w : α} (b : f' w = g' w) : f w = g w := by rw [a, c]; exact b
theorem hl : PySem.W.LeftO pw vw [] xt (fun s => obs (Kof 94 s.heap)) (fun _ => expd) 934 := fun w => both (trH te5072060768149308278 te2456663818159567807 (hlq0 w)) (both3 (fun _ => rfl) (fun _ => rfl) (trH te2578623601498417369 te8791455421210971931 (hlq1 w)) (joinH (trH te13368008040644787056 te1390505059672817567 (hlq3 w)) (trH te15314997930359613257 te16743649689066462648 (hlq4 w))))
def c0 : Str -> Addr := fun _ => 0
theorem all_mk {l : PySem.W.OpenLaw} {w : World} {K : PySem.W.Frag} {h : Heap} {mg : Str -> Option Value} {fa : Addr} (y : obs K = expd) (X : K.In h) (G : h.Ns mainGlobals mg) (hfa : mg "law" = some (.ref fa)) :
  ∃ fd : FuncData, (∀ (s : Shared) (v : Value), BindsTo s fd ⟨[v], []⟩ [("_law_script", v)]) /\ ∀ base : Heap, K.In base -> base.Ns mainGlobals mg -> FnOk l.prog w K mg base CX0 4 fa fd ["_law_script"] (spLaw K) := by
 have y1 : nms.map (PySem.W.nsIn K mainGlobals) = nmsE := congrArg (fun x => x.1) y
 have y2 : fnd.map (fun p => PySem.W.findIn K (.ref p.1) p.2) = fndE := congrArg (fun x => x.2.1) y
 have y3 : fns.map (fnV K) = fnsE := congrArg (fun x => x.2.2.1) y
 have y4 : bls K = blsE := congrArg (fun x => x.2.2.2) y
 have n : ∀ (i : Nat) {x : Str} {v : Value}, nms[i]? = some x -> nmsE[i]? = some (some (some v)) -> mg x = some v := fun i _ _ a b => PySem.W.mg_of X G (pick y1 i a b)
 have o : ∀ (i : Nat) {x : Str}, nms[i]? = some x -> nmsE[i]? = some (some none) -> mg x = none := fun i _ a b => PySem.W.mg_none_of X G (pick y1 i a b)
 have u : ∀ (st : Stmt) (i : Nat) {a : Addr} {x q : Str}, fns[i]? = some a -> fnsE[i]? = some (fnE x q st) -> ∃ fd, Fun K x q st a fd := fun st i _ _ _ a b => fun_of (st := st) (pick y3 i a b)
 have e := hfa.symm.trans (n 12 rfl rfl)
 cases e
 have T : Txt mg := ⟨o 13 rfl rfl, o 14 rfl rfl, o 15 rfl rfl, o 16 rfl rfl, o 17 rfl rfl, o 18 rfl rfl, o 19 rfl rfl, o 20 rfl rfl, o 21 rfl rfl, o 22 rfl rfl, o 23 rfl rfl, o 24 rfl rfl, o 25 rfl rfl⟩
 have ⟨_, F12⟩ := u sLaw 12 rfl rfl
 have Fx := F12
 obtain ⟨oc, od, kV, doc, pm, an, cdv, ct, osl, rfl, lk, hcd⟩ := Fx.ex
 refine ⟨PySem.W.fnOf "law" "law" (defArgs sLaw) (defBody sLaw) (defScope sLaw) .none kV doc pm an cdv ct, fun s v => .of_eq rfl, fun base _ _ => ?_⟩
 have ⟨_, F5⟩ := u sLawDraw 5 rfl rfl
 have g5 := ok_LawDraw l.prog w base (cl := c0) F5 F5.bindA (n 5 rfl rfl) T
 have ⟨_, F10⟩ := u sLawBelows 10 rfl rfl
 have g10 := ok_LawBelows l.prog w base (cl := c0) F10 F10.bindA (n 10 rfl rfl) T
 have ⟨_, F9⟩ := u sLawIn 9 rfl rfl
 have g9 := ok_LawIn l.prog w base (cl := c0) F9 F9.bindA (n 9 rfl rfl) T
 have ⟨_, F11⟩ := u sLawDue 11 rfl rfl
 have g11 := ok_LawDue l.prog w base (cl := c0) F11 F11.bindA (n 11 rfl rfl) T g10 g9
 have ⟨_, F6⟩ := u sLawValue 6 rfl rfl
 have g6 := ok_LawValue l.prog w base (cl := c0) F6 F6.bindA (n 6 rfl rfl) T g5
 have ⟨_, F8⟩ := u sLawOffset 8 rfl rfl
 have g8 := ok_LawOffset l.prog w base (cl := c0) F8 F8.bindA (n 8 rfl rfl) T g5 g6
 have ⟨_, F4⟩ := u sLawPot 4 rfl rfl
 have g4 := ok_LawPot l.prog w base (cl := c0) F4 F4.bindA (n 4 rfl rfl) T
 have ⟨_, F7⟩ := u sLawWhole 7 rfl rfl
 have g7 := ok_LawWhole l.prog w base (cl := c0) F7 F7.bindA (n 7 rfl rfl) T
 have ⟨_, F1⟩ := u sRestOf 1 rfl rfl
 have g1 := ok_RestOf l.prog w base (cl := c0) F1 F1.bindA (n 1 rfl rfl) T
 have ⟨_, F0⟩ := u sWidthFor 0 rfl rfl
 have g0 := ok_WidthFor l.prog w base (cl := c0) F0 F0.bindA (n 0 rfl rfl) T
 have ⟨_, F3⟩ := u sWidthWith 3 rfl rfl
 have g3 := ok_WidthWith l.prog w base (cl := c0) F3 F3.bindA (n 3 rfl rfl) T g1 g0
 have ⟨_, F2⟩ := u sTightest 2 rfl rfl
 have g2 := ok_Tightest l.prog w base (cl := c0) F2 F2.bindA (n 2 rfl rfl) T g1 g3
 have g12 := ok_Law l.prog w base (cl := c0) F12 F12.bindA (n 12 rfl rfl) T g5 g11 g8 g4 g7 g2
 exact MD.law_fn g12 fun _ h => law_worth h
end K07
open PySem PySem.W PyProof.Rows
set_option maxRecDepth 100000 in
theorem PySem.Challenge.cw_shorthead_k07_tightest_holds : PySem.Challenge.rw_shorthead_k07_tightest.Holds := by
 w_on; o_law
 refine PySem.W.holds_openX (q := K07.vw) (loose := []) (Xt := K07.xt) (XP := PySem.W.XL K07.vw []) (Yf := fun s => K07.obs (MD.Kof 94 s.heap)) (Ya := fun _ => K07.expd) (N := 934) K07.hl (fun s e => PySem.W.xl_of s (Bool.and_eq_true_iff.mp e).1) PySem.W.XL.keeps (by rfl) (by rfl) (by rfl) (fun s e => PySem.W.recFacts_of (Bool.and_eq_true_iff.mp e).2) (by rfl) (by first | assumption | decide +kernel) (by decide +kernel) ⟨rfl, rfl, rfl, rfl, rfl, by decide +kernel⟩ ?hw ?hc
 case hw => w_witness2
 case hc => exact MD.walk_ofY (l := PySem.Challenge.rw_shorthead_k07_tightest) (n := 63) (k := 4) (x := "_law_script") (CX := L2.CX0) (sp := MD.spLaw) rfl (by decide) rfl ⟨rfl, by decide, by decide, rfl⟩ (fun K y w mg fa h X G hmg => K07.all_mk y X G hmg) (fun _ _ a ns hl _ hS => ⟨a, ns, rfl, hS, hl, fun _ => rfl⟩) fun _ _ _ _ z => z
