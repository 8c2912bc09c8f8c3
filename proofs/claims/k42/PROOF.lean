import PyProof.Rows.All
import Wide.All
import OpenK.AllK
import Wide.FinOn
import Lean
import PyProof.EqAt
import PyProof.EqKinds
import PyProof.TupleCall
import KE.KTab
import PyProof.ListRange
import KE.KTryMore
import PyProof.DictUpdate
import PySem.Challenge.RW_knownholds_k42_whole_ways_to_uses
set_option Elab.async false
set_option linter.all false
set_option maxRecDepth 100000
namespace L2
open PySem PySem.Spec PyProof.Rows
/-- a key: an int or a str -/
abbrev Key := Sum Int Str
def keyIs : Key → Value → Bool
 | .inl k, v => Value.isInt k v
 | .inr x, v => Value.isStrOf x v
def keyH (w : World) : Key → Int
 | .inl k => hashInt k
 | .inr x => hashStr w x
theorem keyIs_shape : ∀ {k : Key} {v : Value}, keyIs k v = true → (∃ i t, k = Sum.inl i ∧ v = Value.int i t) ∨ (∃ x t, k = Sum.inr x ∧ v = Value.str x t)
 | .inl i, v, h => by
  obtain ⟨t, e⟩ := Value.isInt_shape (k := i) (v := v) h
  exact .inl ⟨i, t, rfl, e⟩
 | .inr x, v, h => by
  obtain ⟨t, e⟩ := Value.isStrOf_shape (x := x) (v := v) h
  exact .inr ⟨x, t, rfl, e⟩
theorem zfY (i : Int) (t : Tok) : keyIs (.inl i) (.int i t) = true := by simp [keyIs, Value.isInt]
theorem zfj (x : Str) (t : Tok) : keyIs (.inr x) (.str x t) = true := by simp [keyIs, Value.isStrOf]
theorem zir (a b : Int) : decide ((Sum.inl a : Key) = Sum.inl b) = (a == b) := by
 by_cases e : a = b
 ·subst e; simp
 ·have h : ¬ (Sum.inl a : Key) = Sum.inl b := fun q => e (Sum.inl.inj q)
  rw [decide_eq_false h]
  exact (beq_eq_false_iff_ne.mpr e).symm
theorem ziQ (a b : Str) : decide ((Sum.inr a : Key) = Sum.inr b) = decide (a = b) := by
 by_cases e : a = b
 ·subst e; simp
 ·have h : ¬ (Sum.inr a : Key) = Sum.inr b := fun q => e (Sum.inr.inj q)
  rw [decide_eq_false h, decide_eq_false e]
theorem ziF (a : Int) (b : Str) : decide ((Sum.inl a : Key) = Sum.inr b) = false := decide_eq_false (fun q => nomatch q)
theorem zih (a : Str) (b : Int) : decide ((Sum.inr a : Key) = Sum.inl b) = false := decide_eq_false (fun q => nomatch q)
def zai (prog : Program) (w : World) : PySem.KeyKind prog w Key where
 is := keyIs
 hash := keyH w
 inj := fun v a b ha hb => by
  rcases keyIs_shape ha with ⟨i, t, rfl, rfl⟩ | ⟨x, t, rfl, rfl⟩
  ·rcases keyIs_shape hb with ⟨j, u, rfl, e⟩ | ⟨y, u, rfl, e⟩
   ·injection e with e1 _; rw [e1]
   ·exact nomatch e
  ·rcases keyIs_shape hb with ⟨j, u, rfl, e⟩ | ⟨y, u, rfl, e⟩
   ·exact nomatch e
   ·injection e with e1 _; rw [e1]
 byValue := fun k v h => by
  rcases keyIs_shape h with ⟨i, t, rfl, rfl⟩ | ⟨x, t, rfl, rfl⟩ <;> rfl
 pyHash := fun hv h => by
  rcases keyIs_shape hv with ⟨i, t, rfl, rfl⟩ | ⟨x, t, rfl, rfl⟩
  ·exact wpAny_pyHash_int h
  ·exact wpAny_pyHash_str h
 eqBool := fun hu hv h => by
  rcases keyIs_shape hu with ⟨i, t, rfl, rfl⟩ | ⟨x, t, rfl, rfl⟩
  ·rcases keyIs_shape hv with ⟨j, u, rfl, rfl⟩ | ⟨y, u, rfl, rfl⟩
   ·rw [zir] at h; exact wpAny_eqBool_int h
   ·rw [ziF] at h; exact SeqAt.EqAt.int_str i t y u _ _ _ _ h
  ·rcases keyIs_shape hv with ⟨j, u, rfl, rfl⟩ | ⟨y, u, rfl, rfl⟩
   ·rw [zih] at h; exact SeqAt.EqAt.str_int x t j u _ _ _ _ h
   ·rw [ziQ] at h; exact wpAny_eqBool_str h
 «strs» := fun k x t v h => by
  rcases keyIs_shape h with ⟨i, u, rfl, e⟩ | ⟨y, u, rfl, e⟩
  ·exact nomatch e
  ·injection e with e1 _
   subst e1
   cases v <;> rfl
theorem zd1 (prog : Program) (w : World) (i : Int) (t : Tok) : (zai prog w).is (.inl i) (.int i t) = true := zfY i t
theorem zdY (prog : Program) (w : World) (x : Str) (t : Tok) : (zai prog w).is (.inr x) (.str x t) = true := zfj x t
end L2
namespace L2
open PySem PySem.Spec PyProof.Rows
/-- a value, without the heap -/
inductive V where
 | non | bl (b : Bool) | int (i : Int) | str (x : Str) | byt (b : Array UInt8) | flt (b : UInt64) | ref (a : Addr) | ty (n : String)
 deriving DecidableEq
def RelV : V → Value → Prop
 | .non, u => u = Value.none
 | .bl b, u => u = Value.bool b
 | .int i, u => ∃ t, u = Value.int i t
 | .str x, u => ∃ t, u = Value.str x t
 | .byt b, u => ∃ t, u = Value.bytes b t
 | .flt b, u => ∃ t, u = Value.float b t
 | .ref a, u => u = Value.ref a
 | .ty n, u => u = Value.type n
abbrev Vals : List V → List Value → Prop := Paired RelV
theorem Vals.length {xs : List V} {us : List Value} (r : Vals xs us) : xs.length = us.length := Paired.length r
theorem Vals.get : ∀ {xs : List V} {us : List Value} {i : Nat} {x : V}, Vals xs us → xs[i]? = some x → ∃ u, us[i]? = some u ∧ RelV x u
 | _, _, _, _, .nil, e => by simp at e
 | _, _, 0, _, .cons r _, e => by simp at e; subst e; exact ⟨_, rfl, r⟩
 | _, _, i + 1, x, .cons _ t, e => by
  obtain ⟨u, h1, h2⟩ := Vals.get (i := i) (x := x) t (by simpa using e)
  exact ⟨u, by simpa using h1, h2⟩
theorem Vals.set {x : V} {u : Value} (r : RelV x u) : ∀ {xs : List V} {us : List Value} (i : Nat), Vals xs us → Vals (xs.set i x) (us.set i u)
 | _, _, _, .nil => .nil
 | _, _, 0, .cons _ t => .cons r t
 | _, _, i + 1, .cons q t => .cons q (Vals.set r i t)
theorem Vals.append : ∀ {xs ys : List V} {us ws : List Value}, Vals xs us → Vals ys ws → Vals (xs ++ ys) (us ++ ws)
 | _, _, _, _, .nil, s => s
 | _, _, _, _, .cons r t, s => .cons r (Vals.append t s)
theorem Vals.take : ∀ {xs : List V} {us : List Value} (n : Nat), Vals xs us → Vals (xs.take n) (us.take n)
 | _, _, 0, _ => .nil
 | _, _, _ + 1, .nil => .nil
 | _, _, n + 1, .cons r t => .cons r (Vals.take n t)
theorem Vals.drop : ∀ {xs : List V} {us : List Value} (n : Nat), Vals xs us → Vals (xs.drop n) (us.drop n)
 | _, _, 0, r => r
 | _, _, _ + 1, .nil => .nil
 | _, _, n + 1, .cons _ t => Vals.drop n t
def RelO : Option V → Option Value → Prop
 | some v, some u => RelV v u
 | none, none => True
 | _, _ => False
def KV {κ : Type} : List (κ × V) → List (κ × Value) → Prop := Paired fun (p : κ × V) (q : κ × Value) => p.1 = q.1 ∧ RelV p.2 q.2
/-- a key of a dict (00_mix): an int or a text -/
def kV : Key → V
 | .inl i => .int i
 | .inr x => .str x
/-- what stands at a tracked address -/
inductive HO where
 /-- a list -/
 | lst (xs : List V)
 /-- a tuple (never changes) -/
 | tup (xs : List V)
 /-- a dict whose keys are ints and texts; one whose keys are tuples of ints and texts (the empty one is both) -/
 | dK (kvs : List (Key × V)) | dT (kvs : List (List Key × V))
 /-- a set of ints: its members, its size -/
 | set (S : Int → Bool) (n : Nat)
 /-- an instance of the class at C, its dict at dx, its attributes -/
 | ins (C dx : Addr) (fs : List (Str × V))
 /-- the dict of the instance at x -/
 | own (x : Addr)
 /-- the dict of an exception -/
 | xd (fs : List (Str × V))
 /-- a bound method, f of x -/
 | met (f x : Addr)
 /-- a range object lo, lo + 1, .. below hi -/
 | rng (lo hi : Int)
 /-- a thing that is known to the object (the script; a dict while a loop walks it): read, never written while it is so -/
 | frz (o : Obj) (u : HO)
 /-- a code object's table -/
 | tbl (ps : Array Value)
 /-- any other thing, by what is true of its one object (a def of one's own: SetO a S n := HO.ext fun h => ..) -/
 | ext (φ : Heap → Prop)
abbrev Hp := Addr → Option HO
def upd (H : Hp) (a : Addr) (o : HO) : Hp := fun b => if b = a then some o else H b
theorem zaa {H : Hp} {a : Addr} {o : HO} : upd H a o a = some o := by unfold upd; rw [if_pos rfl]
theorem zaj {H : Hp} {a b : Addr} {o : HO} (h : b ≠ a) : upd H a o b = H b := by unfold upd; rw [if_neg h]
theorem zcf {H : Hp} {a : Addr} {o u : HO} : upd (upd H a o) a u = upd H a u := by
 funext b; unfold upd; split <;> rfl
/-- two objects of different content stand apart -/
theorem ziq {H : Hp} {a b : Addr} {o u : HO} (h : H a = some o) (h' : H b = some u) (d : o ≠ u) : a ≠ b := by
 intro e; subst e; rw [h] at h'; exact d (Option.some.inj h')
theorem zaw {H : Hp} {a b : Addr} {o : HO} (h : H a = some o) (h' : H b = none) : a ≠ b := by
 intro e; subst e; rw [h] at h'; cases h'
section
variable (P : Program) (w : World)
def zaT (H : Hp) (h : Heap) (a : Addr) : HO → Prop
 | .lst xs => xs.length ≤ sizeLine ∧ ∃ (its : List Value) (n : Nat), Vals xs its ∧ h.get? a = some { cls := .type "list", data := .seq its.toArray n }
 | .tup xs => xs.length ≤ sizeLine ∧ ∃ its : List Value, Vals xs its ∧ IsTup h a its.toArray
 | .dK kvs => kvs.length ≤ sizeLine ∧ (a == sysModules) = false ∧ ∃ vs, KV kvs vs ∧ h.DictOf (zai P w) a vs
 | .dT kvs => kvs.length ≤ sizeLine ∧ (a == sysModules) = false ∧ ∃ xs : List (List Key × Addr × Value),
   Paired (fun (p : List Key × V) (q : List Key × Addr × Value) => p.1 = q.1 ∧ H q.2.1 = some (.tup (p.1.map kV)) ∧ RelV p.2 q.2.2) kvs xs ∧
   ∃ o es ep, h.get? a = some o ∧ o.ExactDict ∧ o.data = .dict es ep ∧ es.toList = xs.map (entryOfKey (tupleKind (zai P w))) ∧ (xs.map (·.1)).Nodup
 | .set S n => h.SetOf (intKind P w) a S n
 | .ins C dx fs => H dx = some (.own a) ∧ fs.length ≤ 1000 ∧ dx ≠ a ∧ h.get? a = some (PySem.W.instObj C dx) ∧
   ∃ mA, h.Ns1 dx mA ∧ (∀ f, RelO (fs.lookup f) (mA f)) ∧ PySem.Within mA (fs.map (·.1))
 | .own _ => ∃ o, h.get? a = some o
 | .xd fs => ∃ mA, h.Ns1 a mA ∧ ∀ f, RelO (fs.lookup f) (mA f)
 | .rng lo hi => ∃ t u v, h.get? a = some { cls := .type "range", data := .fields #[.int lo t, .int hi u, .int 1 v] }
 | .frz o u => h.get? a = some o ∧ zaT H h a u
 | .tbl ps => h.get? a = some { cls := .none, data := .fields ps }
 | .met f x => h.get? a = some (PySem.W.methodObj (.ref f) (.ref x))
 | .ext φ => φ h ∧ (∃ o, h.get? a = some o) ∧ ∀ h1 h2 : Heap, φ h1 → (∀ o, h1.get? a = some o → h2.get? a = some o) → φ h2
/-- the abstract heap is held -/
def HOk (H : Hp) (h : Heap) : Prop := ∀ a o, H a = some o → zaT P w H h a o
end
section
variable {P : Program} {w : World} {H H' : Hp} {h h' : Heap} {a : Addr} {o : HO}
theorem zaT.lt (x : zaT P w H h a o) : a < h.objs.size := by
 cases o with
 | lst xs => obtain ⟨_, _, _, _, e⟩ := x; exact Heap.lt_size e
 | tup xs => obtain ⟨_, _, _, p⟩ := x; exact p.lt
 | dK kvs => obtain ⟨_, _, _, _, o, _, _, e, _⟩ := x; exact Heap.lt_size e
 | dT kvs => obtain ⟨_, _, _, _, o, _, _, e, _⟩ := x; exact Heap.lt_size e
 | set S n => obtain ⟨o, _, _, _, e, _⟩ := x; exact Heap.lt_size e
 | ins C dx fs => obtain ⟨_, _, _, e, _⟩ := x; exact Heap.lt_size e
 | own y => obtain ⟨_, e⟩ := x; exact Heap.lt_size e
 | xd fs => obtain ⟨_, ⟨_, _, _, e, _⟩, _⟩ := x; exact Heap.lt_size e
 | rng lo hi => obtain ⟨_, _, _, e⟩ := x; exact Heap.lt_size e
 | frz ob u => obtain ⟨e, _⟩ := x; exact Heap.lt_size e
 | tbl ps => exact Heap.lt_size (show h.get? a = some _ from x)
 | met f y => exact Heap.lt_size (show h.get? a = some _ from x)
 | ext φ => obtain ⟨_, ⟨_, e⟩, _⟩ := x; exact Heap.lt_size e
theorem Paired.mapP {α β : Type} {F G : α → β → Prop} : ∀ {l₁ : List α} {l₂ : List β}, Paired F l₁ l₂ → (∀ a b, F a b → G a b) → Paired G l₁ l₂
 | _, _, .nil, _ => .nil
 | _, _, .cons r t, f => .cons (f _ _ r) (Paired.mapP t f)
/-- what an object's description leans on: its own object, its own dict, the tuples -/
theorem zaT.stay (x : zaT P w H h a o) (k : ∀ b u, (b = a ∨ H b = some (.own a)) → h.get? b = some u → h'.get? b = some u)
  (ho : ∀ b, H b = some (.own a) → H' b = some (.own a)) (ht : ∀ b xs, H b = some (.tup xs) → H' b = some (.tup xs)) : zaT P w H' h' a o := by
 induction o with
 | lst xs => obtain ⟨z, its, n, r, e⟩ := x; exact ⟨z, its, n, r, k _ _ (.inl rfl) e⟩
 | tup xs => obtain ⟨z, its, r, ob, e, c⟩ := x; exact ⟨z, its, r, ob, k _ _ (.inl rfl) e, c⟩
 | dK kvs => obtain ⟨z, y, vs, r, ob, es, ep, e, c⟩ := x; exact ⟨z, y, vs, r, ob, es, ep, k _ _ (.inl rfl) e, c⟩
 | dT kvs =>
  obtain ⟨z, y, xs, r, ob, es, ep, e, c⟩ := x
  exact ⟨z, y, xs, Paired.mapP r fun p q z => ⟨z.1, ht _ _ z.2.1, z.2.2⟩, ob, es, ep, k _ _ (.inl rfl) e, c⟩
 | set S n => obtain ⟨ob, es, ep, t, e, c⟩ := x; exact ⟨ob, es, ep, t, k _ _ (.inl rfl) e, c⟩
 | ins C dx fs =>
  obtain ⟨d, z, ne, e, mA, ⟨od, es, ep, e2, c⟩, r⟩ := x
  exact ⟨ho _ d, z, ne, k _ _ (.inl rfl) e, mA, ⟨od, es, ep, k _ _ (.inr d) e2, c⟩, r⟩
 | own y => obtain ⟨ob, e⟩ := x; exact ⟨ob, k _ _ (.inl rfl) e⟩
 | xd fs => obtain ⟨mA, ⟨od, es, ep, e, c⟩, r⟩ := x; exact ⟨mA, ⟨od, es, ep, k _ _ (.inl rfl) e, c⟩, r⟩
 | rng lo hi => obtain ⟨t, u, v, e⟩ := x; exact ⟨t, u, v, k _ _ (.inl rfl) e⟩
 | frz ob u ih => obtain ⟨e, q⟩ := x; exact ⟨k _ _ (.inl rfl) e, ih q⟩
 | tbl ps =>
  have e : h.get? a = some { cls := .none, data := .fields ps } := x
  show h'.get? a = some { cls := .none, data := .fields ps }
  exact k a _ (.inl rfl) e
 | met f y =>
  have e : h.get? a = some (PySem.W.methodObj (.ref f) (.ref y)) := x
  show h'.get? a = some (PySem.W.methodObj (.ref f) (.ref y))
  exact k a _ (.inl rfl) e
 | ext φ => obtain ⟨p, ⟨o, e⟩, st⟩ := x; exact ⟨st _ _ p fun o q => k _ _ (.inl rfl) q, ⟨o, k _ _ (.inl rfl) e⟩, st⟩
theorem HOk.lt (x : HOk P w H h) (e : H a = some o) : a < h.objs.size := (x a o e).lt
theorem HOk.fresh (x : HOk P w H h) (e : h.objs.size ≤ a) : H a = none := by
 cases q : H a with
 | none => rfl
 | some u => exact absurd (Nat.lt_of_lt_of_le (x.lt q) e) (Nat.lt_irrefl _)
/-- every object of the heap is kept -/
theorem HOk.kept (x : HOk P w H h) (k : ∀ b u, h.get? b = some u → h'.get? b = some u) : HOk P w H h' := fun a o e =>
 (x a o e).stay (fun b u _ q => k b u q) (fun _ q => q) fun _ _ q => q
/-- a new object is laid and tracked -/
theorem HOk.laid (x : HOk P w H h) (k : ∀ b u, h.get? b = some u → h'.get? b = some u) (hp : h.objs.size ≤ a) (new : zaT P w (upd H a o) h' a o) : HOk P w (upd H a o) h' := fun b u e => by
 have hn := x.fresh hp
 by_cases hb : b = a
 ·subst hb; rw [zaa] at e; cases e; exact new
 ·rw [zaj hb] at e
  exact (x b u e).stay (fun c v _ q => k c v q) (fun c q => by rw [zaj (zaw q hn)]; exact q) fun c xs q => by rw [zaj (zaw q hn)]; exact q
end
/-- what may be read as u: it is u, or a known u -/
def Rd (H : Hp) (a : Addr) (u : HO) : Prop := H a = some u ∨ ∃ o, H a = some (.frz o u)
theorem Rd.ok {P : Program} {w : World} {H : Hp} {h : Heap} {a : Addr} {u : HO} (r : Rd H a u) (x : HOk P w H h) : zaT P w H h a u := by
 rcases r with r | ⟨o, r⟩
 ·exact x a u r
 ·obtain ⟨_, q⟩ := x a _ r
  exact q
/-- what may be written -/
def Mut : Option HO → Prop
 | some (.lst _) => True
 | some (.dK _) => True
 | some (.dT _) => True
 | some (.set _ _) => True
 | some (.ins _ _ _) => True
 | some (.ext _) => True
 | _ => False
section
variable {P : Program} {w : World} {H : Hp} {h h' : Heap} {x e : Addr} {o' : HO}
/-- the object at e is changed: x itself, or the dict of the instance x -/
theorem HOk.write (ok : HOk P w H h) (mu : Mut (H x)) (he : e = x ∨ H e = some (.own x)) (k : ∀ b u, b ≠ e → h.get? b = some u → h'.get? b = some u) (heo : ∃ u, h'.get? e = some u)
  (new : zaT P w (upd H x o') h' x o') : HOk P w (upd H x o') h' := fun b u q => by
 have nown : ∀ c y, H c = some (.own y) → c ≠ x := fun c y r z => by subst z; rw [r] at mu; exact mu
 have ntup : ∀ c xs, H c = some (.tup xs) → c ≠ x := fun c xs r z => by subst z; rw [r] at mu; exact mu
 by_cases hb : b = x
 ·subst hb; rw [zaa] at q; cases q; exact new
 ·rw [zaj hb] at q
  by_cases hbe : b = e
  ·have q' : H b = some (.own x) := by
    rcases he with z | z
    ·exact absurd (hbe.trans z) hb
    ·rw [hbe]; exact z
   rw [q] at q'; cases q'
   obtain ⟨v, hv⟩ := heo
   exact ⟨v, by rw [hbe]; exact hv⟩
  ·refine (ok b u q).stay (fun c v hc r => k c v ?_ r) (fun c r => by rw [zaj (nown c b r)]; exact r) fun c xs r => by rw [zaj (ntup c xs r)]; exact r
   rcases hc with rfl | hc
   ·exact hbe
   ·rintro rfl
    rcases he with z | z
    ·exact nown c b hc z
    ·rw [hc] at z; cases z; exact hb rfl
end
structure Un (fs ex : List Addr) (H H' : Hp) (h h' : Heap) : Prop where
 keep : ∀ b o, h.get? b = some o → H b = none → b ∉ fs → b ∉ ex → h'.get? b = some o
 slot : ∀ b o, h.get? b = some o → H b = none → b ∈ fs → b ∉ ex → ∃ sl, h'.get? b = some { o with slots := sl }
 free : ∀ b o, h.get? b = some o → H b = none → b ∉ ex → H' b = none
 there : ∀ b o, h.get? b = some o → b ∉ ex → ∃ o', h'.get? b = some o'
 tups : ∀ b xs, H b = some (.tup xs) → H' b = some (.tup xs)
 frzs : ∀ b o u, H b = some (.frz o u) → H' b = some (.frz o u)
 tbls : ∀ b ps, H b = some (.tbl ps) → ∃ more, H' b = some (.tbl (ps ++ more))
section
variable {fs fs' ex ex' : List Addr} {H H1 H2 : Hp} {h h1 h2 h' : Heap} {a x e : Addr} {o : HO}
theorem Un.any (u : Un fs ex H H1 h h1) {b : Addr} {ob : Obj} (q : h.get? b = some ob) (n : H b = none) (hx : b ∉ ex) : ∃ sl, h1.get? b = some { ob with slots := sl } := by
 by_cases hb : b ∈ fs
 ·exact u.slot b ob q n hb hx
 ·exact ⟨ob.slots, u.keep b ob q n hb hx⟩
theorem Un.kept (k : ∀ b u, h.get? b = some u → h'.get? b = some u) : Un fs ex H H h h' :=
 ⟨fun b ob q _ _ _ => k b ob q, fun b ob q _ _ _ => ⟨ob.slots, k b ob q⟩, fun _ _ _ n _ => n, fun b ob q _ => ⟨ob, k b ob q⟩, fun _ _ q => q, fun _ _ _ q => q, fun _ ps q => ⟨#[], by rw [q]; simp⟩⟩
theorem Un.refl : Un fs ex H H h h := Un.kept fun _ _ q => q
theorem Un.laid (k : ∀ b u, h.get? b = some u → h'.get? b = some u) (hp : h.objs.size ≤ a) (hn : H a = none) : Un fs ex H (upd H a o) h h' where
 keep := fun b u q _ _ _ => k b u q
 slot := fun b u q _ _ _ => ⟨u.slots, k b u q⟩
 free := fun b u q n _ => by rw [zaj (Nat.ne_of_lt (Nat.lt_of_lt_of_le (Heap.lt_size q) hp))]; exact n
 there := fun b u q _ => ⟨u, k b u q⟩
 tups := fun b xs q => by rw [zaj (zaw q hn)]; exact q
 frzs := fun b u xs q => by rw [zaj (zaw q hn)]; exact q
 tbls := fun b ps q => ⟨#[], by rw [zaj (zaw q hn), q]; simp⟩
theorem Un.write (mu : Mut (H x)) (he : e = x ∨ H e = some (.own x)) (k : ∀ b u, b ≠ e → h.get? b = some u → h'.get? b = some u) (heo : ∃ u, h'.get? e = some u) : Un fs ex H (upd H x o) h h' := by
 have hx : ∀ b, H b = none → b ≠ x := fun b n z => by subst z; rw [n] at mu; exact mu
 have hb : ∀ b, H b = none → b ≠ e := fun b n z => by
  subst z
  rcases he with r | r
  ·exact hx b n r
  ·rw [n] at r; cases r
 have hm : ∀ b u, H b = some u → ¬ Mut (some u) → b ≠ x := fun b u q nm z => by subst z; rw [q] at mu; exact nm mu
 refine ⟨fun b u q n _ _ => k b u (hb b n) q, fun b u q n _ _ => ⟨u.slots, k b u (hb b n) q⟩, fun b u q n _ => by rw [zaj (hx b n)]; exact n, fun b u q _ => ?_,
  fun b xs q => by rw [zaj (hm b _ q fun z => z)]; exact q, fun b u xs q => by rw [zaj (hm b _ q fun z => z)]; exact q, fun b ps q => ⟨#[], by rw [zaj (hm b _ q fun z => z), q]; simp⟩⟩
 by_cases hbe : b = e
 ·subst hbe; exact heo
 ·exact ⟨u, k b u hbe q⟩
end
def trk (h : Heap) (H : Hp) : List Addr := (List.range h.objs.size).filter fun a => (H a).isSome
def hidT (h : Heap) (H : Hp) : Heap := PySem.W.hideAll h (trk h H)
theorem zfc (h : Heap) (H : Hp) : (hidT h H).objs.size = h.objs.size := PySem.W.hideAll_size _ _
theorem zf6 {h : Heap} {H : Hp} {b : Addr} {o : Obj} (e : h.get? b = some o) (n : H b = none) : (hidT h H).get? b = some o :=
 PySem.W.hideAll_get _ e fun hm => by
  have q : (H b).isSome = true := (List.mem_filter.mp hm).2
  rw [n] at q; simp at q
theorem zhz {h : Heap} {H : Hp} {b : Addr} {o : Obj} (e : (hidT h H).get? b = some o) : h.get? b = some o ∧ H b = none := by
 have e' : h.get? b = some o := PySem.W.of_hideAll (trk h H) e
 refine ⟨e', ?_⟩
 cases q : H b with
 | none => rfl
 | some x =>
  have hm : b ∈ trk h H := List.mem_filter.mpr ⟨List.mem_range.mpr (Heap.lt_size e'), by simp [q]⟩
  have z : (hidT h H).get? b = none := PySem.W.hideAll_none (trk h H) hm
  rw [z] at e; cases e
def zhT (g h : Heap) (L : Addr) : List (Addr × Obj) := (List.range h.objs.size).filterMap fun a => if a = L ∨ (g.get? a).isSome = true then none else (h.get? a).map fun o => (a, o)
def rest (g h : Heap) (L d : Addr) : List (Addr × Obj) := (zhT g h L).filter fun p => decide (p.1 ≠ d)
end L2
namespace L2
open PySem PySem.Spec PyProof.Rows
/-- the module's facts, over the base: the heap at the law's entry without what is tracked there -/
structure Mod (K : PySem.W.Frag) (mg : Str → Option Value) (base : Heap) : Prop where
 kin : K.In base
 glob : base.Ns mainGlobals mg
 blt : ∃ mb, base.Ns builtinsNs mb ∧ ∀ x : Str, x ≠ "__name__" → mb x = bootBuiltins x
 nolimit : base.NoLimit
/-- the context: a def's body (or a comprehension's block) running. base: fixed through the whole law; s₀, H₀: the entry; outer: the frames whose slots others may change (a def's callers); stack: all frames that run;
  ex: iterators that were made ahead of the entry and are walked here (a comprehension's); fn: the names whose cells were made at the entry (a def: all; a comprehension's block: its own); calm: not within an except suite; pn: pins that every state bears; xe: what is wanted of an exception that leaves the code -/
structure Cx where
 prog : Program
 w : World
 K : PySem.W.Frag
 mg : Str → Option Value
 base : Heap
 A : Around
 N : List Str
 s₀ : Shared
 H₀ : Hp
 env : Env
 outer : List Env
 stack : List Env
 ex : List Addr
 fn : Str → Bool
 calm : Bool
 pn : List (Addr × Obj)
 xe : Value → Shared → Prop
/-- the callers' frames -/
def frs (l : List Env) : List Addr := l.filterMap (·.frame)
abbrev Cx.fs (X : Cx) : List Addr := frs X.outer
def Vis (sc : Scope) (x : Str) : Prop := sc.names.lookup x = some .local ∨ sc.names.lookup x = some .cell ∨ sc.names.lookup x = some .free
def Loc (sc : Scope) (x : Str) : Prop := sc.names.lookup x = some .local ∨ sc.names.lookup x = some .cell
def Look (env : Env) (h : Heap) (m : Str → Option Value) (x : Str) (u : Value) : Prop :=
 (env.kindOf x = some .local ∧ m x = some u) ∨ ((env.kindOf x = some .cell ∨ env.kindOf x = some .free) ∧ ∃ c, env.cells.lookup x = some c ∧ h.IsCell c (some u))
structure Cx.Ok (X : Cx) : Prop where
 mod : Mod X.K X.mg X.base
 kind : X.env.scope.kind = .function
 glob : X.env.globals = mainGlobals
 blt : X.env.builtins = builtinsNs
 above : X.s₀.heap.objs.size ≤ X.env.locals
 inj : ∀ x y c, X.env.cells.lookup x = some c → X.env.cells.lookup y = some c → x = y
 has : ∀ x, (X.env.kindOf x = some .cell ∨ X.env.kindOf x = some .free) → ∃ c, X.env.cells.lookup x = some c
 cab : ∀ x c, X.fn x = true → X.env.cells.lookup x = some c → X.s₀.heap.objs.size ≤ c
 hd : X.calm = true → X.A.handled = none
 frames : X.A.frames = some X.stack
 stk : X.stack = X.outer ∨ (X.stack = X.env :: X.outer ∧ X.env.frame = some X.env.locals)
 exf : ∀ b ∈ X.ex, b ≠ X.env.locals ∧ ∀ x c, X.env.cells.lookup x = some c → c ≠ b
 bs : ∀ b o, X.base.get? b = some o → X.s₀.heap.get? b = some o ∧ X.H₀ b = none
 bsz : X.base.objs.size ≤ X.s₀.heap.objs.size
 noex : ∀ b o, X.base.get? b = some o → b ∉ X.ex
 exfs : ∀ b ∈ X.ex, b ∉ X.fs
 funs : X.s₀.heap.FunFrames X.base X.outer
 frf : ∀ b ∈ X.fs, X.H₀ b = none
structure Inv (X : Cx) (pins : List (Addr × Obj)) (σ : List (Option V)) (H : Hp) (s : Shared) : Prop where
 ok : X.Ok
 os : s.os = X.s₀.os
 bare : AllBare s.gens
 base : Un X.fs X.ex X.H₀ H X.s₀.heap s.heap
 loc : ∃ m, s.heap.Ns X.env.locals m ∧ ∀ (i : Nat) (x : Str) (v : V), X.N[i]? = some x → σ[i]? = some (some v) → Vis X.env.scope x → ∃ u, RelV v u ∧ Look X.env s.heap m x u
 cell : ∀ x c, X.env.cells.lookup x = some c → ∃ v, s.heap.IsCell c v
 free : H X.env.locals = none
 freeC : ∀ x c, X.env.cells.lookup x = some c → H c = none
 pin : ∀ p ∈ X.pn ++ pins, s.heap.get? p.1 = some p.2 ∧ H p.1 = none ∧ p.1 ≠ X.env.locals ∧ p.1 ∉ X.fs ∧ ∀ v, p.2.data ≠ .cell v
 hok : HOk X.prog X.w H s.heap
 len : σ.length = X.N.length
section
variable {X : Cx} {pins : List (Addr × Obj)} {σ : List (Option V)} {H H' : Hp} {s : Shared} {h' : Heap}
theorem Cx.Ok.nofr (ok : X.Ok) {b : Addr} {o : Obj} (e : X.base.get? b = some o) : b ∉ X.fs := fun hb => by
 have := (ok.funs.mem hb).1
 rw [e] at this; cases this
theorem Inv.bs (I : Inv X pins σ H s) : ∀ b o, X.base.get? b = some o → s.heap.get? b = some o ∧ H b = none := fun b o e =>
 ⟨I.base.keep b o (I.ok.bs b o e).1 (I.ok.bs b o e).2 (I.ok.nofr e) (I.ok.noex b o e), I.base.free b o (I.ok.bs b o e).1 (I.ok.bs b o e).2 (I.ok.noex b o e)⟩
theorem Inv.bk (I : Inv X pins σ H s) : ∀ b o, X.base.get? b = some o → s.heap.get? b = some o := fun b o e => (I.bs b o e).1
theorem Inv.mod (I : Inv X pins σ H s) : Mod X.K X.mg X.base := I.ok.mod
theorem Inv.kIn (I : Inv X pins σ H s) : X.K.In s.heap := I.ok.mod.kin.keeps I.bk
theorem Inv.lt (I : Inv X pins σ H s) : X.env.locals < s.heap.objs.size := let ⟨_, hn, _⟩ := I.loc; hn.lt
theorem Inv.sz (I : Inv X pins σ H s) : X.s₀.heap.objs.size ≤ s.heap.objs.size := Nat.le_trans I.ok.above (Nat.le_of_lt I.lt)
theorem Inv.nofs (I : Inv X pins σ H s) {a : Addr} (h : s.heap.objs.size ≤ a) : a ∉ X.fs := fun hb => by
 obtain ⟨_, o, ho, _⟩ := I.ok.funs.mem hb
 exact absurd (Nat.lt_of_lt_of_le (Heap.lt_size ho) (Nat.le_trans I.sz h)) (Nat.lt_irrefl _)
theorem Inv.cne (I : Inv X pins σ H s) : ∀ x c, X.env.cells.lookup x = some c → c ≠ X.env.locals := fun x c e z => by
 obtain ⟨v, o, ho, hd⟩ := I.cell x c e
 obtain ⟨m, ⟨o', es, ep, ho', hd', _⟩, _⟩ := I.loc
 rw [z, ho'] at ho; cases ho; rw [hd'] at hd; cases hd
theorem Inv.funs (I : Inv X pins σ H s) : s.heap.FunFrames X.base X.outer := by
 have all : ∀ (l : List Env), (∀ b ∈ frs l, b ∈ X.fs) → X.s₀.heap.FunFrames X.base l → s.heap.FunFrames X.base l := by
  intro l
  induction l with
  | nil => intro _ _; trivial
  | cons env r ih =>
   intro hs hl
   obtain ⟨hk, ⟨L, o, hf, hn, ho, hd⟩, hr⟩ := hl
   have hL : L ∈ X.fs := hs L (by unfold frs; rw [List.filterMap_cons, hf]; exact List.mem_cons_self)
   obtain ⟨sl, e⟩ := I.base.slot L o ho (I.ok.frf L hL) hL fun z => I.ok.exfs L z hL
   exact ⟨hk, ⟨L, _, hf, hn, e, hd⟩, ih (fun b hb => hs b (by unfold frs; rw [List.filterMap_cons, hf]; exact List.mem_cons_of_mem _ hb)) hr⟩
 exact all X.outer (fun _ hb => hb) I.ok.funs
/-- the frames that run, for a call -/
theorem Inv.stack (I : Inv X pins σ H s) : s.heap.FunFrames X.base X.stack := by
 rcases I.ok.stk with e | ⟨e, hf⟩
 ·rw [e]; exact I.funs
 ·rw [e]
  obtain ⟨m, hn, _⟩ := I.loc
  refine .cons (by rw [I.ok.kind]; decide) hf hn ?_ I.funs
  exact Heap.get?_none_of_le (Nat.le_trans I.ok.bsz I.ok.above)
theorem Inv.stkSub (I : Inv X pins σ H s) : ∀ b ∈ frs X.stack, b ∈ X.env.locals :: X.fs := fun b hb => by
 rcases I.ok.stk with e | ⟨e, hf⟩
 ·rw [e] at hb; exact List.mem_cons_of_mem _ hb
 ·rw [e] at hb
  unfold frs at hb
  rw [List.filterMap_cons, hf] at hb
  exact hb
theorem Inv.stkFree (I : Inv X pins σ H s) : ∀ b ∈ frs X.stack, H b = none := fun b hb => by
 rcases List.mem_cons.mp (I.stkSub b hb) with e | hb
 ·rw [e]; exact I.free
 ·obtain ⟨_, o, ho, _⟩ := I.ok.funs.mem hb
  exact I.base.free b o ho (I.ok.frf b hb) fun z => I.ok.exfs b z hb
/-- THE STEP: the untracked objects but the frame and the records at ch are kept (the callers' frames up to slots), the frame's map is kept, the new abstract heap is held -/
theorem Inv.step {g' : Array GenState} {t' : Nat} {d' : Drawn} {ch : List Addr} (I : Inv X pins σ H s)
  (hch : ∀ b ∈ ch, (b ∈ X.ex ∨ X.s₀.heap.objs.size ≤ b) ∧ b ≠ X.env.locals ∧ (∀ x c, X.env.cells.lookup x = some c → c ≠ b) ∧ ∀ p ∈ X.pn ++ pins, p.1 ≠ b)
  (keep : ∀ b o, b ≠ X.env.locals → b ∉ X.fs → b ∉ ch → s.heap.get? b = some o → H b = none → h'.get? b = some o)
  (slot : ∀ b o, b ≠ X.env.locals → b ∈ X.fs → b ∉ ch → s.heap.get? b = some o → H b = none → ∃ sl, h'.get? b = some { o with slots := sl }) (free : ∀ b o, b ∉ ch → s.heap.get? b = some o → H b = none → H' b = none)
  (there : ∀ b o, b ∉ ch → s.heap.get? b = some o → ∃ o', h'.get? b = some o')
  (tups : ∀ b xs, H b = some (.tup xs) → H' b = some (.tup xs)) (frzs : ∀ b o u, H b = some (.frz o u) → H' b = some (.frz o u)) (tbls : ∀ b ps, H b = some (.tbl ps) → ∃ more, H' b = some (.tbl (ps ++ more)))
  (ns : ∀ m, s.heap.Ns X.env.locals m → h'.Ns X.env.locals m) (hok : HOk X.prog X.w H' h') (hg : AllBare g') :
  Inv X pins σ H' { s with heap := h', gens := g', drawn := d', toks := t' } := by
 have neL : ∀ b o, X.s₀.heap.get? b = some o → b ≠ X.env.locals := fun b o e => Nat.ne_of_lt (Nat.lt_of_lt_of_le (Heap.lt_size e) I.ok.above)
 have neC : ∀ b o, X.s₀.heap.get? b = some o → b ∉ X.ex → b ∉ ch := fun b o e hx hb => by
  rcases (hch b hb).1 with z | z
  ·exact hx z
  ·exact absurd (Nat.lt_of_lt_of_le (Heap.lt_size e) z) (Nat.lt_irrefl _)
 have cellK : ∀ x c, X.env.cells.lookup x = some c → ∀ v, s.heap.IsCell c v → h'.IsCell c v := fun x c e v ⟨o, ho, hd⟩ => by
  have nch : c ∉ ch := fun z => (hch c z).2.2.1 x c e rfl
  by_cases hc : c ∈ X.fs
  ·obtain ⟨sl, q⟩ := slot c o (I.cne x c e) hc nch ho (I.freeC x c e)
   exact ⟨_, q, hd⟩
  ·exact ⟨o, keep c o (I.cne x c e) hc nch ho (I.freeC x c e), hd⟩
 refine ⟨I.ok, I.os, hg, ⟨fun b o e n hb hx => ?_, fun b o e n hb hx => ?_, fun b o e n hx => ?_, fun b o e hx => ?_, fun b xs e => tups b xs (I.base.tups b xs e), fun b o xs e => frzs b o xs (I.base.frzs b o xs e), fun b ps e => ?_⟩, ?_, fun x c e => ?_, ?_, fun x c e => ?_, fun p hp => ?_, hok, I.len⟩
 ·exact keep b o (neL b o e) hb (neC b o e hx) (I.base.keep b o e n hb hx) (I.base.free b o e n hx)
 ·obtain ⟨sl, e1⟩ := I.base.slot b o e n hb hx
  obtain ⟨sl', e2⟩ := slot b _ (neL b o e) hb (neC b o e hx) e1 (I.base.free b o e n hx)
  exact ⟨sl', e2⟩
 ·obtain ⟨o', e1⟩ := I.base.there b o e hx
  exact free b o' (neC b o e hx) e1 (I.base.free b o e n hx)
 ·obtain ⟨o', e1⟩ := I.base.there b o e hx
  exact there b o' (neC b o e hx) e1
 ·obtain ⟨m1, e1⟩ := I.base.tbls b ps e
  obtain ⟨m2, e2⟩ := tbls b _ e1
  exact ⟨m1 ++ m2, by rw [e2, Array.append_assoc]⟩
 ·obtain ⟨m, hn, hl⟩ := I.loc
  refine ⟨m, ns m hn, fun i x v e1 e2 e3 => ?_⟩
  obtain ⟨u, r, l⟩ := hl i x v e1 e2 e3
  refine ⟨u, r, ?_⟩
  rcases l with l | ⟨k, c, e, z⟩
  ·exact .inl l
  ·exact .inr ⟨k, c, e, cellK x c e _ z⟩
 ·obtain ⟨v, z⟩ := I.cell x c e
  exact ⟨v, cellK x c e v z⟩
 ·obtain ⟨m, ⟨o, _, _, ho, _⟩, _⟩ := I.loc
  exact free _ o (fun z => (hch _ z).2.1 rfl) ho I.free
 ·obtain ⟨v, o, ho, hd⟩ := I.cell x c e
  exact free c o (fun z => (hch c z).2.2.1 x c e rfl) ho (I.freeC x c e)
 ·obtain ⟨e, n, ne, nf, d⟩ := I.pin p hp
  have nch : p.1 ∉ ch := fun z => (hch p.1 z).2.2.2 p hp rfl
  exact ⟨keep p.1 p.2 ne nf nch e n, free p.1 p.2 nch e n, ne, nf, d⟩
/-- .. where the frame's own object is kept too -/
theorem Inv.un {t' : Nat} (I : Inv X pins σ H s) (u : Un X.fs [] H H' s.heap h') (hok : HOk X.prog X.w H' h') : Inv X pins σ H' { s with heap := h', toks := t' } := by
 obtain ⟨m, ⟨o, es, ep, ho, r⟩, _⟩ := id I.loc
 obtain ⟨sl, hL⟩ := u.any ho I.free (by simp)
 exact I.step (g' := s.gens) (d' := s.drawn) (ch := []) (fun _ z => nomatch z) (fun b o _ hb _ e n => u.keep b o e n hb (by simp)) (fun b o _ hb _ e n => u.slot b o e n hb (by simp)) (fun b o _ e n => u.free b o e n (by simp)) (fun b o _ e => u.there b o e (by simp)) u.tups u.frzs u.tbls (fun m' hm => by
  obtain ⟨o', es', ep', ho', r'⟩ := hm
  rw [ho] at ho'; cases ho'
  exact ⟨_, es', ep', hL, r'⟩) hok I.bare
/-- behind a call (or a comprehension's block): the slots of this frame may have changed too, the records at ch may have turned -/
theorem Inv.call {g' : Array GenState} {t' : Nat} {d' : Drawn} {ch : List Addr} (I : Inv X pins σ H s) (u : Un (frs X.stack) ch H H' s.heap h') (hok : HOk X.prog X.w H' h') (hg : AllBare g')
  (hch : ∀ b ∈ ch, (b ∈ X.ex ∨ X.s₀.heap.objs.size ≤ b) ∧ b ≠ X.env.locals ∧ (∀ x c, X.env.cells.lookup x = some c → c ≠ b) ∧ ∀ p ∈ X.pn ++ pins, p.1 ≠ b) :
  Inv X pins σ H' { s with heap := h', gens := g', drawn := d', toks := t' } := by
 obtain ⟨m, ⟨o, es, ep, ho, r⟩, _⟩ := id I.loc
 obtain ⟨sl, hL⟩ := u.any ho I.free fun z => (hch _ z).2.1 rfl
 exact I.step (ch := ch) hch (fun b o hL hb hc e n => u.keep b o e n (fun z => (List.mem_cons.mp (I.stkSub b z)).elim hL hb) hc) (fun b o _ _ hc e n => u.any e n hc) (fun b o hc e n => u.free b o e n hc) (fun b o hc e => u.there b o e hc) u.tups u.frzs u.tbls (fun m' hm => by
  obtain ⟨o', es', ep', ho', r'⟩ := hm
  rw [ho] at ho'; cases ho'
  exact ⟨_, es', ep', hL, r'⟩) hok hg
/-- an untracked record of ours (an iterator) has turned -/
theorem Inv.turned {t' : Nat} {it : Addr} (I : Inv X pins σ H s) (k : ∀ b o, b ≠ it → s.heap.get? b = some o → h'.get? b = some o) (hn : H it = none) (hL : it ≠ X.env.locals)
  (h1 : it ∈ X.ex ∨ X.s₀.heap.objs.size ≤ it) (h2 : ∀ x c, X.env.cells.lookup x = some c → c ≠ it) (h3 : ∀ p ∈ X.pn ++ pins, p.1 ≠ it) : Inv X pins σ H { s with heap := h', toks := t' } := by
 have nit : ∀ b u, H b = some u → b ≠ it := fun b u e z => by rw [z, hn] at e; cases e
 refine I.step (g' := s.gens) (d' := s.drawn) (ch := [it]) (fun b hb => ?_) (fun b o _ _ hc e _ => k b o (fun z => hc (by simp [z])) e) (fun b o _ _ hc e _ => ⟨o.slots, k b o (fun z => hc (by simp [z])) e⟩) (fun _ _ _ _ n => n)
  (fun b o hc e => ⟨o, k b o (fun z => hc (by simp [z])) e⟩) (fun _ _ e => e) (fun _ _ _ e => e) (fun b ps e => ⟨#[], by rw [e]; simp⟩) (fun m hm => ?_) (fun b u e => ?_) I.bare
 ·have e : b = it := by simpa using hb
  subst e
  exact ⟨h1, hL, h2, h3⟩
 ·obtain ⟨o, es, ep, ho, r⟩ := hm
  exact ⟨o, es, ep, k _ o (Ne.symm hL) ho, r⟩
 ·refine (I.hok b u e).stay (fun c v hc q => k c v ?_ q) (fun _ q => q) fun _ _ q => q
  rcases hc with z | z
  ·rw [z]; exact nit b u e
  ·exact nit c _ z
theorem Inv.tok (I : Inv X pins σ H s) (t : Nat) : Inv X pins σ H { s with toks := t } := I.un (h' := s.heap) (t' := t) Un.refl I.hok
/-- all objects kept -/
theorem Inv.kept {t' : Nat} (I : Inv X pins σ H s) (k : ∀ b u, s.heap.get? b = some u → h'.get? b = some u) : Inv X pins σ H { s with heap := h', toks := t' } := I.un (Un.kept k) (I.hok.kept k)
/-- a new object laid and tracked -/
theorem Inv.laid {a : Addr} {o : HO} {t' : Nat} (I : Inv X pins σ H s) (k : ∀ b u, s.heap.get? b = some u → h'.get? b = some u) (hp : s.heap.objs.size ≤ a) (new : zaT X.prog X.w (upd H a o) h' a o) :
  Inv X pins σ (upd H a o) { s with heap := h', toks := t' } := I.un (Un.laid k hp (I.hok.fresh hp)) (I.hok.laid k hp new)
/-- an object written -/
theorem Inv.write {x e : Addr} {o : HO} {t' : Nat} (I : Inv X pins σ H s) (mu : Mut (H x)) (he : e = x ∨ H e = some (.own x)) (k : ∀ b u, b ≠ e → s.heap.get? b = some u → h'.get? b = some u) (heo : ∃ u, h'.get? e = some u)
  (new : zaT X.prog X.w (upd H x o) h' x o) : Inv X pins σ (upd H x o) { s with heap := h', toks := t' } := I.un (Un.write mu he k heo) (I.hok.write mu he k heo new)
/-- forgetting slots, pins -/
theorem Inv.weak {σ' : List (Option V)} (I : Inv X pins σ H s) (hl : σ'.length = σ.length) (w : ∀ (i : Nat) v, σ'[i]? = some (some v) → σ[i]? = some (some v)) : Inv X pins σ' H s :=
 ⟨I.ok, I.os, I.bare, I.base, let ⟨m, hn, hl'⟩ := I.loc; ⟨m, hn, fun i x v e1 e2 e3 => hl' i x v e1 (w i v e2) e3⟩, I.cell, I.free, I.freeC, I.pin, I.hok, hl.trans I.len⟩
theorem Inv.pins_of {pins' : List (Addr × Obj)} (I : Inv X pins σ H s) (h : ∀ p ∈ pins', s.heap.get? p.1 = some p.2 ∧ H p.1 = none ∧ p.1 ≠ X.env.locals ∧ p.1 ∉ X.fs ∧ ∀ v, p.2.data ≠ .cell v) : Inv X pins' σ H s :=
 ⟨I.ok, I.os, I.bare, I.base, I.loc, I.cell, I.free, I.freeC, fun p hp => (List.mem_append.mp hp).elim (fun z => I.pin p (List.mem_append_left _ z)) (h p), I.hok, I.len⟩
theorem zew {N : List Str} (hN : N.Nodup) {i j : Nat} {x : Str} (a : N[i]? = some x) (b : N[j]? = some x) : i = j := by
 obtain ⟨h1, e1⟩ := List.getElem?_eq_some_iff.mp a
 obtain ⟨h2, e2⟩ := List.getElem?_eq_some_iff.mp b
 exact (List.getElem_inj hN).mp (e1.trans e2.symm)
/-- a name is stored; what changed -/
theorem zdL {M : Model} {A : Around} {E : Value → Shared → Prop} {i : Nat} {x : Str} {v : V} {u : Value} {Q : Unit → Shared → Prop} (I : Inv X pins σ H s) (hN : X.N.Nodup) (hi : X.N[i]? = some x) (hx : Loc X.env.scope x) (r : RelV v u)
  (h : ∀ s', Inv X pins (σ.set i (some v)) H s' → (∃ a, Heap.SameBut a s.heap s'.heap ∧ (a = X.env.locals ∨ X.env.cells.lookup x = some a)) → Q () s') (hf : X.fn x = true ∨ X.env.scope.names.lookup x = some .local := by first | exact .inl rfl | exact .inr rfl | assumption) : wpAny M A (storeName X.env x u) Q E s := by
 obtain ⟨m, hn, hl⟩ := id I.loc
 have hcls : (X.env.scope.kind == .class || (X.env.scope.kind == .module && X.env.locals != X.env.globals)) = false := by rw [I.ok.kind]; rfl
 have hiσ : i < σ.length := by rw [I.len]; exact (List.getElem?_eq_some_iff.mp hi).1
 have cne := I.cne
 have tracked : ∀ {a : Addr} {h' : Heap}, (∃ o, s.heap.get? a = some o ∧ H a = none) → Heap.SameBut a s.heap h' → HOk X.prog X.w H h' := fun {a h'} ha hs b ob e => by
  obtain ⟨_, _, hfree⟩ := ha
  refine (I.hok b ob e).stay (fun c w' hc q => (hs.2 c ?_).trans q) (fun _ q => q) fun _ _ q => q
  rintro rfl
  rcases hc with rfl | hc
  ·rw [hfree] at e; cases e
  ·rw [hfree] at hc; cases hc
 rcases hx with hk | hk
 ·refine wpAny_storeName_local hk hn (fun h' hn' hs => ?_) hcls
  obtain ⟨oL, _, _, hoL, _⟩ := id hn
  refine h _ ⟨I.ok, I.os, I.bare, ⟨fun b o e n hb hx => ?_, fun b o e n hb hx => ?_, I.base.free, fun b o e hx => ?_, I.base.tups, I.base.frzs, I.base.tbls⟩, ⟨_, hn', fun j y v' e1 e2 e3 => ?_⟩, fun y c e => ?_, I.free, I.freeC, fun p hp => ?_, tracked ⟨oL, hoL, I.free⟩ hs, by simpa using I.len⟩ ⟨_, hs, .inl rfl⟩
  ·exact (hs.2 b (Nat.ne_of_lt (Nat.lt_of_lt_of_le (Heap.lt_size e) I.ok.above))).trans (I.base.keep b o e n hb hx)
  ·obtain ⟨sl, e1⟩ := I.base.slot b o e n hb hx
   exact ⟨sl, (hs.2 b (Nat.ne_of_lt (Nat.lt_of_lt_of_le (Heap.lt_size e) I.ok.above))).trans e1⟩
  ·obtain ⟨o', e1⟩ := I.base.there b o e hx
   exact ⟨o', (hs.2 b (Nat.ne_of_lt (Nat.lt_of_lt_of_le (Heap.lt_size e) I.ok.above))).trans e1⟩
  ·by_cases hj : j = i
   ·subst hj
    rw [hi] at e1; cases e1
    rw [List.getElem?_set_self hiσ] at e2
    cases e2
    exact ⟨u, r, .inl ⟨hk, by simp⟩⟩
   ·rw [List.getElem?_set_ne (Ne.symm hj)] at e2
    obtain ⟨u', r', q⟩ := hl j y v' e1 e2 e3
    refine ⟨u', r', ?_⟩
    rcases q with ⟨k, e⟩ | ⟨k, c, e, z⟩
    ·refine .inl ⟨k, ?_⟩
     have : y ≠ x := fun e => hj (zew hN e1 (e ▸ hi))
     simp [this, e]
    ·exact .inr ⟨k, c, e, z.sameBut hs (cne y c e)⟩
  ·obtain ⟨w', z⟩ := I.cell y c e
   exact ⟨w', z.sameBut hs (cne y c e)⟩
  ·obtain ⟨e, n, ne, nf, d⟩ := I.pin p hp
   exact ⟨(hs.2 p.1 ne).trans e, n, ne, nf, d⟩
 ·have hfn : X.fn x = true := by
   rcases hf with z | z
   ·exact z
   ·rw [z] at hk; cases hk
  obtain ⟨c, hc⟩ := I.ok.has x (.inl hk)
  obtain ⟨w', z⟩ := I.cell x c hc
  refine wpAny_storeName_cell I.ok.kind hk hc z (fun h' hc' hs => ?_)
  obtain ⟨oc, hoc, hocd⟩ := id z
  refine h { s with heap := h' } ⟨I.ok, I.os, I.bare, ⟨fun b o e n hb hx => ?_, fun b o e n hb hx => ?_, I.base.free, fun b o e hx => ?_, I.base.tups, I.base.frzs, I.base.tbls⟩, ⟨m, hn.sameBut hs (Ne.symm (cne x c hc)), fun j y v' e1 e2 e3 => ?_⟩, fun y c' e => ?_, I.free, I.freeC, fun p hp => ?_, tracked ⟨oc, hoc, I.freeC x c hc⟩ hs, by simpa using I.len⟩ ⟨c, hs, .inr hc⟩
  ·exact (hs.2 b (Nat.ne_of_lt (Nat.lt_of_lt_of_le (Heap.lt_size e) (I.ok.cab x c hfn hc)))).trans (I.base.keep b o e n hb hx)
  ·obtain ⟨sl, e1⟩ := I.base.slot b o e n hb hx
   exact ⟨sl, (hs.2 b (Nat.ne_of_lt (Nat.lt_of_lt_of_le (Heap.lt_size e) (I.ok.cab x c hfn hc)))).trans e1⟩
  ·obtain ⟨o', e1⟩ := I.base.there b o e hx
   exact ⟨o', (hs.2 b (Nat.ne_of_lt (Nat.lt_of_lt_of_le (Heap.lt_size e) (I.ok.cab x c hfn hc)))).trans e1⟩
  ·by_cases hj : j = i
   ·subst hj
    rw [hi] at e1; cases e1
    rw [List.getElem?_set_self hiσ] at e2
    cases e2
    exact ⟨u, r, .inr ⟨.inl hk, c, hc, hc'⟩⟩
   ·rw [List.getElem?_set_ne (Ne.symm hj)] at e2
    obtain ⟨u', r', q⟩ := hl j y v' e1 e2 e3
    refine ⟨u', r', ?_⟩
    rcases q with q | ⟨k, c', e, z'⟩
    ·exact .inl q
    ·refine .inr ⟨k, c', e, z'.sameBut hs ?_⟩
     rintro rfl
     exact hj (zew hN e1 (I.ok.inj _ _ _ e hc ▸ hi))
  ·by_cases hcc : c' = c
   ·subst hcc; exact ⟨_, hc'⟩
   ·obtain ⟨w2, z2⟩ := I.cell y c' e
    exact ⟨w2, z2.sameBut hs hcc⟩
  ·obtain ⟨e, n, ne, nf, d⟩ := I.pin p hp
   refine ⟨(hs.2 p.1 ?_).trans e, n, ne, nf, d⟩
   intro q
   rw [q, hoc] at e
   have q' : oc = p.2 := Option.some.inj e
   exact d w' (by rw [← q']; exact hocd)
theorem zem {M : Model} {A : Around} {E : Value → Shared → Prop} {i : Nat} {x : Str} {v : V} {u : Value} {Q : Unit → Shared → Prop} (I : Inv X pins σ H s) (hN : X.N.Nodup) (hi : X.N[i]? = some x) (hx : Loc X.env.scope x) (r : RelV v u)
  (h : ∀ s', Inv X pins (σ.set i (some v)) H s' → Q () s') (hf : X.fn x = true ∨ X.env.scope.names.lookup x = some .local := by first | exact .inl rfl | exact .inr rfl | assumption) : wpAny M A (storeName X.env x u) Q E s :=
 zdL I hN hi hx r (fun s' I' _ => h s' I') hf
/-- behind a call or a block, the state as it is -/
theorem Inv.call' {s' : Shared} {ch : List Addr} (I : Inv X pins σ H s) (ho : s'.os = s.os) (u : Un (frs X.stack) ch H H' s.heap s'.heap) (hok : HOk X.prog X.w H' s'.heap) (hg : AllBare s'.gens)
  (hch : ∀ b ∈ ch, (b ∈ X.ex ∨ X.s₀.heap.objs.size ≤ b) ∧ b ≠ X.env.locals ∧ (∀ x c, X.env.cells.lookup x = some c → c ≠ b) ∧ ∀ p ∈ X.pn ++ pins, p.1 ≠ b) : Inv X pins σ H' s' := by
 obtain ⟨h', g', d', t', o'⟩ := s'
 have e : o' = s.os := ho
 subst e
 exact I.call (g' := g') (t' := t') (d' := d') u hok hg hch
end
/-- an exception: its class, its own dict's address (where it has one), the abstract heap behind it -/
abbrev XK := Value → Option Addr → Hp → Prop
abbrev St := List (Option V)
abbrev VK := V → Hp → Prop
/-- an expression's reading; a test's; an argument list's -/
abbrev TE := St → Hp → VK → Prop
abbrev TT := St → Hp → (Bool → Hp → Prop) → Prop
abbrev TA := St → Hp → (List V → Hp → Prop) → Prop
/-- what is wanted behind a statement -/
structure Ends where
 nx : St → Hp → Prop
 rt : VK
 bk : St → Hp → Prop := fun _ _ => False
 ct : St → Hp → Prop := fun _ _ => False
abbrev TS := Ends → St → Hp → Prop
def EP (X : Cx) (pins : List (Addr × Obj)) (σ : St) (Q : VK) (u : Value) (s' : Shared) : Prop := ∃ v H', Inv X pins σ H' s' ∧ RelV v u ∧ Q v H'
def TP (X : Cx) (pins : List (Addr × Obj)) (σ : St) (Q : Bool → Hp → Prop) (b : Bool) (s' : Shared) : Prop := ∃ H', Inv X pins σ H' s' ∧ Q b H'
def AP (X : Cx) (pins : List (Addr × Obj)) (σ : St) (Q : List V → Hp → Prop) (us : List Value) (s' : Shared) : Prop := ∃ vs H', Inv X pins σ H' s' ∧ Vals vs us ∧ Q vs H'
def SP (X : Cx) (pins : List (Addr × Obj)) (D : Ends) (f : Flow) (s' : Shared) : Prop :=
 match f with
 | .next => ∃ σ' H', Inv X pins σ' H' s' ∧ D.nx σ' H'
 | .brk => ∃ σ' H', Inv X pins σ' H' s' ∧ D.bk σ' H'
 | .cont => ∃ σ' H', Inv X pins σ' H' s' ∧ D.ct σ' H'
 | .ret u => ∃ v σ' H', Inv X pins σ' H' s' ∧ RelV v u ∧ D.rt v H'
def PE (X : Cx) (e : Expr) (t : TE) : Prop :=
 ∀ (pins : List (Addr × Obj)) (s : Shared) (σ : St) (H : Hp) (Q : VK), Inv X pins σ H s → t σ H Q → wpAny (model X.prog X.w) X.A (eval e X.env) (EP X pins σ Q) X.xe s
def PT (X : Cx) (e : Expr) (t : TT) : Prop :=
 ∀ (pins : List (Addr × Obj)) (s : Shared) (σ : St) (H : Hp) (Q : Bool → Hp → Prop), Inv X pins σ H s → t σ H Q → wpAny (model X.prog X.w) X.A (isTrue e X.env (eval e X.env)) (TP X pins σ Q) X.xe s
/-- a test whatever its 'whole' is (and, or) -/
def PW (X : Cx) (e : Expr) (t : TT) : Prop :=
 ∀ (whole : Sem Value) (pins : List (Addr × Obj)) (s : Shared) (σ : St) (H : Hp) (Q : Bool → Hp → Prop), Inv X pins σ H s → t σ H Q → wpAny (model X.prog X.w) X.A (isTrue e X.env whole) (TP X pins σ Q) X.xe s
theorem PW.pt {X : Cx} {e : Expr} {t : TT} (h : PW X e t) : PT X e t := h _
/-- an argument list (no star), from the left -/
def PA (X : Cx) (es : List Expr) (t : TA) : Prop :=
 ∀ (pos : Pos) (pins : List (Addr × Obj)) (s : Shared) (σ : St) (H : Hp) (Q : List V → Hp → Prop), Inv X pins σ H s → t σ H Q → wpAny (model X.prog X.w) X.A (spliced (backTo pos (starEach es X.env))) (AP X pins σ Q) X.xe s
def PS (X : Cx) (st : Stmt) (t : TS) : Prop :=
 ∀ (pins : List (Addr × Obj)) (s : Shared) (σ : St) (H : Hp) (D : Ends), Inv X pins σ H s → t D σ H → wpAny (model X.prog X.w) X.A (exec st X.env) (SP X pins D) X.xe s
def PSs (X : Cx) (st : List Stmt) (t : TS) : Prop :=
 ∀ (pins : List (Addr × Obj)) (s : Shared) (σ : St) (H : Hp) (D : Ends), Inv X pins σ H s → t D σ H → wpAny (model X.prog X.w) X.A (execs st X.env) (SP X pins D) X.xe s
/-- weaken the end -/
theorem thn {α : Type} {t : Sem α} {Q Q' : α → Shared → Prop} {M : Model} {A : Around} {E : Value → Shared → Prop} {s : Shared} (h : wpAny M A t Q E s) (hQ : ∀ a s, Q a s → Q' a s) : wpAny M A t Q' E s := wpAny_mono h hQ fun _ _ x => x
end L2
namespace L2
open PySem PySem.Spec PyProof.Rows
section
variable {X : Cx}
def tVar (i : Nat) : TE := fun σ H Q => ∃ v, σ[i]? = some (some v) ∧ Q v H
def tC (v : V) : TE := fun _ H Q => Q v H
theorem zil {i : Nat} {x : Str} {pos : Pos} (hN : X.N[i]? = some x) (hv : Vis X.env.scope x) (hd : (x == ("__debug__" : Str)) = false := by decide) (hcd : (x == ("__classdict__" : Str)) = false := by decide) : PE X (.Name x pos) (tVar i) := by
 intro pins s σ H Q I h
 obtain ⟨v, e, h⟩ := h
 obtain ⟨m, hn, hl⟩ := I.loc
 obtain ⟨u, r, l⟩ := hl i x v hN e hv
 have fin : EP X pins σ Q u s := ⟨v, H, I, r, h⟩
 rcases l with ⟨hk, hm⟩ | ⟨hk, c, hc, hcell⟩
 ·exact wpAny_Name (wpAny_loadName_local I.ok.kind hk hn hm fin) hd
 ·rcases hk with hk | hk
  ·exact wpAny_Name (wpAny_loadName_cell I.ok.kind hk hc hcell fin) hd
  ·exact wpAny_Name (wpAny_loadName_free I.ok.kind hk hc hcell fin hcd) hd
theorem zaf {i j pos} : PE X (.Constant (.int i) j pos) (tC (.int i)) := fun _ _ _ H _ I h => wpAny_Constant_int ⟨.int i, H, I.tok _, ⟨_, rfl⟩, h⟩
theorem zcB {b j pos} : PE X (.Constant (.bool b) j pos) (tC (.bl b)) := fun _ _ _ H _ I h => Constant_bool ⟨.bl b, H, I, rfl, h⟩
theorem zdG {j pos} : PE X (.Constant .none j pos) (tC .non) := fun _ _ _ H _ I h => Constant_none ⟨.non, H, I, rfl, h⟩
theorem zak {x j pos} : PE X (.Constant (.str x) j pos) (tC (.str x)) := fun _ _ _ H _ I h => Calls.Constant_str ⟨.str x, H, I.tok _, ⟨_, rfl⟩, h⟩
/-- a global name of the def -/
def Gl (X : Cx) (x : Str) : Prop := X.env.kindOf x = some .globalImplicit
theorem zfu {E : Value → Shared → Prop} {pins : List (Addr × Obj)} {s : Shared} {σ : St} {H : Hp} {x : Str} {u : Value} {pos : Pos} {Q : Value → Shared → Prop} (I : Inv X pins σ H s) (hg : Gl X x) (hm : X.mg x = some u) (h : Q u s)
  (hd : (x == ("__debug__" : Str)) = false := by decide) : wpAny (model X.prog X.w) X.A (eval (.Name x pos) X.env) Q E s :=
 Calls.Name_function_global I.ok.kind hg (Calls.loadGlobal_global (by rw [I.ok.glob]; exact I.mod.glob.keeps I.bk) hm h) hd
theorem zbV {E : Value → Shared → Prop} {pins : List (Addr × Obj)} {s : Shared} {σ : St} {H : Hp} {x : Str} {u : Value} {pos : Pos} {Q : Value → Shared → Prop} (I : Inv X pins σ H s) (hg : Gl X x) (hm : X.mg x = none) (hv : bootBuiltins x = some u) (h : Q u s)
  (hn : x ≠ "__name__" := by decide) (hd : (x == ("__debug__" : Str)) = false := by decide) : wpAny (model X.prog X.w) X.A (eval (.Name x pos) X.env) Q E s := by
 obtain ⟨mb, h1, h2⟩ := I.mod.blt
 exact Calls.Name_function_global I.ok.kind hg (Calls.loadGlobal_builtin (by rw [I.ok.glob]; exact I.mod.glob.keeps I.bk) hm (by rw [I.ok.blt]; exact h1.keeps I.bk) ((h2 x hn).trans hv) h) hd
/-- a module's constant, a class, a function, as a value -/
theorem zdl {x : Str} {v : V} {u : Value} {pos : Pos} (hg : Gl X x) (hm : X.mg x = some u) (r : RelV v u) (hd : (x == ("__debug__" : Str)) = false := by decide) : PE X (.Name x pos) (tC v) :=
 fun _ _ _ H _ I h => zfu I hg hm ⟨v, H, I, r, h⟩ hd
theorem zc3 {x : Str} {v : V} {u : Value} {pos : Pos} (hg : Gl X x) (hm : X.mg x = none) (hv : bootBuiltins x = some u) (r : RelV v u) (hn : x ≠ "__name__" := by decide) (hd : (x == ("__debug__" : Str)) = false := by decide) : PE X (.Name x pos) (tC v) :=
 fun _ _ _ H _ I h => zbV I hg hm hv ⟨v, H, I, r, h⟩ hn hd
variable {a b : Expr} {ta tb : TE} {pos : Pos}
def PC (X : Cx) (op : CmpOp) (a b : Expr) (t : TE) : Prop :=
 ∀ (pins : List (Addr × Obj)) (s : Shared) (σ : St) (H : Hp) (Q : VK), Inv X pins σ H s → t σ H Q →
  wpAny (model X.prog X.w) X.A (eval a X.env) (fun v s₁ => wpAny (model X.prog X.w) X.A (eval b X.env) (fun u s₂ => wpAny (model X.prog X.w) X.A (compareOp op v u) (EP X pins σ Q) X.xe s₂) X.xe s₁) X.xe s
theorem zf9 (b : Expr) {op : CmpOp} (h : op ≠ .In) (h2 : op ≠ .NotIn) : behindInMarks op b = false := by
 have e1 : (op == CmpOp.In) = false := by cases op <;> first | rfl | exact absurd rfl h
 have e2 : (op == CmpOp.NotIn) = false := by cases op <;> first | rfl | exact absurd rfl h2
 cases b <;> simp [behindInMarks, e1, e2]
/-- is None -/
def tIsN (ta : TE) : TE := fun σ H Q => ta σ H fun x H1 => Q (.bl (decide (x = .non))) H1
def zhX (ta : TE) : TE := fun σ H Q => ta σ H fun x H1 => Q (.bl (!decide (x = .non))) H1
theorem RelV.none_iff {x : V} {v : Value} (r : RelV x v) : (v == Value.none) = decide (x = .non) := by
 cases x with
 | non => cases r; rfl
 | bl _ => cases r; rfl
 | int _ => obtain ⟨t, rfl⟩ := r; rfl
 | str _ => obtain ⟨t, rfl⟩ := r; rfl
 | byt _ => obtain ⟨t, rfl⟩ := r; rfl
 | flt _ => obtain ⟨t, rfl⟩ := r; rfl
 | ref _ => cases r; rfl
 | ty _ => cases r; rfl
theorem zdW {j pos'} (ha : PE X a ta) : PC X .IsNot a (.Constant .none j pos') (zhX ta) := by
 intro pins s σ H Q I h
 refine thn (ha pins s σ H _ I h) fun v s1 ⟨x, H1, I1, r1, q1⟩ => ?_
 exact Constant_none (isnot_none_gen ⟨.bl _, H1, I1, by rw [r1.none_iff]; rfl, q1⟩)
/-- a comparison as a value, as a test -/
def tB (t : TE) : TT := fun σ H Q => t σ H fun x H1 => ∃ c, x = .bl c ∧ Q c H1
theorem zcs {op : CmpOp} {t : TE} (h : PC X op a b t) (h1 : behindInMarks op b = false := by first | exact zf9 _ (by decide) (by decide) | rfl) : PT X (.Compare a [op] [b] pos) (tB t) := by
 intro pins s σ H Q I hw
 refine wpAny_isTrue_Compare1 (thn (h pins s σ H _ I hw) fun v s1 h1 => thn h1 fun u s2 h2 => thn h2 fun c s3 ⟨x, H1, I1, r1, q1⟩ => ?_) h1
 obtain ⟨d, rfl, q⟩ := q1
 cases r1
 exact wpAny_truthy_bool ⟨H1, I1, q⟩
/-- an expression whose value is a bool, as a test -/
theorem zbD {e : Expr} {t : TE} (h : PE X e t) (he : ∀ whole, isTrue e X.env whole = (do let v ← whole; standAt e.pos; holding [v] (truthy v)) := by intro _; rfl) : PT X e (tB t) := by
 intro pins s σ H Q I hw
 refine isTrue_plain (thn (h pins s σ H _ I hw) fun v s1 ⟨x, H1, I1, r1, q1⟩ => ?_) (he _)
 obtain ⟨d, rfl, q⟩ := q1
 cases r1
 exact wpAny_truthy_bool ⟨H1, I1, q⟩
variable {tA tB' : TT} {rest : List Expr}
def tAnd (t u : TT) : TT := fun σ H Q => t σ H fun c H1 => if c = true then u σ H1 Q else Q false H1
def tOr (t u : TT) : TT := fun σ H Q => t σ H fun c H1 => if c = true then Q true H1 else u σ H1 Q
def tNot (t : TT) : TT := fun σ H Q => t σ H fun c H1 => Q (!c) H1
theorem za6 (ha : PT X a tA) : PW X (.BoolOp .And [a] pos) tA := by
 intro wh pins s σ H Q I h
 refine isTrue_and (thn (ha pins s σ H Q I h) fun c s1 e => ?_)
 cases c with
 | true => exact isTrue_and_nil e
 | false => exact e
theorem zck (ha : PT X a tA) : PW X (.BoolOp .Or [a] pos) tA := by
 intro wh pins s σ H Q I h
 refine isTrue_or (thn (ha pins s σ H Q I h) fun c s1 e => ?_)
 cases c with
 | false => exact isTrue_or_nil e
 | true => exact e
theorem zbe (ha : PT X a tA) (hb : PW X (.BoolOp .And (b :: rest) pos) tB') : PW X (.BoolOp .And (a :: b :: rest) pos) (tAnd tA tB') := by
 intro wh pins s σ H Q I h
 refine isTrue_and (thn (ha pins s σ H _ I h) fun c s1 ⟨H1, I1, q1⟩ => ?_)
 cases c with
 | true => exact hb wh pins s1 σ H1 Q I1 q1
 | false => exact ⟨H1, I1, q1⟩
theorem zcS (ha : PT X a tA) (hb : PW X (.BoolOp .Or (b :: rest) pos) tB') : PW X (.BoolOp .Or (a :: b :: rest) pos) (tOr tA tB') := by
 intro wh pins s σ H Q I h
 refine isTrue_or (thn (ha pins s σ H _ I h) fun c s1 ⟨H1, I1, q1⟩ => ?_)
 cases c with
 | true => exact ⟨H1, I1, q1⟩
 | false => exact hb wh pins s1 σ H1 Q I1 q1
theorem zcv (ha : PT X a tA) : PT X (.UnaryOp .Not a pos) (tNot tA) := by
 intro pins s σ H Q I h
 exact isTrue_not (ha pins s σ H (fun c H1 => Q (!c) H1) I h)
/-- .. as values (bools) -/
def zio (ta tb : TE) : TE := fun σ H Q => ta σ H fun x H1 => ∃ c, x = .bl c ∧ if c = true then tb σ H1 Q else Q (.bl false) H1
def tOrV (ta tb : TE) : TE := fun σ H Q => ta σ H fun x H1 => ∃ c, x = .bl c ∧ if c = true then Q (.bl true) H1 else tb σ H1 Q
def zix (ta : TE) : TE := fun σ H Q => ta σ H fun x H1 => ∃ c, x = .bl c ∧ Q (.bl (!c)) H1
theorem zg4 {op} {t : TE} (h : PE X a t) : PE X (.BoolOp op [a] pos) t := fun pins s σ H Q I hw => BoolOp_one (h pins s σ H Q I hw)
theorem zh9 (ha : PE X a ta) (hb : PE X (.BoolOp .And (b :: rest) pos) tb) : PE X (.BoolOp .And (a :: b :: rest) pos) (zio ta tb) := by
 intro pins s σ H Q I h
 refine BoolOp_and (thn (ha pins s σ H _ I h) fun v s1 ⟨x, H1, I1, r1, q1⟩ => ?_)
 obtain ⟨c, rfl, q1⟩ := q1
 cases r1
 refine wpAny_truthy_bool ?_
 cases c with
 | true => exact hb pins s1 σ H1 Q I1 q1
 | false => exact ⟨.bl false, H1, I1, rfl, q1⟩
theorem pe_or (ha : PE X a ta) (hb : PE X (.BoolOp .Or (b :: rest) pos) tb) : PE X (.BoolOp .Or (a :: b :: rest) pos) (tOrV ta tb) := by
 intro pins s σ H Q I h
 refine BoolOp_or (thn (ha pins s σ H _ I h) fun v s1 ⟨x, H1, I1, r1, q1⟩ => ?_)
 obtain ⟨c, rfl, q1⟩ := q1
 cases r1
 refine wpAny_truthy_bool ?_
 cases c with
 | false => exact hb pins s1 σ H1 Q I1 q1
 | true => exact ⟨.bl true, H1, I1, rfl, q1⟩
theorem ziG (ha : PE X a ta) : PE X (.UnaryOp .Not a pos) (zix ta) := by
 intro pins s σ H Q I h
 refine UnaryOp_ (thn (ha pins s σ H _ I h) fun v s1 ⟨x, H1, I1, r1, q1⟩ => ?_)
 obtain ⟨c, rfl, q1⟩ := q1
 cases r1
 exact not_of (wpAny_truthy_bool ⟨.bl (!c), H1, I1, rfl, q1⟩)
/-- a if t else b -/
def tIf (t : TT) (ta tb : TE) : TE := fun σ H Q => t σ H fun c H1 => if c = true then ta σ H1 Q else tb σ H1 Q
theorem zgT {c : Expr} (hc : PT X c tA) (ha : PE X a ta) (hb : PE X b tb) : PE X (.IfExp c a b pos) (tIf tA ta tb) := by
 intro pins s σ H Q I h
 refine wpAny_IfExp (thn (hc pins s σ H _ I h) fun d s1 ⟨H1, I1, q1⟩ => ?_)
 cases d with
 | true => exact ha pins s1 σ H1 Q I1 q1
 | false => exact hb pins s1 σ H1 Q I1 q1
end
end L2
namespace L2
open PySem PySem.Spec PyProof.Rows
def SqL (K : PySem.W.Frag) (H : Hp) (a : Addr) (xs : List V) : Prop :=
 Rd H a (.lst xs) ∨
  ∃ (o : Obj) (its : Array Value) (n : Nat), K.lookup a = some o ∧ o.cls = .type "list" ∧ o.dict = none ∧ o.data = .seq its n ∧ its.size ≤ sizeLine ∧ Vals xs its.toList
def SqT (K : PySem.W.Frag) (H : Hp) (a : Addr) (xs : List V) : Prop :=
 Rd H a (.tup xs) ∨
  ∃ (o : Obj) (its : Array Value) (n : Nat), K.lookup a = some o ∧ o.cls = .type "tuple" ∧ o.data = .seq its n ∧ its.size ≤ sizeLine ∧ Vals xs its.toList
def absV : Value → Option V
 | .none => some .non
 | .bool b => some (.bl b)
 | .int i _ => some (.int i)
 | .str x _ => some (.str x)
 | .bytes b _ => some (.byt b)
 | .float b _ => some (.flt b)
 | .ref a => some (.ref a)
 | .type n => some (.ty n)
 | _ => none
theorem RelV.abs {x : V} {u : Value} (r : RelV x u) : absV u = some x := by
 cases x with
 | non => cases r; rfl
 | bl _ => cases r; rfl
 | int _ => obtain ⟨t, rfl⟩ := r; rfl
 | str _ => obtain ⟨t, rfl⟩ := r; rfl
 | byt _ => obtain ⟨t, rfl⟩ := r; rfl
 | flt _ => obtain ⟨t, rfl⟩ := r; rfl
 | ref _ => cases r; rfl
 | ty _ => cases r; rfl
theorem RelV.inj {x y : V} {u : Value} (r : RelV x u) (q : RelV y u) : x = y := Option.some.inj (r.abs.symm.trans q.abs)
theorem Vals.inj : ∀ {xs ys : List V} {us : List Value}, Vals xs us → Vals ys us → xs = ys
 | _, _, _, .nil, .nil => rfl
 | _, _, _, .cons r t, .cons r' t' => by rw [r.inj r', Vals.inj t t']
section
variable {X : Cx} {pins : List (Addr × Obj)} {σ : St} {H : Hp} {s : Shared} {a : Addr} {xs ys : List V}
theorem SqL.of {K : PySem.W.Frag} (h : H a = some (.lst xs)) : SqL K H a xs := .inl (.inl h)
theorem SqT.of {K : PySem.W.Frag} (h : H a = some (.tup xs)) : SqT K H a xs := .inl (.inl h)
theorem Inv.list (I : Inv X pins σ H s) (h : SqL X.K H a xs) : ∃ its : List Value, Vals xs its ∧ PlainL s.heap a its.toArray ∧ xs.length ≤ sizeLine := by
 rcases h with h | ⟨o, its, n, hk, hc, hd, hs, hz, r⟩
 ·obtain ⟨z, its, n, r, e⟩ := h.ok I.hok
  exact ⟨its, r, ⟨_, n, e, rfl, rfl, rfl⟩, z⟩
 ·refine ⟨its.toList, r, ⟨o, n, I.kIn a o hk, hc, hd, by simpa using hs⟩, ?_⟩
  have e := r.length
  simp only [Array.length_toList] at e
  omega
theorem Inv.tuple (I : Inv X pins σ H s) (h : SqT X.K H a xs) : ∃ its : List Value, Vals xs its ∧ IsTup s.heap a its.toArray ∧ xs.length ≤ sizeLine := by
 rcases h with h | ⟨o, its, n, hk, hc, hs, hz, r⟩
 ·obtain ⟨z, its, r, p⟩ := h.ok I.hok
  exact ⟨its, r, p, z⟩
 ·refine ⟨its.toList, r, ⟨o, I.kIn a o hk, hc, n, by simpa using hs⟩, ?_⟩
  have e := r.length
  simp only [Array.length_toList] at e
  omega
theorem Inv.list_inj (I : Inv X pins σ H s) (h : SqL X.K H a xs) (h' : SqL X.K H a ys) : xs = ys := by
 obtain ⟨its, r, ⟨o, n, e, _, _, d⟩, _⟩ := I.list h
 obtain ⟨its', r', ⟨o', n', e', _, _, d'⟩, _⟩ := I.list h'
 rw [e] at e'; cases e'
 rw [d] at d'
 injection d' with d1 _
 have : its = its' := by simpa using congrArg Array.toList d1
 subst this
 exact r.inj r'
theorem Inv.tuple_inj (I : Inv X pins σ H s) (h : SqT X.K H a xs) (h' : SqT X.K H a ys) : xs = ys := by
 obtain ⟨its, r, ⟨o, e, _, n, d⟩, _⟩ := I.tuple h
 obtain ⟨its', r', ⟨o', e', _, n', d'⟩, _⟩ := I.tuple h'
 rw [e] at e'; cases e'
 rw [d] at d'
 injection d' with d1 _
 have : its = its' := by simpa using congrArg Array.toList d1
 subst this
 exact r.inj r'
end
abbrev Cx.wish (X : Cx) (E : Value → Shared → Prop) : Cx := { X with xe := E }
/-- no exception leaves -/
abbrev Cx.nox (X : Cx) : Cx := X.wish fun _ _ => False
theorem Cx.Ok.wish {X : Cx} (ok : X.Ok) (E : Value → Shared → Prop) : (X.wish E).Ok :=
 ⟨ok.mod, ok.kind, ok.glob, ok.blt, ok.above, ok.inj, ok.has, ok.cab, ok.hd, ok.frames, ok.stk, ok.exf, ok.bs, ok.bsz, ok.noex, ok.exfs, ok.funs, ok.frf⟩
theorem Cx.Ok.unwish {X : Cx} {E : Value → Shared → Prop} (ok : (X.wish E).Ok) : X.Ok :=
 ⟨ok.mod, ok.kind, ok.glob, ok.blt, ok.above, ok.inj, ok.has, ok.cab, ok.hd, ok.frames, ok.stk, ok.exf, ok.bs, ok.bsz, ok.noex, ok.exfs, ok.funs, ok.frf⟩
section
variable {X : Cx} {pins : List (Addr × Obj)} {σ : St} {H : Hp} {s : Shared} {E : Value → Shared → Prop}
theorem Inv.wish (I : Inv X pins σ H s) (E : Value → Shared → Prop) : Inv (X.wish E) pins σ H s := ⟨I.ok.wish E, I.os, I.bare, I.base, I.loc, I.cell, I.free, I.freeC, I.pin, I.hok, I.len⟩
theorem Inv.unwish (I : Inv (X.wish E) pins σ H s) : Inv X pins σ H s := ⟨I.ok.unwish, I.os, I.bare, I.base, I.loc, I.cell, I.free, I.freeC, I.pin, I.hok, I.len⟩
theorem SP.unwish {D : Ends} {f : Flow} {s' : Shared} (h : SP (X.wish E) pins D f s') : SP X pins D f s' := by
 cases f with
 | next => obtain ⟨σ', H', I, q⟩ := h; exact ⟨σ', H', I.unwish, q⟩
 | brk => obtain ⟨σ', H', I, q⟩ := h; exact ⟨σ', H', I.unwish, q⟩
 | cont => obtain ⟨σ', H', I, q⟩ := h; exact ⟨σ', H', I.unwish, q⟩
 | ret u => obtain ⟨v, σ', H', I, r, q⟩ := h; exact ⟨v, σ', H', I.unwish, r, q⟩
theorem PSs.nox {st : List Stmt} {t : TS} (h : PSs X.nox st t) : PSs X st t := fun pins s σ H D I hw =>
 wpAny_mono (h pins s σ H D (I.wish _) hw) (fun _ _ q => q.unwish) fun _ _ z => False.elim z
end
section
variable {X : Cx} {st : Stmt} {rest : List Stmt} {t u : TS} {e : Expr} {te : TE} {pos : Pos}
def tNext : TS := fun D σ H => D.nx σ H
def tSeq (t u : TS) : TS := fun D σ H => t { D with nx := u D } σ H
theorem pss_nil : PSs X [] tNext := fun _ _ σ H _ I h => wpAny_execs_nil ⟨σ, H, I, h⟩
theorem zae (h1 : PS X st t) (h2 : PSs X rest u) : PSs X (st :: rest) (tSeq t u) := by
 intro pins s σ H D I h
 refine wpAny_execs_cons (thn (h1 pins s σ H { D with nx := u D } I h) fun f s1 q => ?_)
 cases f with
 | next =>
  obtain ⟨σ', H', I', q⟩ := q
  exact h2 pins s1 σ' H' D I' q
 | ret v => exact q
 | brk => exact q
 | cont => exact q
theorem zag (h1 : PS X st t) : PSs X [st] t := by
 intro pins s σ H D I h
 refine wpAny_execs_cons (thn (h1 pins s σ H D I h) fun f s1 q => ?_)
 cases f with
 | next => exact wpAny_execs_nil q
 | ret v => exact q
 | brk => exact q
 | cont => exact q
/-- in a def's body nothing is shown -/
theorem Inv.quiet {pins : List (Addr × Obj)} {σ : St} {H : Hp} {s : Shared} (I : Inv X pins σ H s) : interactive X.env = false := by simp [interactive, I.ok.kind]
/-- an expression whose value is dropped -/
def zcX (te : TE) : TS := fun D σ H => te σ H fun _ H1 => D.nx σ H1
theorem zaS (he : PE X e te) (hs : swapsWith e none pos.line X.env = pure false := by rfl) : PS X (.Expr e pos) (zcX te) := by
 intro pins s σ H D I h
 exact wpAny_Expr_any (thn (he pins s σ H _ I h) fun v s1 ⟨x, H1, I1, r1, q1⟩ => ⟨σ, H1, I1, q1⟩) I.quiet hs
def tRet (te : TE) : TS := fun D σ H => te σ H D.rt
theorem zat (he : PE X e te) : PS X (.Return (some e) pos) (tRet te) := by
 intro pins s σ H D I h
 exact wpAny_Return_some (thn (he pins s σ H _ I h) fun v s1 ⟨x, H1, I1, r1, q1⟩ => ⟨x, σ, H1, I1, r1, q1⟩)
def tRetN : TS := fun D _ H => D.rt .non H
def tIfS (c : TT) (t u : TS) : TS := fun D σ H => c σ H fun b H1 => if b = true then t D σ H1 else u D σ H1
theorem zaN {c : Expr} {a b : List Stmt} {tc : TT} (hc : PT X c tc) (ha : PSs X a t) (hb : PSs X b u) : PS X (.If c a b pos) (tIfS tc t u) := by
 intro pins s σ H D I h
 refine wpAny_If (thn (hc pins s σ H _ I h) fun d s1 ⟨H1, I1, q1⟩ => ?_)
 cases d with
 | true => exact ha pins s1 σ H1 D I1 q1
 | false => exact hb pins s1 σ H1 D I1 q1
end
abbrev TG := V → St → Hp → (St → Hp → Prop) → Prop
abbrev TGs := List V → St → Hp → (St → Hp → Prop) → Prop
def PG (X : Cx) (target : Expr) (t : TG) : Prop :=
 ∀ (pins : List (Addr × Obj)) (s : Shared) (σ : St) (H : Hp) (v : V) (u : Value) (Q : St → Hp → Prop), Inv X pins σ H s → RelV v u → t v σ H Q →
  wpAny (model X.prog X.w) X.A (assign target X.env u) (fun _ s' => ∃ σ' H', Inv X pins σ' H' s' ∧ Q σ' H') X.xe s
/-- several targets, one after another -/
def PGs (X : Cx) (ts : List Expr) (t : TGs) : Prop :=
 ∀ (pins : List (Addr × Obj)) (s : Shared) (σ : St) (H : Hp) (vs : List V) (us : List Value) (Q : St → Hp → Prop), Inv X pins σ H s → Vals vs us → t vs σ H Q →
  wpAny (model X.prog X.w) X.A (assignInOrder ((assignEach ts X.env).map (·.2)) us) (fun _ s' => ∃ σ' H', Inv X pins σ' H' s' ∧ Q σ' H') X.xe s
/-- o[i] = v, by values -/
abbrev TSet := V → V → V → Hp → (Hp → Prop) → Prop
def PSet (X : Cx) (t : TSet) : Prop :=
 ∀ (pins : List (Addr × Obj)) (s : Shared) (σ : St) (H : Hp) (o i v : V) (ov iv u : Value) (Q : Hp → Prop), Inv X pins σ H s → RelV o ov → RelV i iv → RelV v u → t o i v H Q →
  wpAny (model X.prog X.w) X.A (setItem ov iv u) (fun _ s' => ∃ H', Inv X pins σ H' s' ∧ Q H') X.xe s
/-- a op= b, by values -/
abbrev TIp := V → V → Hp → VK → Prop
section
variable {X : Cx} {pos : Pos}
def za2 (i : Nat) : TG := fun v σ H Q => Q (σ.set i (some v)) H
theorem zav {i : Nat} {x : Str} (hN : X.N.Nodup) (hi : X.N[i]? = some x) (hx : Loc X.env.scope x) (hf : X.fn x = true ∨ X.env.scope.names.lookup x = some .local := by first | exact .inl rfl | exact .inr rfl | assumption) : PG X (.Name x pos) (za2 i) := by
 intro pins s σ H v u Q I r h
 exact wpAny_assign_Name (zem I hN hi hx r (fun s' I' => ⟨_, H, I', h⟩) hf)
def gNil : TGs := fun vs σ H Q => vs = [] ∧ Q σ H
def zh1 (t : TG) (u : TGs) : TGs := fun vs σ H Q => ∃ v r, vs = v :: r ∧ t v σ H fun σ' H' => u r σ' H' Q
theorem pgs_nil : PGs X [] gNil := by
 intro pins s σ H vs us Q I r h
 obtain ⟨e, h⟩ := h
 subst e
 cases r
 exact assignInOrder_nil ⟨σ, H, I, h⟩
theorem zaH {e : Expr} {es : List Expr} {t : TG} {u : TGs} (h1 : PG X e t) (h2 : PGs X es u)
  (hs : (assignEach (e :: es) X.env).map (·.2) = assign e X.env :: (assignEach es X.env).map (·.2) := by rfl) : PGs X (e :: es) (zh1 t u) := by
 intro pins s σ H vs us Q I r h
 obtain ⟨v, vr, e1, h⟩ := h
 subst e1
 cases r with
 | cons r rr =>
  rw [hs]
  refine assignInOrder_cons (thn (h1 pins s σ H _ _ _ I r h) fun _ s1 ⟨σ1, H1, I1, q1⟩ => ?_)
  exact h2 pins s1 σ1 H1 _ _ Q I1 rr q1
/-- (a, b, ..) = a tuple of that length -/
def gTup (K : PySem.W.Frag) (n : Nat) (t : TGs) : TG := fun v σ H Q => ∃ a xs, v = .ref a ∧ SqT K H a xs ∧ xs.length = n ∧ t xs σ H Q
theorem zb0 {es : List Expr} {k : Nat} {t : TGs} {n : Nat} (hc : X.calm = true) (h : PGs X es t)
  (hn : (assignEach es X.env).length = n := by rfl) (hst : (assignEach es X.env).findIdx? (·.1) = none := by rfl) : PG X (.Tuple es k pos) (gTup X.K n t) := by
 intro pins s σ H v u Q I r hw
 obtain ⟨a, xs, e1, hq, hl, hw⟩ := hw
 subst e1
 cases r
 obtain ⟨its, rv, ht, hz⟩ := I.tuple hq
 refine assign_Tuple_tuple (I.ok.hd hc) ht (by simp [hn, ← hl, rv.length]) hst fun h' hx => ?_
 have I1 : Inv X pins σ H { s with heap := h' } := I.kept (t' := s.toks) fun b o e => hx b o (Nat.ne_of_lt (Heap.lt_size e)) e
 exact h pins _ σ H xs _ Q I1 (by simpa using rv) hw
/-- o[i] = .. -/
def gSub (to ti : TE) (t : TSet) : TG := fun v σ H Q => to σ H fun o H1 => ti σ H1 fun i H2 => t o i v H2 fun H3 => Q σ H3
theorem zdH {o i : Expr} {to ti : TE} {t : TSet} (ho : PE X o to) (hi : PE X i ti) (hs : PSet X t)
  (ha : ∀ v, assign (.Subscript o i pos) X.env v = (do
   let ov ← holding [v] (eval o X.env)
   let iv ← holding [v, ov] (eval i X.env)
   standAt pos
   holding [v, ov, iv] (setItem ov iv v)
   release [v, ov, iv] []) := by intro _; rfl) : PG X (.Subscript o i pos) (gSub to ti t) := by
 intro pins s σ H v u Q I r h
 rw [ha]
 refine wpAny_bind (wpAny_holding (thn (ho pins s σ H _ I h) fun ov s1 ⟨x, H1, I1, r1, q1⟩ => ?_))
 refine wpAny_bind (wpAny_holding (thn (hi pins s1 σ H1 _ I1 q1) fun iv s2 ⟨y, H2, I2, r2, q2⟩ => ?_))
 refine wpAny_bind (wpAny_standAt (wpAny_bind (wpAny_holding (thn (hs pins s2 σ H2 x y v ov iv u _ I2 r1 r2 r q2) fun _ s3 ⟨H3, I3, q3⟩ => ?_))))
 exact wpAny_release ⟨σ, H3, I3, q3⟩
/-- target = value -/
def tAsg (te : TE) (g : TG) : TS := fun D σ H => te σ H fun x H1 => g x σ H1 D.nx
theorem zcH {tg e : Expr} {te : TE} {g : TG} (he : PE X e te) (hg : PG X tg g) (hs : swapsWithSole [tg] e pos.line X.env = pure false := by rfl) (hw : swappedStores [tg] e X.env = pure none := by rfl)
  (h1 : (assignEach [tg] X.env).map (·.2) = [assign tg X.env] := by rfl) : PS X (.Assign [tg] e pos) (tAsg te g) := by
 intro pins s σ H D I h
 refine wpAny_Assign_stores (thn (he pins s σ H _ I h) fun v s1 ⟨x, H1, I1, r1, q1⟩ => ?_) hs hw
 rw [h1]
 exact thn (hg pins s1 σ H1 x v _ I1 r1 q1) fun _ s2 q => q
/-- name = value -/
theorem zaC {i : Nat} {x : Str} {e : Expr} {te : TE} {pos' : Pos} (hN : X.N.Nodup) (hi : X.N[i]? = some x) (hx : Loc X.env.scope x) (he : PE X e te) (hs : swapsWith e (some (.Name x pos')) pos.line X.env = pure false := by rfl) (hf : X.fn x = true ∨ X.env.scope.names.lookup x = some .local := by first | exact .inl rfl | exact .inr rfl | assumption) :
  PS X (.Assign [.Name x pos'] e pos) (tAsg te (za2 i)) := by
 intro pins s σ H D I h
 refine wpAny_Assign_Name (thn (he pins s σ H _ I h) fun v s1 ⟨y, H1, I1, r1, q1⟩ => ?_) hs
 exact zem I1 hN hi hx r1 (fun s2 I2 => ⟨_, H1, I2, q1⟩) hf
/-- name op= e -/
def tAug (i : Nat) (te : TE) (ti : TIp) : TS := fun D σ H => ∃ x, σ[i]? = some (some x) ∧ te σ H fun y H1 => ti x y H1 fun z H2 => D.nx (σ.set i (some z)) H2
/-- ints -/
def ipI (f : Int → Int → Int) : TIp := fun x y H Q => ∃ i j, x = .int i ∧ y = .int j ∧ Q (.int (f i j)) H
end
section
variable {X : Cx} {pos : Pos}
/-- the invariant W with its measure -/
def zej (c : TT) (tb : TS) : TS := fun D σ H => ∃ W : Nat → St → Hp → Prop, (∃ m, W m σ H) ∧ ∀ m σ H, W m σ H →
 c σ H fun b H1 => if b = true then ∃ N : St → Hp → Prop, (∀ σ' H', N σ' H' → ∃ m', m' < m ∧ W m' σ' H') ∧ tb { D with nx := N, ct := N, bk := D.nx } σ H1 else D.nx σ H1
theorem zdj {c : Expr} {body : List Stmt} {tc : TT} {tb : TS} (hp : PassesOwn (model X.prog X.w) X.A X.env X.xe) (hc : PT X c tc) (hb : PSs X body tb) : PS X (.While c body [] pos) (zej tc tb) := by
 intro pins s σ H D I h
 obtain ⟨W, ⟨m0, w0⟩, turn⟩ := h
 refine wpAny_While (codeAny_whileLoop (fun n s' => ∃ σ' H', Inv X pins σ' H' s' ∧ W n σ' H') ?_ m0 ⟨σ, H, I, w0⟩)
 rintro n s1 ⟨σ1, H1, I1, w1⟩
 refine wpAny_passesOwn hp (thn (hc pins s1 σ1 H1 _ I1 (turn n σ1 H1 w1)) fun b s2 ⟨H2, I2, q2⟩ => ?_)
 cases b with
 | true =>
  obtain ⟨N, hN, q2⟩ := q2
  rw [if_pos rfl]
  refine wpAny_passesOwn hp (thn (hb pins s2 σ1 H2 _ I2 q2) fun f s3 q3 => ?_)
  cases f with
  | next =>
   obtain ⟨σ3, H3, I3, n3⟩ := q3
   obtain ⟨m', hm, w3⟩ := hN σ3 H3 n3
   exact ⟨m', hm, σ3, H3, I3, w3⟩
  | cont =>
   obtain ⟨σ3, H3, I3, n3⟩ := q3
   obtain ⟨m', hm, w3⟩ := hN σ3 H3 n3
   exact ⟨m', hm, σ3, H3, I3, w3⟩
  | brk => exact q3
  | ret v => exact q3
 | false =>
  rw [if_neg Bool.false_ne_true]
  exact wpAny_execs_nil ⟨σ1, H2, I2, q2⟩
end
/-- at turn i: it yields x (the heap may grow), or it stops -/
structure It where
 go : Nat → Hp → Prop
 yld : Nat → Hp → V → Hp → Prop
 stop : Nat → Hp → Prop
/-- the iterator's own objects may turn: they are not the frame's, not pinned, younger than the entry (or a comprehension's own) -/
def FpOk (X : Cx) (pins : List (Addr × Obj)) (H : Hp) (b : Addr) : Prop :=
 H b = none ∧ b ≠ X.env.locals ∧ b ∉ X.fs ∧ (b ∈ X.ex ∨ X.s₀.heap.objs.size ≤ b) ∧ (∀ x c, X.env.cells.lookup x = some c → c ≠ b) ∧ ∀ p ∈ X.pn ++ pins, p.1 ≠ b
theorem Inv.fpOk {X : Cx} {pins : List (Addr × Obj)} {σ : St} {H H' : Hp} {s : Shared} {b : Addr} (I : Inv X pins σ H s) (hb : s.heap.objs.size ≤ b) (hn : H' b = none) : FpOk X pins H' b := by
 refine ⟨hn, Nat.ne_of_gt (Nat.lt_of_lt_of_le I.lt hb), I.nofs hb, .inr (Nat.le_trans I.sz hb), fun x c e z => ?_, fun p hp z => ?_⟩
 ·obtain ⟨v, q⟩ := I.cell x c e
  exact absurd (Nat.lt_of_lt_of_le q.lt (by rw [z]; exact hb)) (Nat.lt_irrefl _)
 ·exact absurd (Nat.lt_of_lt_of_le (Heap.lt_size (I.pin p hp).1) (by rw [z]; exact hb)) (Nat.lt_irrefl _)
structure Turn (P : Program) (w : World) (K : PySem.W.Frag) (tg : Expr) (J : It) (fp : List Addr) (it : Addr) (tn : Nat → Heap → Prop) : Prop where
 mem : it ∈ fp
 obj : ∀ i h, tn i h → ∀ b ∈ fp, ∃ o, h.get? b = some o ∧ ∀ v, o.data ≠ .cell v
 keep : ∀ i h h', tn i h → (∀ b ∈ fp, ∀ o, h.get? b = some o → h'.get? b = some o) → tn i h'
 item : ∀ (X : Cx), X.prog = P → X.w = w → X.K = K → X.calm = true → ∀ (i : Nat) (pins : List (Addr × Obj)) (s : Shared) (σ : St) (H : Hp) (E : Value → Shared → Prop), Inv X pins σ H s → (∀ b ∈ fp, FpOk X pins H b) → tn i s.heap → J.go i H →
  wpAny (model P w) X.A (pyNext (.ref it)) (fun r s1 => ∃ u, r = some u ∧
   wpAny (model P w) X.A (letOwnedTupleGo tg (.ref it) u) (fun _ s2 => ∃ x H', Inv X pins σ H' s2 ∧ RelV x u ∧ J.yld i H x H' ∧ tn (i + 1) s2.heap ∧ ∀ b ∈ fp, H' b = none) E s1) E s
 done : ∀ (X : Cx), X.prog = P → X.w = w → X.K = K → X.calm = true → ∀ (i : Nat) (pins : List (Addr × Obj)) (s : Shared) (σ : St) (H : Hp) (E : Value → Shared → Prop), Inv X pins σ H s → (∀ b ∈ fp, FpOk X pins H b) → tn i s.heap → J.stop i H →
  wpAny (model P w) X.A (pyNext (.ref it)) (fun r s1 => r = none ∧ Inv X pins σ H s1) E s
 self : ∀ (A : Around) (i : Nat) (s : Shared) (Q : Value → Shared → Prop) (E : Value → Shared → Prop), tn i s.heap → Q (.ref it) s → wpAny (model P w) A (pyIter (.ref it)) Q E s
abbrev TI := St → Hp → (It → Hp → Prop) → Prop
/-- an iterator has come -/
def PIE (X : Cx) (pins : List (Addr × Obj)) (σ : St) (tg : Expr) (R : It → Hp → Prop) (itv : Value) (s2 : Shared) : Prop :=
 ∃ (it : Addr) (fp : List Addr) (tn : Nat → Heap → Prop) (J : It) (H' : Hp), itv = .ref it ∧ Inv X pins σ H' s2 ∧ Turn X.prog X.w X.K tg J fp it tn ∧ tn 0 s2.heap ∧ (∀ b ∈ fp, FpOk X pins H' b) ∧ R J H'
def PI (X : Cx) (tg iter : Expr) (wi : TI) : Prop :=
 ∀ (pins : List (Addr × Obj)) (s : Shared) (σ : St) (H : Hp) (R : It → Hp → Prop), Inv X pins σ H s → wi σ H R →
  wpAny (model X.prog X.w) X.A (eval iter X.env) (fun v s1 => wpAny (model X.prog X.w) X.A (pyIter v) (PIE X pins σ tg R) X.xe s1) X.xe s
/-- the step ahead of the store is nothing for an iterator that keeps no tuple -/
theorem zgR {M : Model} {A : Around} {E : Value → Shared → Prop} {s : Shared} {tg : Expr} {it : Addr} {u : Value} {o : Obj} {n : String} {vs : Array Value} {Q : Unit → Shared → Prop} (ho : s.heap.get? it = some o) (hc : o.cls = .type n) (hd : o.data = .fields vs)
    (hn : ["enumerate", "zip", "dict_itemiterator", "dict_reverseitemiterator", "odict_iterator", "itertools.zip_longest", "itertools.pairwise"].contains n = false) (hQ : Q () s) : wpAny M A (letOwnedTupleGo tg (.ref it) u) Q E s := by
  unfold letOwnedTupleGo
  cases tg <;> first
    | exact wpAny_pure hQ
    | (cases u <;> first
        | exact wpAny_pure hQ
        | (refine wpAny_bind (wpAny_load ho ?_)
           rw [hc, hd]
           show wpAny M A (if (["enumerate", "zip", "dict_itemiterator", "dict_reverseitemiterator", "odict_iterator", "itertools.zip_longest", "itertools.pairwise"].contains n && vs[0]? == some (rawInt _)) = true then _ else _) Q E s
           rw [if_neg (by intro h; rw [hn, Bool.false_and] at h; cases h)]
           exact wpAny_pure hQ))
/-- the list at a, as it stands at each turn (a loop may append to it) -/
def Itl (K : PySem.W.Frag) (a : Addr) : It :=
 ⟨fun i H => ∃ xs x, SqL K H a xs ∧ xs[i]? = some x, fun i H x H' => H' = H ∧ ∀ xs, SqL K H a xs → xs[i]? = some x, fun i H => ∃ xs, SqL K H a xs ∧ xs.length ≤ i⟩
def Itt (K : PySem.W.Frag) (a : Addr) : It :=
 ⟨fun i H => ∃ xs x, SqT K H a xs ∧ xs[i]? = some x, fun i H x H' => H' = H ∧ ∀ xs, SqT K H a xs → xs[i]? = some x, fun i H => ∃ xs, SqT K H a xs ∧ xs.length ≤ i⟩
/-- lo, lo + 1, .. (n of them) -/
def Itr (lo : Int) (n : Nat) : It := ⟨fun i _ => i < n, fun i H x H' => H' = H ∧ x = .int (lo + i), fun i _ => n ≤ i⟩
theorem zfV {P : Program} {w : World} {K : PySem.W.Frag} {tg : Expr} (a it : Addr) : Turn P w K tg (Itl K a) [it] it (fun i h => h.IsListIter it a i) where
 mem := by simp
 obj := fun i h st b hb => by
  have e : b = it := by simpa using hb
  subst e
  obtain ⟨o, e, c, d⟩ := st
  exact ⟨o, e, fun v z => by rw [d] at z; cases z⟩
 keep := fun i h h' st k => st.at fun o e => k it (by simp) o e
 item := by
  intro X hP hw hK hc i pins s σ H E I hf st hg
  subst hP hw hK
  obtain ⟨xs, x, hq, hx⟩ := hg
  obtain ⟨its, rv, p, hz⟩ := I.list hq
  obtain ⟨u, hu, ru⟩ := rv.get hx
  obtain ⟨f0, f1, f2, f3, f4, f5⟩ := hf it (by simp)
  refine wpAny_pyNext_list_item st p.isList (x := u) (by simpa using hu) fun h' st' sb => ?_
  have I1 : Inv X pins σ H { s with heap := h' } := I.turned (t' := s.toks) (fun b o hb e => (sb.2 b hb).trans e) f0 f1 f3 f4 f5
  obtain ⟨o, e, c, d⟩ := id st'
  exact ⟨u, rfl, zgR (s := { s with heap := h' }) e c d (by decide) ⟨x, H, I1, ru, ⟨rfl, fun ys hy => by rw [I.list_inj hy hq]; exact hx⟩, st', fun b hb => (hf b hb).1⟩⟩
 done := by
  intro X hP hw hK hc i pins s σ H E I hf st hg
  subst hP hw hK
  obtain ⟨xs, hq, hx⟩ := hg
  obtain ⟨its, rv, p, hz⟩ := I.list hq
  obtain ⟨f0, f1, f2, f3, f4, f5⟩ := hf it (by simp)
  have hl := rv.length
  exact wpAny_pyNext_list_end (I.ok.hd hc) st p.isList (by simp; omega) fun h' eb => ⟨rfl, I.turned (t' := s.toks) (fun b o hb e => eb b o hb e) f0 f1 f3 f4 f5⟩
 self := fun _ _ _ _ _ st h => wpAny_pyIter_listiter st h
theorem zeO {P : Program} {w : World} {K : PySem.W.Frag} {tg : Expr} (a it : Addr) : Turn P w K tg (Itt K a) [it] it (fun i h => h.IsTupleIter it a i) where
 mem := by simp
 obj := fun i h st b hb => by
  have e : b = it := by simpa using hb
  subst e
  obtain ⟨o, e, c, d⟩ := st
  exact ⟨o, e, fun v z => by rw [d] at z; cases z⟩
 keep := fun i h h' st k => st.at fun o e => k it (by simp) o e
 item := by
  intro X hP hw hK hc i pins s σ H E I hf st hg
  subst hP hw hK
  obtain ⟨xs, x, hq, hx⟩ := hg
  obtain ⟨its, rv, p, hz⟩ := I.tuple hq
  obtain ⟨u, hu, ru⟩ := rv.get hx
  obtain ⟨f0, f1, f2, f3, f4, f5⟩ := hf it (by simp)
  refine wpAny_pyNext_tuple_item st (show s.heap.IsTuple a its.toArray from p) (x := u) (by simpa using hu) fun h' st' sb => ?_
  have I1 : Inv X pins σ H { s with heap := h' } := I.turned (t' := s.toks) (fun b o hb e => (sb.2 b hb).trans e) f0 f1 f3 f4 f5
  obtain ⟨o, e, c, d⟩ := id st'
  exact ⟨u, rfl, zgR (s := { s with heap := h' }) e c d (by decide) ⟨x, H, I1, ru, ⟨rfl, fun ys hy => by rw [I.tuple_inj hy hq]; exact hx⟩, st', fun b hb => (hf b hb).1⟩⟩
 done := by
  intro X hP hw hK hc i pins s σ H E I hf st hg
  subst hP hw hK
  obtain ⟨xs, hq, hx⟩ := hg
  obtain ⟨its, rv, p, hz⟩ := I.tuple hq
  obtain ⟨f0, f1, f2, f3, f4, f5⟩ := hf it (by simp)
  have hl := rv.length
  exact wpAny_pyNext_tuple_end (I.ok.hd hc) st (show s.heap.IsTuple a its.toArray from p) (by simp; omega) fun h' eb => ⟨rfl, I.turned (t' := s.toks) (fun b o hb e => eb b o hb e) f0 f1 f3 f4 f5⟩
 self := fun _ _ _ _ _ st h => wpAny_pyIter_tupleiter st h
theorem ze0 {P : Program} {w : World} {K : PySem.W.Frag} {tg : Expr} (it : Addr) (lo : Int) (n : Nat) : Turn P w K tg (Itr lo n) [it] it (fun i h => IsRangeIter h it (lo + (i : Nat) * 1) ((n : Int) - (i : Nat)) 1) where
 mem := by simp
 obj := fun i h st b hb => by
  have e : b = it := by simpa using hb
  subst e
  exact ⟨_, st, fun v z => by
   have z' : Data.fields _ = Data.cell v := z
   cases z'⟩
 keep := fun i h h' st k => k it (by simp) _ st
 item := by
  intro X hP hw hK hc i pins s σ H E I hf st hg
  subst hP hw hK
  obtain ⟨f0, f1, f2, f3, f4, f5⟩ := hf it (by simp)
  have W := Walks.range (prog := X.prog) (w := X.w) (I.ok.hd hc) it lo 1 n
  refine W.item i s _ _ hg st fun v h' tk hv st' kk => ?_
  obtain ⟨t, rfl⟩ := hv
  have I1 : Inv X pins σ H { s with heap := h', toks := tk } := I.turned (fun b o hb e => kk b o (by simpa using hb) e) f0 f1 f3 f4 f5
  refine ⟨_, rfl, zgR (s := { s with heap := h', toks := tk }) (n := "range_iterator") st' rfl rfl (by decide) ⟨.int (lo + i), H, I1, ⟨t, ?_⟩, ⟨rfl, rfl⟩, st', fun b hb => (hf b hb).1⟩⟩
  rw [Int.mul_one]
 done := by
  intro X hP hw hK hc i pins s σ H E I hf st hg
  subst hP hw hK
  obtain ⟨f0, f1, f2, f3, f4, f5⟩ := hf it (by simp)
  exact wpAny_pyNext_range_end (I.ok.hd hc) st (by have : n ≤ i := hg; omega) fun h' eb => ⟨rfl, I.turned (t' := s.toks) (fun b o hb e => eb b o hb e) f0 f1 f3 f4 f5⟩
 self := fun _ _ _ _ _ st h => wpAny_pyIter_rangeiter st h
end L2
namespace L2
open PySem PySem.Spec PyProof.Rows
section
variable {X : Cx} {tg : Expr}
def zeg (K : PySem.W.Frag) (tl : TE) : TI := fun σ H R => tl σ H fun x H1 => ∃ a, x = .ref a ∧ (∃ xs, SqL K H1 a xs) ∧ R (Itl K a) H1
def iTup (K : PySem.W.Frag) (tl : TE) : TI := fun σ H R => tl σ H fun x H1 => ∃ a, x = .ref a ∧ (∃ xs, SqT K H1 a xs) ∧ R (Itt K a) H1
theorem zaO {l : Expr} {tl : TE} (hl : PE X l tl) : PI X tg l (zeg X.K tl) := by
 intro pins s σ H R I h
 refine thn (hl pins s σ H _ I h) fun v s1 ⟨x, H1, I1, r1, q1⟩ => ?_
 obtain ⟨a, e, ⟨xs, hq⟩, q⟩ := q1
 subst e
 cases r1
 obtain ⟨its, rv, p, hz⟩ := I1.list hq
 refine wpAny_pyIter_list p.isList ?_
 refine ⟨s1.heap.objs.size, [s1.heap.objs.size], _, _, H1, rfl, I1.kept (t' := s1.toks) fun b o e => Heap.get?_push_of_some _ e, zfV a _, ⟨_, Heap.get?_push_size _ rfl, rfl, rfl⟩, fun b hb => ?_, q⟩
 have e : b = s1.heap.objs.size := by simpa using hb
 subst e
 exact I1.fpOk (Nat.le_refl _) (I1.hok.fresh (Nat.le_refl _))
theorem ziL {l : Expr} {tl : TE} (hl : PE X l tl) : PI X tg l (iTup X.K tl) := by
 intro pins s σ H R I h
 refine thn (hl pins s σ H _ I h) fun v s1 ⟨x, H1, I1, r1, q1⟩ => ?_
 obtain ⟨a, e, ⟨xs, hq⟩, q⟩ := q1
 subst e
 cases r1
 obtain ⟨its, rv, p, hz⟩ := I1.tuple hq
 refine wpAny_pyIter_tuple (show s1.heap.IsTuple a its.toArray from p) ?_
 refine ⟨s1.heap.objs.size, [s1.heap.objs.size], _, _, H1, rfl, I1.kept (t' := s1.toks) fun b o e => Heap.get?_push_of_some _ e, zeO a _, ⟨_, Heap.get?_push_size _ rfl, rfl, rfl⟩, fun b hb => ?_, q⟩
 have e : b = s1.heap.objs.size := by simpa using hb
 subst e
 exact I1.fpOk (Nat.le_refl _) (I1.hok.fresh (Nat.le_refl _))
/-- a range object just made, walked -/
theorem zgD {pins : List (Addr × Obj)} {σ : St} {H : Hp} {s : Shared} {R : It → Hp → Prop} {E : Value → Shared → Prop} {lo hi : Int} {t u v : Tok} {tk : Nat} (I : Inv X pins σ H s) (h1 : -(2 ^ 62) ≤ lo) (h2 : lo < 2 ^ 62) (h3 : -(2 ^ 62) ≤ hi) (h4 : hi < 2 ^ 62)
  (q : R (Itr lo (hi - lo).toNat) H) : wpAny (model X.prog X.w) X.A (pyIter (.ref s.heap.objs.size)) (PIE X pins σ tg R) E { s with heap := s.heap.push { cls := .type "range", data := .fields #[.int lo t, .int hi u, .int 1 v] }, toks := tk } := by
 refine wpAny_pyIter_range (IsRange.new ..) (small_one h1 h2 h3 h4) ?_
 have I1 : Inv X pins σ H { s with heap := s.heap.push { cls := .type "range", data := .fields #[.int lo t, .int hi u, .int 1 v] }, toks := tk } := I.kept fun b o e => Heap.get?_push_of_some _ e
 refine ⟨(s.heap.push { cls := .type "range", data := .fields #[.int lo t, .int hi u, .int 1 v] }).objs.size, [(s.heap.push { cls := .type "range", data := .fields #[.int lo t, .int hi u, .int 1 v] }).objs.size], _, _, H, rfl,
  I1.kept (t' := tk) fun b o e => Heap.get?_push_of_some _ e, ze0 _ lo (hi - lo).toNat, ?_, fun b hb => ?_, q⟩
 ·have e1 : lo + ((0 : Nat) : Int) * 1 = lo := by simp
  have e2 : (((hi - lo).toNat : Nat) : Int) - ((0 : Nat) : Int) = Builtin.Range.rangeSize lo hi 1 := by rw [rangeSize_one]; split <;> omega
  show IsRangeIter _ _ (lo + ((0 : Nat) : Int) * 1) ((((hi - lo).toNat : Nat) : Int) - ((0 : Nat) : Int)) 1
  rw [e1, e2]
  exact Heap.get?_push_size _ rfl
 ·have e : b = (s.heap.push { cls := .type "range", data := .fields #[.int lo t, .int hi u, .int 1 v] }).objs.size := by simpa using hb
  subst e
  exact I1.fpOk (Nat.le_refl _) (I1.hok.fresh (Nat.le_refl _))
def zdF (ta : TA) : TI := fun σ H R => ta σ H fun vs H1 => ∃ j : Int, vs = [.int j] ∧ -(2 ^ 62) ≤ j ∧ j < 2 ^ 62 ∧ R (Itr 0 j.toNat) H1
theorem zaW {a : Expr} {ta : TA} {p pos : Pos} (hg : Gl X "range") (hm : X.mg "range" = none) (ha : PA X [a] ta) (hs : starEach [a] X.env = [(false, eval a X.env)] := by rfl) : PI X tg (.Call (.Name "range" p) [a] [] pos) (zdF ta) := by
 intro pins s σ H R I h
 refine Call_ (zbV I hg hm boot_range (PyProof.Rows.callWith_type1 (thn (ha pos pins s σ H _ I h) fun us s1 ⟨vs, H1, I1, r1, q1⟩ => ?_) hs rfl))
 obtain ⟨j, e, q1, q2, q⟩ := q1
 subst e
 cases r1 with
 | cons r rr =>
  cases rr
  obtain ⟨t, rfl⟩ := r
  exact call_range_1 (zgD I1 (by omega) (by omega) q1 q2 (by simpa using q))
/-- W: the invariant by the turn and a measure; N: what the body is to reach -/
def tFor (wi : TI) (g : TG) (tb : TS) : TS := fun D σ H => wi σ H fun J H1 => ∃ W : Nat → Nat → St → Hp → Prop, (∃ m, W 0 m σ H1) ∧ ∀ i m σ H, W i m σ H →
 (J.stop i H ∧ D.nx σ H) ∨ (J.go i H ∧ ∃ N : St → Hp → Prop, (∀ σ' H', N σ' H' → ∃ m', m' < m ∧ W (i + 1) m' σ' H') ∧ ∀ x H', J.yld i H x H' → g x σ H' fun σ2 H2 => tb { D with nx := N, ct := N, bk := D.nx } σ2 H2)
/-- the records at fp as they stand -/
def zdv (fp : List Addr) (h : Heap) : List (Addr × Obj) := fp.filterMap fun b => (h.get? b).map fun o => (b, o)
theorem zbn {fp : List Addr} {h : Heap} {b : Addr} {o : Obj} (hb : b ∈ fp) (e : h.get? b = some o) : (b, o) ∈ zdv fp h := List.mem_filterMap.mpr ⟨b, hb, by rw [e]; rfl⟩
theorem zfg {fp : List Addr} {h : Heap} {p : Addr × Obj} (hp : p ∈ zdv fp h) : p.1 ∈ fp ∧ h.get? p.1 = some p.2 := by
 obtain ⟨b, hb, e⟩ := List.mem_filterMap.mp hp
 cases q : h.get? b with
 | none => rw [q] at e; cases e
 | some o =>
  rw [q] at e
  have e' : (b, o) = p := Option.some.inj e
  subst e'
  exact ⟨hb, q⟩
theorem Inv.pinned {pins : List (Addr × Obj)} {σ : St} {H : Hp} {s : Shared} {fp : List Addr} (I : Inv X pins σ H s) (hf : ∀ b ∈ fp, FpOk X pins H b) (ho : ∀ b ∈ fp, ∃ o, s.heap.get? b = some o ∧ ∀ v, o.data ≠ .cell v) : Inv X (pins ++ zdv fp s.heap) σ H s :=
 I.pins_of fun p hp => (List.mem_append.mp hp).elim (fun z => I.pin p (List.mem_append_right _ z)) fun z => by
  obtain ⟨hb, e⟩ := zfg z
  obtain ⟨f0, f1, f2, _⟩ := hf p.1 hb
  obtain ⟨o, e', d⟩ := ho p.1 hb
  rw [e] at e'; cases e'
  exact ⟨e, f0, f1, f2, d⟩
theorem Inv.unpinned {pins pl : List (Addr × Obj)} {σ : St} {H : Hp} {s : Shared} (I : Inv X (pins ++ pl) σ H s) : Inv X pins σ H s := I.pins_of fun p hp => I.pin p (List.mem_append_right _ (List.mem_append_left _ hp))
theorem za0 {iter : Expr} {body : List Stmt} {wi : TI} {g : TG} {tb : TS} {pos : Pos} (hp : PassesOwn (model X.prog X.w) X.A X.env X.xe) (hc : X.calm = true) (hi : PI X tg iter wi) (hg : PG X tg g) (hb : PSs X body tb)
  (hs : ∀ x, foldedSetIterable iter X.env x = pure x := by intro _; rfl) : PS X (.For tg iter body [] pos) (tFor wi g tb) := by
 intro pins s σ H D I h
 refine wpAny_For (thn (hi pins s σ H _ I h) fun v s1 h1 => thn h1 fun itv s2 h2 => ?_) hs
 obtain ⟨it, fp, tn, J, H2, e, I2, T, st2, f2, W, ⟨m0, w0⟩, turn⟩ := h2
 subst e
 have stat : ∀ {H' : Hp}, (∀ b ∈ fp, H' b = none) → ∀ b ∈ fp, FpOk X pins H' b := fun hn b hb => ⟨hn b hb, (f2 b hb).2⟩
 refine codeAny_forLoop_any (fun n s' => ∃ i σ' H', Inv X pins σ' H' s' ∧ tn i s'.heap ∧ (∀ b ∈ fp, H' b = none) ∧ W i n σ' H') ?_ m0 ⟨0, σ, H2, I2, st2, fun b hb => (f2 b hb).1, w0⟩
 rintro n s3 ⟨i, σ3, H3, I3, st3, fr3, w3⟩
 rcases turn i n σ3 H3 w3 with ⟨stop, qn⟩ | ⟨go, N, hN, step⟩
 ·refine wpAny_passesOwn hp (thn (T.done X rfl rfl rfl hc i pins s3 σ3 H3 X.xe I3 (stat fr3) st3 stop) fun r s4 ⟨hr, I4⟩ => ?_)
  subst hr
  exact wpAny_execs_nil ⟨σ3, H3, I4, qn⟩
 ·refine wpAny_passesOwn hp (thn (T.item X rfl rfl rfl hc i pins s3 σ3 H3 X.xe I3 (stat fr3) st3 go) fun r s4 ⟨u, hr, h4⟩ => ?_)
  subst hr
  refine wpAny_passesOwn hp (thn h4 fun _ s5 ⟨x, H5, I5, r5, y5, st5, fr5⟩ => ?_)
  have I5' := I5.pinned (stat fr5) (T.obj _ _ st5)
  refine wpAny_passesOwn hp (thn (hg _ s5 σ3 H5 x u _ I5' r5 (step x H5 y5)) fun _ s6 ⟨σ6, H6, I6, q6⟩ => ?_)
  refine wpAny_passesOwn hp (thn (hb _ s6 σ6 H6 _ I6 q6) fun f s7 q7 => ?_)
  have again : ∀ {σ7 : St} {H7 : Hp}, Inv X (pins ++ zdv fp s5.heap) σ7 H7 s7 → N σ7 H7 → ∃ m, m < n ∧ ∃ i σ' H', Inv X pins σ' H' s7 ∧ tn i s7.heap ∧ (∀ b ∈ fp, H' b = none) ∧ W i m σ' H' := fun {σ7 H7} I7 n7 => by
   obtain ⟨m', hm, w7⟩ := hN σ7 H7 n7
   refine ⟨m', hm, i + 1, σ7, H7, I7.unpinned, T.keep _ _ _ st5 fun b hb o e => (I7.pin (b, o) (List.mem_append_right _ (List.mem_append_right _ (zbn hb e)))).1, fun b hb => ?_, w7⟩
   obtain ⟨o, e, d⟩ := T.obj _ _ st5 b hb
   exact (I7.pin (b, o) (List.mem_append_right _ (List.mem_append_right _ (zbn hb e)))).2.1
  cases f with
  | next => obtain ⟨σ7, H7, I7, n7⟩ := q7; exact again I7 n7
  | cont => obtain ⟨σ7, H7, I7, n7⟩ := q7; exact again I7 n7
  | brk => obtain ⟨σ7, H7, I7, q7⟩ := q7; exact ⟨σ7, H7, I7.unpinned, q7⟩
  | ret v => obtain ⟨x7, σ7, H7, I7, r7, q7⟩ := q7; exact ⟨x7, σ7, H7, I7.unpinned, r7, q7⟩
end
/-- over a list that the body leaves as it is -/
theorem zeq {K : PySem.W.Frag} {a : Addr} {xs : List V} {g : TG} {tb : TS} {D : Ends} {σ : St} {H : Hp} (Pv : Nat → St → Hp → Prop) (h0 : Pv 0 σ H) (hl : ∀ i σ H, i ≤ xs.length → Pv i σ H → SqL K H a xs)
  (hs : ∀ i x σ H, xs[i]? = some x → Pv i σ H → g x σ H fun σ2 H2 => tb { D with nx := Pv (i + 1), ct := Pv (i + 1), bk := D.nx } σ2 H2) (hd : ∀ σ H, Pv xs.length σ H → D.nx σ H) :
  ∃ W : Nat → Nat → St → Hp → Prop, (∃ m, W 0 m σ H) ∧ ∀ i m σ H, W i m σ H →
   ((Itl K a).stop i H ∧ D.nx σ H) ∨ ((Itl K a).go i H ∧ ∃ N : St → Hp → Prop, (∀ σ' H', N σ' H' → ∃ m', m' < m ∧ W (i + 1) m' σ' H') ∧ ∀ x H', (Itl K a).yld i H x H' → g x σ H' fun σ2 H2 => tb { D with nx := N, ct := N, bk := D.nx } σ2 H2) := by
 refine ⟨fun i m σ H => m = xs.length - i ∧ i ≤ xs.length ∧ Pv i σ H, ⟨xs.length, by simp, Nat.zero_le _, h0⟩, ?_⟩
 rintro i m σ H ⟨rfl, hi, p⟩
 have q := hl i σ H hi p
 by_cases hlt : i < xs.length
 ·refine .inr ⟨⟨xs, xs[i], q, by simp [hlt]⟩, Pv (i + 1), fun σ' H' p' => ⟨xs.length - (i + 1), by omega, rfl, hlt, p'⟩, fun x H' y => ?_⟩
  obtain ⟨e, y⟩ := y
  subst e
  exact hs i x σ _ (y xs q) p
 ·have e : i = xs.length := by omega
  subst e
  exact .inl ⟨⟨xs, q, Nat.le_refl _⟩, hd σ H p⟩
theorem zfs {lo : Int} {n : Nat} {g : TG} {tb : TS} {D : Ends} {σ : St} {H : Hp} (Pv : Nat → St → Hp → Prop) (h0 : Pv 0 σ H)
  (hs : ∀ i σ H, i < n → Pv i σ H → g (.int (lo + i)) σ H fun σ2 H2 => tb { D with nx := Pv (i + 1), ct := Pv (i + 1), bk := D.nx } σ2 H2) (hd : ∀ σ H, Pv n σ H → D.nx σ H) :
  ∃ W : Nat → Nat → St → Hp → Prop, (∃ m, W 0 m σ H) ∧ ∀ i m σ H, W i m σ H →
   ((Itr lo n).stop i H ∧ D.nx σ H) ∨ ((Itr lo n).go i H ∧ ∃ N : St → Hp → Prop, (∀ σ' H', N σ' H' → ∃ m', m' < m ∧ W (i + 1) m' σ' H') ∧ ∀ x H', (Itr lo n).yld i H x H' → g x σ H' fun σ2 H2 => tb { D with nx := N, ct := N, bk := D.nx } σ2 H2) := by
 refine ⟨fun i m σ H => m = n - i ∧ i ≤ n ∧ Pv i σ H, ⟨n, by simp, Nat.zero_le _, h0⟩, ?_⟩
 rintro i m σ H ⟨rfl, hi, p⟩
 by_cases hlt : i < n
 ·refine .inr ⟨hlt, Pv (i + 1), fun σ' H' p' => ⟨n - (i + 1), by omega, rfl, hlt, p'⟩, fun x H' y => ?_⟩
  obtain ⟨e, y⟩ := y
  subst e y
  exact hs i σ _ hlt p
 ·have e : i = n := by omega
  subst e
  exact .inl ⟨Nat.le_refl _, hd σ H p⟩
end L2
namespace L2
open PySem PySem.Spec PyProof.Rows
abbrev R2 := V → V → Hp → VK → Prop
/-- a two-place operation on values: f is binaryOp op, inplaceOp op or compareOp op -/
def OpR (X : Cx) (f : Value → Value → Sem Value) (r : R2) : Prop :=
 ∀ (pins : List (Addr × Obj)) (s : Shared) (σ : St) (H : Hp) (x y : V) (v u : Value) (Q : VK), Inv X pins σ H s → RelV x v → RelV y u → r x y H Q →
  wpAny (model X.prog X.w) X.A (f v u) (EP X pins σ Q) X.xe s
/-- a one-place operation -/
def UnR (X : Cx) (f : Value → Sem Value) (r : V → Hp → VK → Prop) : Prop :=
 ∀ (pins : List (Addr × Obj)) (s : Shared) (σ : St) (H : Hp) (x : V) (v : Value) (Q : VK), Inv X pins σ H s → RelV x v → r x H Q →
  wpAny (model X.prog X.w) X.A (f v) (EP X pins σ Q) X.xe s
/-- a call of a value that is known (a builtin, a type) with values -/
def zbr (X : Cx) (f : Value) (r : List V → Hp → VK → Prop) : Prop :=
 ∀ (pins : List (Addr × Obj)) (s : Shared) (σ : St) (H : Hp) (xs : List V) (us : List Value) (Q : VK), Inv X pins σ H s → Vals xs us → r xs H Q →
  wpAny (model X.prog X.w) X.A (call f us) (EP X pins σ Q) X.xe s
/-- a value's truth -/
def TruR (X : Cx) (r : V → Hp → (Bool → Hp → Prop) → Prop) : Prop :=
 ∀ (pins : List (Addr × Obj)) (s : Shared) (σ : St) (H : Hp) (x : V) (v : Value) (Q : Bool → Hp → Prop), Inv X pins σ H s → RelV x v → r x H Q →
  wpAny (model X.prog X.w) X.A (truthy v) (TP X pins σ Q) X.xe s
def tOp (r : R2) (ta tb : TE) : TE := fun σ H Q => ta σ H fun x H1 => tb σ H1 fun y H2 => r x y H2 Q
def tUn (r : V → Hp → VK → Prop) (ta : TE) : TE := fun σ H Q => ta σ H fun x H1 => r x H1 Q
/-- ints in, under C, and a value out -/
def rI (C : Int → Int → Prop) (g : Int → Int → V) : R2 := fun x y H Q => ∃ i j, x = .int i ∧ y = .int j ∧ C i j ∧ Q (g i j) H
def rI0 (g : Int → Int → V) : R2 := fun x y H Q => ∃ i j, x = .int i ∧ y = .int j ∧ Q (g i j) H
def rU (g : Int → V) : V → Hp → VK → Prop := fun x H Q => ∃ i, x = .int i ∧ Q (g i) H
section
variable {X : Cx} {a b c : Expr} {ta tb tc : TE} {pos : Pos}
theorem binT (ha : PE X a ta) (hb : PE X b tb) {pins : List (Addr × Obj)} {s : Shared} {σ : St} {H : Hp} {R : V → V → Hp → Prop} (I : Inv X pins σ H s)
  (h : ta σ H fun x H1 => tb σ H1 fun y H2 => R x y H2) {Q : Value → Shared → Prop} {f : Value → Value → Sem Value}
  (hf : ∀ v u s2 x y H2, Inv X pins σ H2 s2 → RelV x v → RelV y u → R x y H2 → wpAny (model X.prog X.w) X.A (f v u) Q X.xe s2) :
  wpAny (model X.prog X.w) X.A (eval a X.env) (fun v s₁ => wpAny (model X.prog X.w) X.A (eval b X.env) (fun u s₂ => wpAny (model X.prog X.w) X.A (f v u) Q X.xe s₂) X.xe s₁) X.xe s := by
 refine thn (ha pins s σ H _ I h) fun v s1 ⟨x, H1, I1, r1, q1⟩ => ?_
 refine thn (hb pins s1 σ H1 _ I1 q1) fun u s2 ⟨y, H2, I2, r2, q2⟩ => ?_
 exact hf v u s2 x y H2 I2 r1 r2 q2
theorem zaJ {op : Operator} {r : R2} (ho : OpR X (binaryOp op) r) (ha : PE X a ta) (hb : PE X b tb) : PE X (.BinOp a op b pos) (tOp r ta tb) := by
 intro pins s σ H Q I h
 exact wpAny_BinOp (binT ha hb I h fun v u s2 x y H2 I2 rx ry q => ho pins s2 σ H2 x y v u Q I2 rx ry q)
theorem zeb {op : UnaryOp} {r : V → Hp → VK → Prop} (ho : UnR X (unaryOp op) r) (ha : PE X a ta) : PE X (.UnaryOp op a pos) (tUn r ta) := by
 intro pins s σ H Q I h
 exact UnaryOp_ (thn (ha pins s σ H _ I h) fun v s1 ⟨x, H1, I1, r1, q1⟩ => ho pins s1 σ H1 x v Q I1 r1 q1)
theorem opI {f : Value → Value → Sem Value} {C : Int → Int → Prop} {g : Int → Int → Int}
  (rule : ∀ (i j : Int) (t u : Tok) (s : Shared) (Q : Value → Shared → Prop) (E : Value → Shared → Prop), C i j → Q (.int (g i j) s.toks) { s with toks := s.toks + 1 } → wpAny (model X.prog X.w) X.A (f (.int i t) (.int j u)) Q E s) :
  OpR X f (rI C fun i j => .int (g i j)) := by
 intro pins s σ H x y v u Q I rx ry h
 obtain ⟨i, j, rfl, rfl, hc, q⟩ := h
 obtain ⟨t, rfl⟩ := rx
 obtain ⟨t', rfl⟩ := ry
 exact rule i j t t' s _ _ hc ⟨.int (g i j), H, I.tok _, ⟨_, rfl⟩, q⟩
theorem opI0 {f : Value → Value → Sem Value} {g : Int → Int → Int}
  (rule : ∀ (i j : Int) (t u : Tok) (s : Shared) (Q : Value → Shared → Prop) (E : Value → Shared → Prop), Q (.int (g i j) s.toks) { s with toks := s.toks + 1 } → wpAny (model X.prog X.w) X.A (f (.int i t) (.int j u)) Q E s) :
  OpR X f (rI0 fun i j => .int (g i j)) := by
 intro pins s σ H x y v u Q I rx ry h
 obtain ⟨i, j, rfl, rfl, q⟩ := h
 obtain ⟨t, rfl⟩ := rx
 obtain ⟨t', rfl⟩ := ry
 exact rule i j t t' s _ _ ⟨.int (g i j), H, I.tok _, ⟨_, rfl⟩, q⟩
theorem opB0 {f : Value → Value → Sem Value} {g : Int → Int → Bool}
  (rule : ∀ (i j : Int) (t u : Tok) (s : Shared) (Q : Value → Shared → Prop) (E : Value → Shared → Prop), Q (.bool (g i j)) s → wpAny (model X.prog X.w) X.A (f (.int i t) (.int j u)) Q E s) :
  OpR X f (rI0 fun i j => .bl (g i j)) := by
 intro pins s σ H x y v u Q I rx ry h
 obtain ⟨i, j, rfl, rfl, q⟩ := h
 obtain ⟨t, rfl⟩ := rx
 obtain ⟨t', rfl⟩ := ry
 exact rule i j t t' s _ _ ⟨.bl (g i j), H, I, rfl, q⟩
def CPow (i j : Int) : Prop := 0 ≤ j ∧ j ≤ 1000000 ∧ i.natAbs < 2 ^ 64
def CMul (i j : Int) : Prop := (-(2 ^ 64) < i ∧ i < 2 ^ 64) ∨ (-(2 ^ 64) < j ∧ j < 2 ^ 64)
theorem CMul.ok {i j : Int} (h : CMul i j) : IntMulOk i j := by
 rcases h with ⟨h1, h2⟩ | ⟨h1, h2⟩
 ·exact .of_left (intBits_le_64 h1 h2)
 ·exact .of_right (intBits_le_64 h1 h2)
theorem op_add : OpR X (binaryOp .Add) (rI0 fun i j => .int (i + j)) := opI0 fun _ _ _ _ _ _ _ q => add_int q
theorem op_sub : OpR X (binaryOp .Sub) (rI0 fun i j => .int (i - j)) := opI0 fun _ _ _ _ _ _ _ q => sub_int q
theorem op_mul : OpR X (binaryOp .Mult) (rI CMul fun i j => .int (i * j)) := opI fun _ _ _ _ _ _ _ hc q => mul_int q hc.ok
/-- % by a positive divisor of any size -/
theorem op_mod : OpR X (binaryOp .Mod) (rI (fun _ j => 0 < j) fun i j => .int (i % j)) := opI fun i j _ _ _ _ _ hc q => by
 have h1 : (0 : Int) < j := hc
 exact mod_int' (by omega) (by rw [Int.fmod_eq_emod_of_nonneg i (by omega)]; exact q)
theorem op_pow : OpR X (binaryOp .Pow) (rI CPow fun i j => .int (i ^ j.toNat)) := opI fun _ _ _ _ _ _ _ hc q => pow_int_small hc.1 hc.2.1 hc.2.2 q
theorem unI {f : Value → Sem Value} {g : Int → Int}
  (rule : ∀ (i : Int) (t : Tok) (s : Shared) (Q : Value → Shared → Prop) (E : Value → Shared → Prop), Q (.int (g i) s.toks) { s with toks := s.toks + 1 } → wpAny (model X.prog X.w) X.A (f (.int i t)) Q E s) :
  UnR X f (rU fun i => .int (g i)) := by
 intro pins s σ H x v Q I rx h
 obtain ⟨i, rfl, q⟩ := h
 obtain ⟨t, rfl⟩ := rx
 exact rule i t s _ _ ⟨.int (g i), H, I.tok _, ⟨_, rfl⟩, q⟩
theorem un_neg : UnR X (unaryOp .USub) (rU fun i => .int (-i)) := unI fun _ _ _ _ _ q => neg_int q
end
/-- the scalars that == tells apart as data does -/
def scal : V → V → Bool
 | .non, .non => true | .non, .int _ => true | .int _, .non => true | .non, .bl _ => true | .bl _, .non => true | .non, .str _ => true | .str _, .non => true
 | .int _, .int _ => true | .bl _, .bl _ => true | .str _, .str _ => true | .byt _, .byt _ => true
 | .int _, .str _ => true | .str _, .int _ => true | .bl _, .str _ => true | .str _, .bl _ => true
 | _, _ => false
def rEq : R2 := fun x y H Q => scal x y = true ∧ Q (.bl (decide (x = y))) H
def rNe : R2 := fun x y H Q => scal x y = true ∧ Q (.bl (!decide (x = y))) H
theorem zfX {i j : Int} : decide (V.int i = V.int j) = (i == j) := by
 rw [Bool.eq_iff_iff]
 simp
theorem zha {i j : Bool} : decide (V.bl i = V.bl j) = (i == j) := by
 rw [Bool.eq_iff_iff]
 simp
theorem ze4 {i j : Str} : decide (V.str i = V.str j) = (i == j) := by
 rw [Bool.eq_iff_iff]
 simp
theorem ze8 {i j : Array UInt8} : decide (V.byt i = V.byt j) = (i.toList == j.toList) := by
 rw [Bool.eq_iff_iff]
 cases i
 cases j
 simp
section
variable {X : Cx} {a b c : Expr} {ta tb tc : TE} {pos : Pos}
theorem zaG {pins : List (Addr × Obj)} {σ : St} {H : Hp} {s : Shared} {Q : VK} {k k' : Bool} (I : Inv X pins σ H s) (q : Q (.bl k) H) (e : k = k') : EP X pins σ Q (.bool k') s := by
 subst e
 exact ⟨.bl k, H, I, rfl, q⟩
theorem op_eq : OpR X (compareOp .Eq) rEq := by
 intro pins s σ H x y v u Q I rx ry h
 obtain ⟨hs, q⟩ := h
 cases x with
 | non =>
  cases rx
  cases y with
  | non => cases ry; exact PySem.EqNone.eq_none_none (zaG I q (by simp))
  | bl j => cases ry; exact PySem.EqNone.eq_none_bool (zaG I q (by simp))
  | int j => obtain ⟨t', rfl⟩ := ry; exact PySem.EqNone.eq_none_int (zaG I q (by simp))
  | str j => obtain ⟨t', rfl⟩ := ry; exact PySem.EqNone.eq_none_str (zaG I q (by simp))
  | _ => exact absurd (show false = true from hs) Bool.false_ne_true
 | bl i =>
  cases rx
  cases y with
  | non => cases ry; exact PySem.EqNone.eq_bool_none (zaG I q (by simp))
  | bl j => cases ry; exact eq_bool (zaG I q zha)
  | str j => obtain ⟨t', rfl⟩ := ry; exact PySem.EqMixed.eq_bool_str (zaG I q (by simp))
  | _ => exact absurd (show false = true from hs) Bool.false_ne_true
 | int i =>
  obtain ⟨t, rfl⟩ := rx
  cases y with
  | non => cases ry; exact PySem.EqNone.eq_int_none (zaG I q (by simp))
  | int j => obtain ⟨t', rfl⟩ := ry; exact eq_int (zaG I q zfX)
  | str j => obtain ⟨t', rfl⟩ := ry; exact PySem.EqMixed.eq_int_str (zaG I q (by simp))
  | _ => exact absurd (show false = true from hs) Bool.false_ne_true
 | str i =>
  obtain ⟨t, rfl⟩ := rx
  cases y with
  | non => cases ry; exact PySem.EqNone.eq_str_none (zaG I q (by simp))
  | bl j => cases ry; exact PySem.EqMixed.eq_str_bool (zaG I q (by simp))
  | int j => obtain ⟨t', rfl⟩ := ry; exact PySem.EqMixed.eq_str_int (zaG I q (by simp))
  | str j => obtain ⟨t', rfl⟩ := ry; exact eq_str (zaG I q ze4)
  | _ => exact absurd (show false = true from hs) Bool.false_ne_true
 | byt i =>
  obtain ⟨t, rfl⟩ := rx
  cases y with
  | byt j => obtain ⟨t', rfl⟩ := ry; exact PySem.W.eq_bytes (zaG I q ze8)
  | _ => exact absurd (show false = true from hs) Bool.false_ne_true
 | _ => cases y <;> exact absurd (show false = true from hs) Bool.false_ne_true
theorem op_ne : OpR X (compareOp .NotEq) rNe := by
 intro pins s σ H x y v u Q I rx ry h
 obtain ⟨hs, q⟩ := h
 cases x with
 | non =>
  cases rx
  cases y with
  | non => cases ry; exact PySem.EqNone.ne_none_none (zaG I q (by simp))
  | bl j => cases ry; exact PySem.EqNone.ne_none_bool (zaG I q (by simp))
  | int j => obtain ⟨t', rfl⟩ := ry; exact PySem.EqNone.ne_none_int (zaG I q (by simp))
  | str j => obtain ⟨t', rfl⟩ := ry; exact PySem.EqNone.ne_none_str (zaG I q (by simp))
  | _ => exact absurd (show false = true from hs) Bool.false_ne_true
 | bl i =>
  cases rx
  cases y with
  | non => cases ry; exact PySem.EqNone.ne_bool_none (zaG I q (by simp))
  | bl j => cases ry; exact ne_bool (zaG I q (congrArg not zha))
  | str j => obtain ⟨t', rfl⟩ := ry; exact PySem.EqMixed.ne_bool_str (zaG I q (by simp))
  | _ => exact absurd (show false = true from hs) Bool.false_ne_true
 | int i =>
  obtain ⟨t, rfl⟩ := rx
  cases y with
  | non => cases ry; exact PySem.EqNone.ne_int_none (zaG I q (by simp))
  | int j => obtain ⟨t', rfl⟩ := ry; exact ne_int (zaG I q (congrArg not zfX))
  | str j => obtain ⟨t', rfl⟩ := ry; exact PySem.EqMixed.ne_int_str (zaG I q (by simp))
  | _ => exact absurd (show false = true from hs) Bool.false_ne_true
 | str i =>
  obtain ⟨t, rfl⟩ := rx
  cases y with
  | non => cases ry; exact PySem.EqNone.ne_str_none (zaG I q (by simp))
  | bl j => cases ry; exact PySem.EqMixed.ne_str_bool (zaG I q (by simp))
  | int j => obtain ⟨t', rfl⟩ := ry; exact PySem.EqMixed.ne_str_int (zaG I q (by simp))
  | str j => obtain ⟨t', rfl⟩ := ry; exact ne_str (zaG I q (congrArg not ze4))
  | _ => exact absurd (show false = true from hs) Bool.false_ne_true
 | byt i =>
  obtain ⟨t, rfl⟩ := rx
  cases y with
  | byt j => obtain ⟨t', rfl⟩ := ry; exact PySem.W.ne_bytes (zaG I q (congrArg not ze8))
  | _ => exact absurd (show false = true from hs) Bool.false_ne_true
 | _ => cases y <;> exact absurd (show false = true from hs) Bool.false_ne_true
theorem op_lt : OpR X (compareOp .Lt) (rI0 fun i j => .bl (decide (i < j))) := opB0 fun _ _ _ _ _ _ _ q => lt_int q
theorem op_gt : OpR X (compareOp .Gt) (rI0 fun i j => .bl (decide (j < i))) := opB0 fun _ _ _ _ _ _ _ q => gt_int q
theorem zaB (b : Expr) {op : CmpOp} (h : op ≠ .In := by decide) (h2 : op ≠ .NotIn := by decide) : behindInMarks op b = false := by
 have e1 : (op == CmpOp.In) = false := by cases op <;> first | rfl | exact absurd rfl h
 have e2 : (op == CmpOp.NotIn) = false := by cases op <;> first | rfl | exact absurd rfl h2
 cases b <;> simp [behindInMarks, e1, e2]
/-- a comparison as a value; hm: zaB b, or (for in, not in) by with_unfolding_all rfl -/
theorem zcn {op : CmpOp} {r : R2} (ho : OpR X (compareOp op) r) (ha : PE X a ta) (hb : PE X b tb) (hm : behindInMarks op b = false) : PE X (.Compare a [op] [b] pos) (tOp r ta tb) := by
 intro pins s σ H Q I h
 exact wpAny_Compare1 (binT ha hb I h fun v u s2 x y H2 I2 rx ry q => ho pins s2 σ H2 x y v u Q I2 rx ry q) hm
/-- a reading of a value as a test -/
def zh5 (t : TE) : TT := fun σ H Q => t σ H fun x H' => ∃ k, x = .bl k ∧ Q k H'
theorem zar {op : CmpOp} {r : R2} (ho : OpR X (compareOp op) r) (ha : PE X a ta) (hb : PE X b tb) (hm : behindInMarks op b = false) : PT X (.Compare a [op] [b] pos) (zh5 (tOp r ta tb)) := by
 intro pins s σ H Q I h
 refine wpAny_isTrue_Compare1 (thn (ha pins s σ H _ I h) fun v s1 ⟨x, H1, I1, r1, q1⟩ => thn (hb pins s1 σ H1 _ I1 q1) fun u s2 ⟨y, H2, I2, r2, q2⟩ =>
  thn (ho pins s2 σ H2 x y v u _ I2 r1 r2 q2) fun c s3 ⟨z, H3, I3, r3, k, e, q3⟩ => ?_) hm
 subst e
 cases r3
 exact wpAny_truthy_bool ⟨H3, I3, q3⟩
/-- a op1 b op2 c -/
def ziu (r r' : R2) (ta tb tc : TE) : TE := fun σ H Q => ta σ H fun x H1 => tb σ H1 fun y H2 => r x y H2 fun z H3 => ∃ k, z = .bl k ∧
 (if k = true then tc σ H3 fun w' H4 => r' y w' H4 Q else Q (.bl false) H3)
/-- a value's truth by the abstract heap -/
def TruV (K : PySem.W.Frag) (x : V) (H : Hp) (k : Bool) : Prop :=
 match x with
 | .non => k = false
 | .bl b => k = b
 | .int i => k = (i != 0)
 | .str y => y.length ≤ sizeLine ∧ k = ((y.length : Int) != 0)
 | .byt y => y.size ≤ sizeLine ∧ k = ((y.size : Int) != 0)
 | .ref p => (∃ xs, SqL K H p xs ∧ k = !xs.isEmpty) ∨ (∃ xs, SqT K H p xs ∧ k = !xs.isEmpty) ∨ ∃ kvs, H p = some (.dK kvs) ∧ k = !kvs.isEmpty
 | _ => False
theorem zeR {κ : Type} {kvs : List (κ × V)} {vs : List (κ × Value)} (r : KV kvs vs) : (!vs.isEmpty) = !kvs.isEmpty := by
 cases r <;> rfl
theorem zcG {xs : List V} {its : List Value} (r : Vals xs its) : (!its.toArray.isEmpty) = !xs.isEmpty := by
 cases r <;> simp
theorem line63 : (sizeLine : Nat) < 2 ^ 63 := by rw [sizeLine_eq]; decide
theorem tru_ok : TruR X (fun x H Q => ∃ k, TruV X.K x H k ∧ Q k H) := by
 intro pins s σ H x v Q I rx h
 obtain ⟨k, e, q⟩ := h
 have hl := line63
 have hs : sizeLine = 16777216 := sizeLine_eq
 cases x with
 | non =>
  cases rx
  have e' : k = false := e
  subst e'
  exact truthy_none ⟨H, I, q⟩
 | bl b =>
  cases rx
  have e' : k = b := e
  subst e'
  exact wpAny_truthy_bool ⟨H, I, q⟩
 | int i =>
  obtain ⟨t, rfl⟩ := rx
  have e' : k = (i != 0) := e
  subst e'
  exact PySem.P.truthy_int ⟨H, I, q⟩
 | str y =>
  obtain ⟨t, rfl⟩ := rx
  obtain ⟨hy, e'⟩ : y.length ≤ sizeLine ∧ k = ((y.length : Int) != 0) := e
  subst e'
  exact PySem.P.truthy_str (by omega) ⟨H, I.tok _, q⟩
 | byt y =>
  obtain ⟨t, rfl⟩ := rx
  obtain ⟨hy, e'⟩ : y.size ≤ sizeLine ∧ k = ((y.size : Int) != 0) := e
  subst e'
  exact PySem.W.truthy_bytes (by omega) ⟨H, I.tok _, q⟩
 | ref p =>
  cases rx
  have e' : (∃ xs, SqL X.K H p xs ∧ k = !xs.isEmpty) ∨ (∃ xs, SqT X.K H p xs ∧ k = !xs.isEmpty) ∨ ∃ kvs, H p = some (.dK kvs) ∧ k = !kvs.isEmpty := e
  rcases e' with ⟨xs, hx, e'⟩ | ⟨xs, hx, e'⟩ | ⟨kvs, hx, e'⟩
  ·subst e'
   obtain ⟨its, r, pl, hz⟩ := I.list hx
   have hlen := r.length
   exact wpAny_truthy_list pl.isList (by simp only [List.size_toArray]; omega) ⟨H, I.tok _, by rw [zcG r]; exact q⟩
  ·subst e'
   obtain ⟨its, r, pl, hz⟩ := I.tuple hx
   have hlen := r.length
   exact truthy_tuple pl (by simp only [List.size_toArray]; omega) ⟨H, I.tok _, by rw [zcG r]; exact q⟩
  ·subst e'
   obtain ⟨hz, hS, vs, r, m⟩ : kvs.length ≤ sizeLine ∧ (p == sysModules) = false ∧ ∃ vs, KV kvs vs ∧ s.heap.DictOf (zai X.prog X.w) p vs := I.hok p _ hx
   have hlen : kvs.length = vs.length := Paired.length r
   exact wpAny_truthy_dict hS m (by omega) ⟨H, I.tok _, by rw [zeR r]; exact q⟩
 | _ => exact (show False from e).elim
/-- any expression whose test is its value's truth (a name, a call, a subscript, a field ..: he by fun _ => rfl) -/
theorem zgE (ha : PE X a ta) (he : ∀ whole, isTrue a X.env whole = (do let v ← whole; standAt a.pos; holding [v] (truthy v))) :
  PT X a (fun σ H Q => ta σ H fun x H' => ∃ k, TruV X.K x H' k ∧ Q k H') := by
 intro pins s σ H Q I h
 exact isTrue_plain (thn (ha pins s σ H _ I h) fun v s1 ⟨x, H1, I1, r1, q1⟩ => tru_ok pins s1 σ H1 x v Q I1 r1 q1) (he _)
theorem zct {x : V} {us : List Value} (r : Vals [x] us) : ∃ u, us = [u] ∧ RelV x u := by
 cases r with
 | cons r1 r2 => cases r2; exact ⟨_, rfl, r1⟩
theorem ziR {x y : V} {us : List Value} (r : Vals [x, y] us) : ∃ u w', us = [u, w'] ∧ RelV x u ∧ RelV y w' := by
 cases r with
 | cons r1 r2 =>
  cases r2 with
  | cons r3 r4 => cases r4; exact ⟨_, _, rfl, r1, r3⟩
theorem call_abs : zbr X (.builtin "abs") (fun xs H Q => ∃ i, xs = [.int i] ∧ Q (.int (if i < 0 then -i else i)) H) := by
 intro pins s σ H xs us Q I r h
 obtain ⟨i, rfl, q⟩ := h
 obtain ⟨u, rfl, t, rfl⟩ := zct r
 exact call_abs_int fun u tk => ⟨.int (if i < 0 then -i else i), H, I.tok _, ⟨_, rfl⟩, q⟩
/-- len of a str, a bytes, a list, a tuple -/
def LenV (K : PySem.W.Frag) (x : V) (H : Hp) (n : Nat) : Prop :=
 match x with
 | .str y => y.length ≤ sizeLine ∧ n = y.length
 | .byt y => y.size ≤ sizeLine ∧ n = y.size
 | .ref p => (∃ xs, SqL K H p xs ∧ n = xs.length) ∨ ∃ xs, SqT K H p xs ∧ n = xs.length
 | _ => False
theorem call_len : zbr X (.builtin "len") (fun xs H Q => ∃ x n, xs = [x] ∧ LenV X.K x H n ∧ Q (.int n) H) := by
 intro pins s σ H xs us Q I r h
 obtain ⟨x, n, rfl, e, q⟩ := h
 obtain ⟨u, rfl, rx⟩ := zct r
 have hl := line63
 have hs : sizeLine = 16777216 := sizeLine_eq
 cases x with
 | str y =>
  obtain ⟨t, rfl⟩ := rx
  obtain ⟨hy, e'⟩ : y.length ≤ sizeLine ∧ n = y.length := e
  subst e'
  exact len_str (by omega) ⟨.int _, H, I.tok _, ⟨_, rfl⟩, q⟩
 | byt y =>
  obtain ⟨t, rfl⟩ := rx
  obtain ⟨hy, e'⟩ : y.size ≤ sizeLine ∧ n = y.size := e
  subst e'
  exact PySem.W.len_bytes (by omega) ⟨.int _, H, I.tok _, ⟨_, rfl⟩, q⟩
 | ref p =>
  cases rx
  have e' : (∃ xs, SqL X.K H p xs ∧ n = xs.length) ∨ ∃ xs, SqT X.K H p xs ∧ n = xs.length := e
  rcases e' with ⟨xs, hx, e'⟩ | ⟨xs, hx, e'⟩
  ·subst e'
   obtain ⟨its, r', pl, hz⟩ := I.list hx
   have hlen := r'.length
   exact Calls.call_len_list pl.isList (by simp only [List.size_toArray]; omega) ⟨.int xs.length, H, I.tok _, ⟨_, by simp only [List.size_toArray]; rw [hlen]⟩, q⟩
  ·subst e'
   obtain ⟨its, r', pl, hz⟩ := I.tuple hx
   have hlen := r'.length
   exact len_tuple pl (by simp only [List.size_toArray]; omega) ⟨.int xs.length, H, I.tok _, ⟨_, by simp only [List.size_toArray]; rw [hlen]⟩, q⟩
 | _ => exact (show False from e).elim
end
end L2
namespace L2
open PySem PySem.Spec PyProof.Rows
structure ObjM (h : Heap) (x dx C : Addr) (mA : Str → Option Value) : Prop where
 obj : h.get? x = some (PySem.W.instObj C dx)
 ns : h.Ns1 dx mA
 ne : dx ≠ x
theorem zfv {h : Heap} {dx : Addr} {mA : Str → Option Value} (n : h.Ns1 dx mA) : ∃ od, h.get? dx = some od ∧ ∀ name, PySem.W.lookIn name od = some (mA name) := by
 obtain ⟨o, es, ep, ho, hd, hk, _, hm⟩ := n
 refine ⟨o, ho, fun name => ?_⟩
 have e := hm name
 unfold nsFind findBy at e
 rw [← Array.find?_toList] at e
 unfold PySem.W.lookIn
 rw [hd]
 dsimp only
 split
 ·rename_i y q
  rw [q] at e
  exact congrArg some e
 ·rename_i q
  rw [q] at e
  have a : es.toList.any (·.refKey) = false := by
   rw [List.any_eq_false]
   intro y hy
   obtain ⟨z, t, hkey⟩ := hk y (Array.mem_toList_iff.mp hy)
   simp [DictEntry.refKey, hkey]
  have a' : ¬ es.toList.any (·.refKey) = true := by rw [a]; exact Bool.false_ne_true
  rw [if_neg a']
  exact congrArg some e
theorem ObjM.look {h : Heap} {x dx C : Addr} {mA : Str → Option Value} (I : ObjM h x dx C mA) : ∃ od, PySem.W.InstAt h x (PySem.W.instObj C dx) C (some od) ∧ ∀ name, PySem.W.lookIn name od = some (mA name) :=
 let ⟨od, ho, hl⟩ := zfv I.ns
 ⟨od, ⟨I.obj, rfl, rfl, ho⟩, hl⟩
section
variable {prog : Program} {w : World} {A : Around} {E : Value → Shared → Prop} {s : Shared} {K : PySem.W.Frag} {x dx C f : Addr} {mA : Str → Option Value} {name : Str} {v : Value}
end
def putF (f : Str) (v : V) : List (Str × V) → List (Str × V)
 | [] => [(f, v)]
 | (g, x) :: r => if g = f then (g, v) :: r else (g, x) :: putF f v r
theorem RelO.some_of {v : V} {o : Option Value} (r : RelO (some v) o) : ∃ u, o = some u ∧ RelV v u := by
 cases o with
 | none => exact (show False from r).elim
 | some u => exact ⟨u, rfl, r⟩
section
variable {P : Program} {w : World} {H H' : Hp} {h h' : Heap} {a C dx : Addr} {fs fs' : List (Str × V)}
theorem zhu (hok : HOk P w H h) (e : H a = some (.ins C dx fs)) : ∃ mA, ObjM h a dx C mA ∧ (∀ f, RelO (fs.lookup f) (mA f)) ∧ PySem.Within mA (fs.map (·.1)) ∧ fs.length ≤ 1000 ∧ H dx = some (.own a) := by
 obtain ⟨d, z, ne, ob, mA, n, r, q⟩ := (show zaT P w H h a (.ins C dx fs) from hok a _ e)
 exact ⟨mA, ⟨ob, n, ne⟩, r, q, z, d⟩
end
structure Cls (K : PySem.W.Frag) (C : Addr) : Prop where
 pg : PySem.W.plainGet K C Str.empty = true
 hd : PySem.W.hasDictIn K C = true
 po : PySem.W.plainOver K C = true
 sa : PySem.W.findIn K (.ref C) "__setattr__" = some (some (.builtin "object.__setattr__"))
theorem Cls.get {K : PySem.W.Frag} {C : Addr} (c : Cls K C) (f : Str) : PySem.W.plainGet K C f = true := c.pg
/-- no class of it has the name -/
def zg3 (K : PySem.W.Frag) (C : Addr) (f : Str) : Prop := PySem.W.findIn K (.ref C) f = some none
section
variable {X : Cx} {pins : List (Addr × Obj)} {σ : St} {H : Hp} {s : Shared} {a C dx : Addr} {fs : List (Str × V)} {f : Str} {v : V} {A : Around} {E : Value → Shared → Prop}
end
/-- e.f, an attribute of the instance -/
def tFld (K : PySem.W.Frag) (ta : TE) (f : Str) : TE := fun σ H Q => ta σ H fun x H1 => ∃ a C dx fs v, x = .ref a ∧ H1 a = some (.ins C dx fs) ∧ Cls K C ∧ zg3 K C f ∧ fs.lookup f = some v ∧ Q v H1
/-- e.f = value -/
def sFld (K : PySem.W.Frag) (ta tv : TE) (f : Str) : TS := fun D σ H => tv σ H fun y H1 => ta σ H1 fun x H2 => ∃ a C dx fs, x = .ref a ∧ H2 a = some (.ins C dx fs) ∧ Cls K C ∧ zg3 K C f ∧ fs.length < 1000 ∧
 D.nx σ (upd H2 a (.ins C dx (putF f y fs)))
section
variable {X : Cx} {o e value : Expr} {f : Str} {pos pos' tpos : Pos} {ta tv : TE}
end
section
variable {X : Cx} {pins : List (Addr × Obj)} {σ : St} {H : Hp} {s : Shared} {A : Around} {E : Value → Shared → Prop} {Q : Value → Shared → Prop} {c : Value} {b : Bool}
/-- the type of a value, as the fragment's deciders take it; for an instance its class -/
inductive TyOf (K : PySem.W.Frag) (H : Hp) : V → Value → Prop where
 | non : TyOf K H .non (.type "NoneType")
 | bl (x : Bool) : TyOf K H (.bl x) (.type "bool")
 | int (i : Int) : TyOf K H (.int i) (.type "int")
 | str (x : Str) : TyOf K H (.str x) (.type "str")
 | flt (x : UInt64) : TyOf K H (.flt x) (.type "float")
 | lst {a : Addr} {xs : List V} (e : H a = some (.lst xs)) : TyOf K H (.ref a) (.type "list")
 | frz {a : Addr} {o : Obj} {xs : List V} (e : H a = some (.frz o (.lst xs))) : TyOf K H (.ref a) (.type "list")
 | tup {a : Addr} {xs : List V} (e : H a = some (.tup xs)) : TyOf K H (.ref a) (.type "tuple")
 | dK {a : Addr} {kvs : List (Key × V)} (e : H a = some (.dK kvs)) : TyOf K H (.ref a) (.type "dict")
 | dT {a : Addr} {kvs : List (List Key × V)} (e : H a = some (.dT kvs)) : TyOf K H (.ref a) (.type "dict")
 | ins {a C dx : Addr} {fs : List (Str × V)} (e : H a = some (.ins C dx fs)) (cl : Cls K C) (ha : PySem.W.findIn K (.ref C) "__class__" = some (some (.builtin "object.__class__")))
   (hn : PySem.W.specialIn K (.builtin "object.__class__") "__get__" = some (some (.builtin "getset_descriptor.__get__"))) (htk : PySem.W.takesIn K (.builtin "object.__class__") = some true)
   (hm : PySem.W.mroIn K C (.type "object") = some true) : TyOf K H (.ref a) (.ref C)
/-- isinstance(x, c) for one class c, a built-in or an own one: kitOne's answer -/
theorem zfq {x : V} {u t : Value} (I : Inv X pins σ H s) (rx : RelV x u) (ty : TyOf X.K H x t) (e : PySem.W.kitOne X.K t c = some b) (h : ∀ tk, Q (.bool b) { s with toks := tk }) :
  wpAny (model X.prog X.w) A (call (.builtin "isinstance") [u, c]) Q E s := by
 cases ty with
 | non => cases (show u = Value.none from rx); exact PySem.W.kia_one PySem.W.kitx_none I.kIn True.intro e (fun z => nomatch z) h
 | bl y => cases (show u = Value.bool y from rx); exact PySem.W.kia_one PySem.W.kitx_bool I.kIn True.intro e (fun z => nomatch z) h
 | int i => obtain ⟨t, q⟩ := (show ∃ t, u = Value.int i t from rx); cases q; exact PySem.W.kia_one PySem.W.kitx_int I.kIn True.intro e (fun z => nomatch z) h
 | str y => obtain ⟨t, q⟩ := (show ∃ t, u = Value.str y t from rx); cases q; exact PySem.W.kia_one PySem.W.kitx_str I.kIn True.intro e (fun z => nomatch z) h
 | flt y => obtain ⟨t, q⟩ := (show ∃ t, u = Value.float y t from rx); cases q; exact PySem.W.kia_one PySem.W.kitx_float I.kIn True.intro e (fun z => nomatch z) h
 | @lst a xs ea =>
  cases (show u = Value.ref a from rx)
  obtain ⟨_, _, n, _, h1⟩ := (show zaT X.prog X.w H s.heap a (.lst xs) from I.hok a _ ea)
  exact PySem.W.kia_one PySem.W.kitx_list I.kIn ⟨_, h1, rfl⟩ e (fun z => nomatch z) h
 | @frz a ob xs ea =>
  cases (show u = Value.ref a from rx)
  obtain ⟨_, _, _, n, _, h1⟩ := (show zaT X.prog X.w H s.heap a (.frz ob (.lst xs)) from I.hok a _ ea)
  exact PySem.W.kia_one PySem.W.kitx_list I.kIn ⟨_, h1, rfl⟩ e (fun z => nomatch z) h
 | @tup a xs ea =>
  cases (show u = Value.ref a from rx)
  obtain ⟨_, _, _, p⟩ := (show zaT X.prog X.w H s.heap a (.tup xs) from I.hok a _ ea)
  obtain ⟨o, h1, h2, _⟩ := p
  exact PySem.W.kia_one PySem.W.kitx_tuple I.kIn ⟨o, h1, h2⟩ e (fun z => nomatch z) h
 | @dK a kvs ea =>
  cases (show u = Value.ref a from rx)
  obtain ⟨_, _, vs, _, p⟩ := (show zaT X.prog X.w H s.heap a (.dK kvs) from I.hok a _ ea)
  obtain ⟨o, es, ep, h1, h2, _⟩ := p
  exact PySem.W.kia_one PySem.W.kitx_dict I.kIn ⟨o, h1, h2.1⟩ e (fun z => nomatch z) h
 | @dT a kvs ea =>
  cases (show u = Value.ref a from rx)
  obtain ⟨_, _, xs, _, o, es, ep, h1, h2, _⟩ := (show zaT X.prog X.w H s.heap a (.dT kvs) from I.hok a _ ea)
  exact PySem.W.kia_one PySem.W.kitx_dict I.kIn ⟨o, h1, h2.1⟩ e (fun z => nomatch z) h
 | @ins a C dx fs ea cl ha hn htk hm =>
  cases (show u = Value.ref a from rx)
  obtain ⟨mA, O, _⟩ := zhu I.hok ea
  obtain ⟨od, J, _⟩ := O.look
  exact PySem.W.kia_one (PySem.W.kitx_own (cl.get _) cl.hd ha hn htk hm) I.kIn J e (fun z => nomatch z) h
end
end L2
namespace L2
open PySem PySem.Spec PyProof.Rows
structure Room (k : Nat) (A : Around) : Prop where
 hd : A.handled = none
 dp : A.depth + 3 * k + 5 < recursionLimit
 un : A.units + 16 * k + 200 < cLine
theorem Room.mono {j k : Nat} {A : Around} (r : Room k A) (h : j ≤ k) : Room j A := ⟨r.hd, by have := r.dp; omega, by have := r.un; omega⟩
theorem Room.deeper {k : Nat} {A : Around} (r : Room (k + 1) A) (env : Env) : Room k (A.deeper env) :=
 ⟨r.hd, by have := r.dp; show A.depth + 1 + 3 * k + 5 < _; omega, by have := r.un; show A.units + 3 + 16 * k + 200 < _; omega⟩
theorem Room.depth {k : Nat} {A : Around} (r : Room k A) : A.depth < recursionLimit := by have := r.dp; omega
theorem Room.units {k : Nat} {A : Around} (r : Room k A) : A.units + 64 < cLine := by have := r.un; omega
def tNil : TA := fun _ H Q => Q [] H
def zcD (ta : TE) (tr : TA) : TA := fun σ H Q => ta σ H fun x H1 => tr σ H1 fun xs H2 => Q (x :: xs) H2
section
variable {X : Cx} {e : Expr} {es : List Expr} {te : TE} {t : TA} {pos : Pos}
theorem pa_nil : PA X [] tNil := fun _ _ _ _ H Q I h => Calls.spliced_nil ⟨[], H, I, .nil, h⟩
theorem zad (ha : PE X e te) (hr : PA X es t) (hs : starEach (e :: es) X.env = (false, eval e X.env) :: starEach es X.env := by rfl) : PA X (e :: es) (zcD te t) := by
 intro pos pins s σ H Q I h
 rw [hs]
 show wpAny _ _ (spliced ((false, eval e X.env) :: backTo pos (starEach es X.env))) _ _ s
 refine Calls.spliced_cons (thn (ha pins s σ H _ I h) fun u s1 ⟨x, H1, I1, r1, q1⟩ => ?_)
 exact thn (hr pos pins s1 σ H1 _ I1 q1) fun us s2 ⟨xs, H2, I2, r2, q2⟩ => ⟨x :: xs, H2, I2, .cons r1 r2, q2⟩
/-- a tuple, a list of written items -/
def tTup (t : TA) : TE := fun σ H Q => t σ H fun xs H1 => xs.length ≤ sizeLine ∧ ∀ p, H1 p = none → Q (.ref p) (upd H1 p (.tup xs))
def tLst (t : TA) : TE := fun σ H Q => t σ H fun xs H1 => xs.length ≤ sizeLine ∧ ∀ p, H1 p = none → Q (.ref p) (upd H1 p (.lst xs))
theorem zax {x1} (h : PA X es t) : PE X (.Tuple es x1 pos) (tTup t) := by
 intro pins s σ H Q I hq
 refine wpAny_Tuple_spliced (thn (h pos pins s σ H _ I hq) fun us s1 ⟨xs, H1, I1, r, z, q⟩ => ⟨by rw [← r.length]; exact z, ?_⟩)
 have hf : H1 s1.heap.objs.size = none := I1.hok.fresh (Nat.le_refl _)
 refine ⟨.ref s1.heap.objs.size, upd H1 s1.heap.objs.size (.tup xs), I1.laid (t' := s1.toks) (fun b u e => Heap.get?_push_of_some _ e) (Nat.le_refl _) ?_, rfl, q _ hf⟩
 exact ⟨z, us, r, ⟨_, Heap.get?_push_size _ rfl, rfl, _, rfl⟩⟩
theorem zaA (h : PA X es t) : PE X (.List es pos) (tLst t) := by
 intro pins s σ H Q I hq
 refine wpAny_List_spliced (thn (h pos pins s σ H _ I hq) fun us s1 ⟨xs, H1, I1, r, z, q⟩ => ⟨by rw [← r.length]; exact z, ?_⟩)
 have hf : H1 s1.heap.objs.size = none := I1.hok.fresh (Nat.le_refl _)
 refine ⟨.ref s1.heap.objs.size, upd H1 s1.heap.objs.size (.lst xs), I1.laid (t' := s1.toks) (fun b u e => Heap.get?_push_of_some _ e) (Nat.le_refl _) ?_, rfl, q _ hf⟩
 exact ⟨z, us, 0, r, Heap.get?_push_size _ rfl⟩
end
/-- a def's promise: the bound arguments in the parameters' order, the heap, the wanted end, the wanted exception -/
abbrev Sp := List V → Hp → VK → XK → Prop
/-- how an exception lies behind a call (file 08 gives it): the callers' frames, abstract heap and state ahead of the call, the wish, the exception, the state -/
abbrev CXT := List Env → Hp → Shared → XK → Value → Shared → Prop
/-- the state at a call -/
structure Env0 (P : Program) (w : World) (K : PySem.W.Frag) (mg : Str → Option Value) (base : Heap) (A : Around) (outer : List Env) (s : Shared) (H : Hp) : Prop where
 frames : A.frames = some outer
 mod : Mod K mg base
 bs : ∀ b o, base.get? b = some o → s.heap.get? b = some o ∧ H b = none
 bsz : base.objs.size ≤ s.heap.objs.size
 funs : s.heap.FunFrames base outer
 frf : ∀ b ∈ frs outer, H b = none
 hok : HOk P w H s.heap
 bare : AllBare s.gens
/-- a call's end -/
def CE (outer : List Env) (P : Program) (w : World) (H : Hp) (s : Shared) (Q : VK) (u : Value) (s' : Shared) : Prop :=
 ∃ v H', s'.os = s.os ∧ AllBare s'.gens ∧ Un (frs outer) [] H H' s.heap s'.heap ∧ HOk P w H' s'.heap ∧ RelV v u ∧ Q v H'
def CR (CX : CXT) (outer : List Env) (P : Program) (w : World) (H : Hp) (s : Shared) (Q : VK) (E : XK) (r : Result) (s' : Shared) : Prop :=
 match r with
 | .ok (.ret u) => CE outer P w H s Q u s'
 | .ok _ => False
 | .error e => CX outer H s E e s'
structure FnOk (P : Program) (w : World) (K : PySem.W.Frag) (mg : Str → Option Value) (base : Heap) (CX : CXT) (k : Nat) (f : Addr) (fd : FuncData) (ps : List Str) (sp : Sp) : Prop where
 len : ∀ vs H Q E, sp vs H Q E → vs.length = ps.length
 run : ∀ (A : Around) (outer : List Env) (s : Shared) (H : Hp) (args : Args) (us : List Value) (vs : List V) (Q : VK) (E : XK), Room k A → Env0 P w K mg base A outer s H → BindsTo s fd args (ps.zip us) → Vals vs us → sp vs H Q E →
  codeAny (model P w) A (.call (.ref f) args) (CR CX outer P w H s Q E) s
section
variable {X : Cx} {pins : List (Addr × Obj)} {σ : St} {H : Hp} {s s' : Shared}
/-- from a body: what a callee wants -/
theorem Inv.env0 (I : Inv X pins σ H s) : Env0 X.prog X.w X.K X.mg X.base X.A X.stack s H :=
 ⟨I.ok.frames, I.ok.mod, I.bs, Nat.le_trans I.ok.bsz I.sz, I.stack, I.stkFree, I.hok, I.bare⟩
/-- behind a call -/
theorem Inv.after {Q : VK} {u : Value} (I : Inv X pins σ H s) (h : CE X.stack X.prog X.w H s Q u s') : EP X pins σ Q u s' := by
 obtain ⟨v, H', os, bare, un, hok, r, q⟩ := h
 obtain ⟨hh, g, d, t, os'⟩ := s'
 obtain rfl : os' = s.os := os
 exact ⟨v, H', I.call (h' := hh) (g' := g) (d' := d) (t' := t) (ch := []) un hok bare (fun b z => absurd z (by simp)), r, q⟩
end
/-- f(..): the written arguments, then the defaults dvs; E: what is wanted of an exception -/
def zhq (sp : Sp) (dvs : List V) (E : XK) (t : TA) : TE := fun σ H Q => t σ H fun vs H1 => sp (vs ++ dvs) H1 Q E
/-- o.m(..) of an instance of the class at C -/
def tMeth (C : Addr) (m : Str) (sp : Sp) (dvs : List V) (E : XK) (ta : TE) (t : TA) : TE := fun σ H Q => ta σ H fun x H1 => ∃ a dx fs, x = .ref a ∧ H1 a = some (.ins C dx fs) ∧ fs.lookup m = none ∧
 t σ H1 fun vs H2 => sp (x :: (vs ++ dvs)) H2 Q E
/-- C(..): a new instance and its dict, then __init__ -/
def tMake (C : Addr) (sp : Sp) (dvs : List V) (E : XK) (t : TA) : TE := fun σ H Q => t σ H fun vs H1 => ∀ x dx, H1 x = none → H1 dx = none → dx ≠ x →
 sp (.ref x :: (vs ++ dvs)) (upd (upd H1 dx (.own x)) x (.ins C dx [])) (fun v H2 => v = .non ∧ Q (.ref x) H2) E
/-- how the parameters are bound: us the positional arguments, kw the keywords' values by name, ds the defaults that fill up -/
def zaQ (K : PySem.W.Frag) (fd : FuncData) (ps : List Str) (ds : List Value) : Prop :=
 ∀ (s : Shared) (us : List Value), K.In s.heap → (us ++ ds).length = ps.length → BindsTo s fd ⟨us, []⟩ (ps.zip (us ++ ds))
/-- every parameter is given -/
theorem zaQ.all {K : PySem.W.Frag} {fd : FuncData} {ps : List Str} (h : ∀ us : List Value, us.length = ps.length → bindArgs fd ⟨us, []⟩ = pure (ps.zip us)) : zaQ K fd ps [] := fun s us _ hl => by
 rw [List.append_nil] at hl ⊢
 exact .of_eq (h us hl)
/-- an exception of a callee reaches what this body wants of exceptions -/
def zfo (CX : CXT) (X : Cx) (E : XK) : Prop := ∀ (pins : List (Addr × Obj)) (σ : St) (H : Hp) (s : Shared) (e : Value) (s' : Shared), Inv X pins σ H s → CX X.stack H s E e s' → X.xe e s'
section
variable {X : Cx} {CX : CXT} {k : Nat} {f C : Addr} {fd : FuncData} {ps : List Str} {sp : Sp} {dvs : List V} {ds : List Value} {E : XK} {x m : Str} {p pos apos : Pos} {e o : Expr} {es : List Expr} {ta : TE} {t : TA}
/-- the callee runs -/
theorem zit {pins : List (Addr × Obj)} {σ : St} {H : Hp} {s : Shared} {Q : VK} {us : List Value} {vs : List V} (F : FnOk X.prog X.w X.K X.mg X.base CX k f fd ps sp) (hr : Room k X.A) (hb : zaQ X.K fd ps ds) (hd : Vals dvs ds) (hx : zfo CX X E)
  (I : Inv X pins σ H s) (r : Vals vs us) (h : sp (vs ++ dvs) H Q E) : wpAny (model X.prog X.w) X.A (call (.ref f) us) (EP X pins σ Q) X.xe s := by
 have r2 : Vals (vs ++ dvs) (us ++ ds) := r.append hd
 have hl : (us ++ ds).length = ps.length := by rw [← r2.length]; exact F.len _ _ _ _ h
 refine wpAny_call (codeAny_mono (F.run X.A X.stack s H ⟨us, []⟩ (us ++ ds) (vs ++ dvs) Q E hr I.env0 (hb s us I.kIn hl) r2 h) fun r s' hq => ?_)
 cases r with
 | error e => exact hx pins σ H s e s' I hq
 | ok fl =>
  cases fl with
  | ret u => exact I.after hq
  | next => exact False.elim hq
  | brk => exact False.elim hq
  | cont => exact False.elim hq
theorem zam (F : FnOk X.prog X.w X.K X.mg X.base CX k f fd ps sp) (hr : Room k X.A) (hg : Gl X x) (hm : X.mg x = some (.ref f)) (hk : PySem.W.keepIn X.K (.ref f) = true) (hb : zaQ X.K fd ps ds) (hd : Vals dvs ds) (hx : zfo CX X E)
  (ha : PA X (e :: es) t) (hdb : (x == ("__debug__" : Str)) = false := by decide) (he : starEach (e :: es) X.env = (false, eval e X.env) :: starEach es X.env := by rfl) (hpl : (backTo pos (starEach es X.env)).any (·.1) = false := by rfl) :
  PE X (.Call (.Name x p) (e :: es) [] pos) (zhq sp dvs E t) := by
 intro pins s σ H Q I h
 refine wpAny_Call_Name_kw (zfu I hg hm ?_ hdb)
 refine PySem.W.callWith_K (h₀ := X.base) I.ok.mod.kin hk (thn (ha pos pins s σ H _ I h) fun us s1 ⟨vs, H1, I1, r, q⟩ => ⟨I1.kIn, ?_⟩) he hpl
 exact zit F hr hb hd hx I1 r q
end
/-- the values of the keywords, from the left -/
def PK (X : Cx) (kws : List Keyword) (t : TA) : Prop :=
 ∀ (pos : Pos) (pins : List (Addr × Obj)) (s : Shared) (σ : St) (H : Hp) (Q : List V → Hp → Prop), Inv X pins σ H s → t σ H Q → wpAny (model X.prog X.w) X.A (evalAll ((backToKw pos (keywordEach kws X.env)).map (·.2))) (AP X pins σ Q) X.xe s
section
variable {X : Cx} {CX : CXT} {k : Nat} {f C : Addr} {fd : FuncData} {ps ks : List Str} {sp : Sp} {E : XK} {x m : Str} {p pos apos kpos : Pos} {e o : Expr} {es : List Expr} {kws : List Keyword} {te ta : TE} {t tk : TA} {nm : Option Str}
variable {g : List Value → List Value → List Value} {gV : List V → List V → List V}
end
/-- names: the parameters first -/
structure FnScope (N P : List Str) (sc : Scope) : Prop where
 kind : sc.kind = .function
 co : sc.isCoroutine = false
 gen : sc.isGenerator = false
 nd : N.Nodup
 pre : N.take P.length = P
 par : ∀ x ∈ P, sc.names.lookup x = some .local ∨ sc.names.lookup x = some .cell
 nofree : ∀ y ∈ sc.names, y.2 ≠ .free
theorem zdx {kindOf : Str → Option NameKind} {x : Str} : ∀ {binds : List (Str × Value)} {m : Str → Option Value}, (∀ v, (x, v) ∉ binds) → bindL kindOf binds m x = m x
 | [], _, _ => rfl
 | (n, v) :: r, m, h => by
  unfold bindL
  rw [zdx fun w hw => h w (List.mem_cons_of_mem _ hw)]
  split
  ·have : x ≠ n := by rintro rfl; exact h v List.mem_cons_self
   simp [this]
  ·rfl
theorem zds {kindOf : Str → Option NameKind} {x : Str} : ∀ {binds : List (Str × Value)} {m : Str → Option Value}, (∀ v, (x, v) ∉ binds) → bindC kindOf binds m x = m x
 | [], _, _ => rfl
 | (n, v) :: r, m, h => by
  unfold bindC
  rw [zds fun w hw => h w (List.mem_cons_of_mem _ hw)]
  split
  ·rfl
  ·have : x ≠ n := by rintro rfl; exact h v List.mem_cons_self
   simp [this]
theorem zdt {kindOf : Str → Option NameKind} {x : Str} {v : Value} : ∀ {P : List Str} {vs : List Value} {i : Nat} {m : Str → Option Value}, P.Nodup → P[i]? = some x → vs[i]? = some v → kindOf x = some .local →
  bindL kindOf (P.zip vs) m x = some v
 | [], _, _, _, _, h, _, _ => by simp at h
 | _ :: _, [], _, _, _, _, h, _ => by simp at h
 | p :: P, w :: vs, 0, m, nd, h1, h2, hk => by
  simp at h1 h2; subst h1; subst h2
  show bindL kindOf ((p, w) :: P.zip vs) m p = _
  unfold bindL
  rw [zdx fun v hv => (List.nodup_cons.mp nd).1 (List.of_mem_zip hv).1, if_pos hk]
  simp
 | p :: P, w :: vs, i + 1, m, nd, h1, h2, hk => by
  show bindL kindOf ((p, w) :: P.zip vs) m x = _
  unfold bindL
  exact zdt (i := i) (List.nodup_cons.mp nd).2 (by simpa using h1) (by simpa using h2) hk
theorem zdQ {kindOf : Str → Option NameKind} {x : Str} {v : Value} : ∀ {P : List Str} {vs : List Value} {i : Nat} {m : Str → Option Value}, P.Nodup → P[i]? = some x → vs[i]? = some v → kindOf x ≠ some .local →
  bindC kindOf (P.zip vs) m x = some v
 | [], _, _, _, _, h, _, _ => by simp at h
 | _ :: _, [], _, _, _, _, h, _ => by simp at h
 | p :: P, w :: vs, 0, m, nd, h1, h2, hk => by
  simp at h1 h2; subst h1; subst h2
  show bindC kindOf ((p, w) :: P.zip vs) m p = _
  unfold bindC
  rw [zds fun v hv => (List.nodup_cons.mp nd).1 (List.of_mem_zip hv).1, if_neg hk]
  simp
 | p :: P, w :: vs, i + 1, m, nd, h1, h2, hk => by
  show bindC kindOf ((p, w) :: P.zip vs) m x = _
  unfold bindC
  exact zdQ (i := i) (List.nodup_cons.mp nd).2 (by simpa using h1) (by simpa using h2) hk
/-- the names' values at the entry -/
def start (N : List Str) (vs : List V) : St := vs.map some ++ List.replicate (N.length - vs.length) none
/-- the context of a def's body, at its entry; an exception leaves the frame, then lies as CX says -/
def cxOf (CX : CXT) (P : Program) (w : World) (K : PySem.W.Frag) (mg : Str → Option Value) (base : Heap) (N : List Str) (qual : Str) (scope : Scope) (f : Addr) (cd : Value) (A : Around) (outer : List Env) (s : Shared) (H : Hp) (E : XK) : Cx where
 prog := P
 w := w
 K := K
 mg := mg
 base := base
 A := A.deeper (envOfC qual scope s.heap.objs.size f cd)
 N := N
 s₀ := s
 H₀ := H
 env := envOfC qual scope s.heap.objs.size f cd
 outer := outer
 stack := envOfC qual scope s.heap.objs.size f cd :: outer
 ex := []
 calm := true
 fn := fun _ => true
 pn := []
 xe := fun e s' => wpAny (model P w) (A.deeper (envOfC qual scope s.heap.objs.size f cd)) (leaving (envOfC qual scope s.heap.objs.size f cd) e) (fun _ s'' => CX outer H s E e s'') (fun e' s'' => CX outer H s E e' s'') s'
theorem zev {sc : Scope} {n : Nat} {x : Str} (h : sc.names.lookup x = some .cell) : ∃ c, (cellsFrom n sc.names []).lookup x = some c := by
 have q := PySem.W.cellsFrom_some sc.names n [] (.inl h)
 exact Option.isSome_iff_exists.mp q
theorem zfn {CX : CXT} {P : Program} {w : World} {K : PySem.W.Frag} {mg : Str → Option Value} {base : Heap} {N ps : List Str} {qual : Str} {scope : Scope} {f : Addr} {cd : Value} {A : Around} {outer : List Env} {s s1 : Shared} {H : Hp} {E : XK} {us : List Value} {vs : List V}
  (S : FnScope N ps scope) (hd : A.handled = none) (e0 : Env0 P w K mg base A outer s H) (hl : vs.length = ps.length) (r : Vals vs us)
  (x : InCallC s s.heap.objs.size (bindL (envOfC qual scope s.heap.objs.size f cd).kindOf (ps.zip us) fun _ => none) (cellsFrom (s.heap.objs.size + 1) scope.names []) (bindC (envOfC qual scope s.heap.objs.size f cd).kindOf (ps.zip us) fun _ => none) s1) :
  Inv (cxOf CX P w K mg base N qual scope f cd A outer s H E) [] (start N vs) H s1 := by
 have hpl : ps.length ≤ N.length := by have := congrArg List.length S.pre; rw [List.length_take] at this; omega
 obtain ⟨h1, tk, rfl, hk⟩ := x.done
 have noA : ∀ b : Addr, b ∉ (cxOf CX P w K mg base N qual scope f cd A outer s H E).ex := fun b z => absurd (show b ∈ ([] : List Addr) from z) (by simp)
 refine ⟨⟨e0.mod, S.kind, rfl, rfl, Nat.le_refl _, fun y z c h1 h2 => ?_, fun y hy => ?_, fun y c _ h => ?_, fun _ => hd, Around.frames_deeper e0.frames, .inr ⟨rfl, rfl⟩, fun b z => absurd z (noA b), e0.bs, e0.bsz, fun b _ _ => noA b, fun b z => absurd z (noA b), e0.funs, e0.frf⟩,
  rfl, e0.bare, Un.kept hk, ⟨_, x.toInCall.ns, fun i y v h1 h2 h3 => ?_⟩, fun y c h => ⟨_, x.cell y c h⟩, e0.hok.fresh (Nat.le_refl _), fun y c h => ?_, fun p hp => absurd (show p ∈ ([] : List (Addr × Obj)) from hp) (by simp), e0.hok.kept hk, ?_⟩
 ·exact name_of_addr x.apart (PySem.mem_of_lookup h1) (PySem.mem_of_lookup h2)
 ·have hy : scope.names.lookup y = some .cell ∨ scope.names.lookup y = some .free := hy
  rcases hy with hy | hy
  ·exact zev hy
  ·exact absurd rfl (S.nofree _ (PySem.mem_of_lookup hy))
 ·exact Nat.le_of_lt (x.above y c (PySem.mem_of_lookup h))
 ·have hi : i < vs.length := by
   unfold start at h2
   by_cases hi : i < vs.length
   ·exact hi
   ·rw [List.getElem?_append_right (by simpa using hi)] at h2
    rw [List.getElem?_replicate] at h2
    split at h2 <;> cases h2
  have ha : vs[i]? = some v := by
   unfold start at h2
   rw [List.getElem?_append_left (by simpa using hi), List.getElem?_map] at h2
   cases e : vs[i]? with
   | none => rw [e] at h2; cases h2
   | some a => rw [e] at h2; cases h2; rfl
  obtain ⟨u, hu, rv⟩ := r.get ha
  have hp : ps[i]? = some y := by
   rw [← S.pre, List.getElem?_take_of_lt (by omega)]; exact h1
  have ndP : ps.Nodup := by rw [← S.pre]; exact S.nd.sublist (List.take_sublist _ _)
  refine ⟨u, rv, ?_⟩
  rcases S.par y (List.mem_of_getElem? hp) with k | k
  ·exact .inl ⟨k, zdt ndP hp hu k⟩
  ·obtain ⟨c, e⟩ := zev (n := s.heap.objs.size + 1) k
   refine .inr ⟨.inl k, c, e, ?_⟩
   have q := x.cell y c e
   rw [zdQ ndP hp hu (by show scope.names.lookup y ≠ _; rw [k]; decide)] at q
   exact q
 ·exact e0.hok.fresh (Nat.le_of_lt (x.above y c (PySem.mem_of_lookup h)))
 ·unfold start
  show _ = N.length
  rw [List.length_append, List.length_map, List.length_replicate]
  omega
/-- THE RULE: a def (or a method) of the text, by its body. The body's reading t is chosen for each entry; it is run at the parameters' values -/
theorem fn_of {CX : CXT} {P : Program} {w : World} {K : PySem.W.Frag} {mg : Str → Option Value} {base : Heap} {k : Nat} {f : Addr} {name qual : Str} {params : Arguments} {body : List Stmt} {scope : Scope} {dV kV doc pm cdv ct oc : Value} {an od : Option Addr}
  {osl : Array (Option Value)} {N ps : List Str} {sp : Sp} (lk : K.lookup f = some ⟨oc, od, .func (PySem.W.fnOf name qual params body scope dV kV doc pm an cdv ct), osl⟩) (hcd : PySem.W.codeIn K cdv qual = true) (S : FnScope N ps scope)
  (len : ∀ vs H Q E, sp vs H Q E → vs.length = ps.length)
  (hbody : ∀ (A : Around) (outer : List Env) (s : Shared) (H : Hp) (vs : List V) (Q : VK) (E : XK), Room k (A.deeper (envOfC qual scope s.heap.objs.size f cdv)) → sp vs H Q E →
   ∃ t, PSs (cxOf CX P w K mg base N qual scope f cdv A outer s H E) body t ∧ t { nx := fun _ H' => Q .non H', rt := Q } (start N vs) H) :
  FnOk P w K mg base CX (k + 1) f (PySem.W.fnOf name qual params body scope dV kV doc pm an cdv ct) ps sp := by
 refine ⟨len, fun A outer s H args us vs Q E hr e0 hb r hsp => ?_⟩
 have hl := len _ _ _ _ hsp
 have KX : K.In s.heap := e0.mod.kin.keeps fun b o e => (e0.bs b o e).1
 have lim : s.heap.NoLimit := e0.mod.nolimit.keeps fun b o e => (e0.bs b o e).1
 have hkind : ∀ y ∈ ps.zip us, scope.names.lookup y.1 = some .local ∨ (scope.names.lookup y.1 = some .cell ∧ ((cellsFrom (s.heap.objs.size + 1) scope.names []).lookup y.1).isSome = true) := fun ⟨n, v⟩ hy => by
  rcases S.par n (List.of_mem_zip hy).1 with q | q
  ·exact .inl q
  ·exact .inr ⟨q, PySem.W.cellsFrom_some _ _ _ (.inl q)⟩
 refine codeAny_call_function hr.depth (KX _ _ lk) rfl S.co S.gen rfl (PySem.W.codeRec_of KX hcd) (hb _ _ _ _ ?_)
 refine wpAny_newFunctionEnv_cells S.kind hkind fun env he s1 x => ?_
 subst he
 refine ⟨lim.keeps x.toInCall.keep, codeAny_func ?_⟩
 obtain ⟨t, ht, hq⟩ := hbody A outer s H vs Q E (hr.deeper _) hsp
 have I : Inv (cxOf CX P w K mg base N qual scope f cdv A outer s H E) [] (start N vs) H s1 := zfn S hr.hd e0 hl r x
 refine wpAny_mono (ht [] s1 (start N vs) H _ I hq) (fun fl s' hs => ?_) fun e s' hs => hs
 have fin : ∀ {σ' : St} {H' : Hp} {v : V} {u : Value}, Inv (cxOf CX P w K mg base N qual scope f cdv A outer s H E) [] σ' H' s' → RelV v u → Q v H' → CE outer P w H s Q u s' :=
  fun {σ' H' v u} J rv q => ⟨v, H', J.os, J.bare, J.base, J.hok, rv, q⟩
 cases fl with
 | ret u =>
  obtain ⟨v, σ', H', J, rv, q⟩ := hs
  exact fin J rv q
 | next =>
  obtain ⟨σ', H', J, q⟩ := hs
  exact fin (v := V.non) (u := Value.none) J rfl q
 | brk =>
  obtain ⟨_, _, _, q⟩ := hs
  exact False.elim q
 | cont =>
  obtain ⟨_, _, _, q⟩ := hs
  exact False.elim q
end L2
namespace L2
open PySem PySem.Spec PyProof.Rows
section
variable {X : Cx} {x : Str} {p pos : Pos} {e : Expr} {es : List Expr} {t : TA} {id T : String} {r : List V → Hp → VK → Prop}
def tCB (r : List V → Hp → VK → Prop) (t : TA) : TE := fun σ H Q => t σ H fun vs H1 => r vs H1 Q
/-- f(e, ..), f a built-in function -/
theorem zaE (hc : zbr X (.builtin id) r) (hg : Gl X x) (hm : X.mg x = none) (hv : bootBuiltins x = some (.builtin id)) (ha : PA X (e :: es) t) (hn : x ≠ "__name__" := by decide) (hdb : (x == ("__debug__" : Str)) = false := by decide)
  (he : starEach (e :: es) X.env = (false, eval e X.env) :: starEach es X.env := by rfl) (hpl : (backTo pos (starEach es X.env)).any (·.1) = false := by rfl) : PE X (.Call (.Name x p) (e :: es) [] pos) (tCB r t) := by
 intro pins s σ H Q I h
 refine wpAny_Call_Name_kw (zbV I hg hm hv ?_ hn hdb)
 exact PyProof.Rows.callWith_builtin1 (thn (ha pos pins s σ H _ I h) fun us s1 ⟨vs, H1, I1, r1, q1⟩ => hc pins s1 σ H1 vs us Q I1 r1 q1) he hpl
/-- T(e, ..), T a built-in type -/
theorem za1 (hc : zbr X (.type T) r) (hg : Gl X x) (hm : X.mg x = none) (hv : bootBuiltins x = some (.type T)) (ha : PA X (e :: es) t) (hn : x ≠ "__name__" := by decide) (hdb : (x == ("__debug__" : Str)) = false := by decide)
  (he : starEach (e :: es) X.env = (false, eval e X.env) :: starEach es X.env := by rfl) (hpl : (backTo pos (starEach es X.env)).any (·.1) = false := by rfl) : PE X (.Call (.Name x p) (e :: es) [] pos) (tCB r t) := by
 intro pins s σ H Q I h
 refine wpAny_Call_Name_kw (zbV I hg hm hv ?_ hn hdb)
 exact PyProof.Rows.callWith_type1 (thn (ha pos pins s σ H _ I h) fun us s1 ⟨vs, H1, I1, r1, q1⟩ => hc pins s1 σ H1 vs us Q I1 r1 q1) he hpl
end
end L2
namespace HT
open PySem PyProof.Rows
section
open PySem.SeqAt
open PySem.AutoSeq1 (wpAny_loadPart')
open PySem.MeetsSeq PySem.MeetsSeq2 PySem.MeetsSeq3
end
section
variable {prog : Program} {w : World} {A : Around} {E : Value → Shared → Prop} {s : Shared}
/-- t + u, t not empty -/
theorem cat_tup {t b : Addr} {vs ws : List Value} {Q : Value → Shared → Prop} (ht : IsTup s.heap t vs.toArray) (hb : IsTup s.heap b ws.toArray) (hv : vs ≠ [])
  (h1 : ws = [] → Q (.ref t) s) (h2 : ws ≠ [] → Q (.ref s.heap.objs.size) { s with heap := s.heap.push { cls := .type "tuple", data := .seq (vs ++ ws).toArray } })
  (hsz : vs.length + ws.length ≤ sizeLine) : wpAny (model prog w) A (binaryOp .Add (.ref t) (.ref b)) Q E s := by
 obtain ⟨⟨cls, dd, data, sl⟩, ho, hc, n, hd⟩ := id ht
 obtain ⟨⟨cls2, dd2, data2, sl2⟩, ho2, hc2, n2, hd2⟩ := id hb
 simp only at hc hd hc2 hd2
 subst hc hd hc2 hd2
 have e : vs.toArray ++ ws.toArray = (vs ++ ws).toArray := by simp
 by_cases hw : ws = []
 ·exact concat_meets ⟨_, ho, rfl⟩ ⟨_, ho2, rfl⟩ noFill_tuple_add seq_tuple_add PySem.F.slot_tuple_add PySem.F.entry_tuple_add (PySem.F.args_tuple_add_2 _ _)
   (tuple_addW1 t b vs.toArray ws.toArray n n2 dd dd2 sl sl2 (by simpa using hv) (by simp [hw])) ⟨ho, ho2, h1 hw⟩
 ·refine concat_meets ⟨_, ho, rfl⟩ ⟨_, ho2, rfl⟩ noFill_tuple_add seq_tuple_add PySem.F.slot_tuple_add PySem.F.entry_tuple_add (PySem.F.args_tuple_add_2 _ _)
   (tuple_addW2 t b vs.toArray ws.toArray n n2 dd dd2 sl sl2 (by simpa using hv) (by simpa using hw) (by rw [List.size_toArray, List.size_toArray]; exact hsz)) ⟨ho, ho2, ?_⟩
  rw [e]
  exact h2 hw
/-- a slice's bound as a place among n (d where it is left out) -/
def sIx (n d : Nat) : Option Int → Nat
 | none => d
 | some v => if v < 0 then (v + (n : Int)).toNat else min v.toNat n
theorem sIx_none (n d : Nat) : sIx n d none = d := rfl
theorem sIx_nat (n d k : Nat) : sIx n d (some (k : Int)) = min k n := by
 show (if (k : Int) < 0 then ((k : Int) + (n : Int)).toNat else min (k : Int).toNat n) = min k n
 rw [if_neg (by omega), Int.toNat_natCast]
end
end HT
namespace L2
open PySem PySem.Spec PyProof.Rows
abbrev TO := St → Hp → (Option Int → Hp → Prop) → Prop
/-- a slice's part (left out, or an int) -/
def PO (X : Cx) (e : Option Expr) (t : TO) : Prop :=
 ∀ (pins : List (Addr × Obj)) (s : Shared) (σ : St) (H : Hp) (Q : Option Int → Hp → Prop), Inv X pins σ H s → t σ H Q →
  wpAny (model X.prog X.w) X.A (evalPart e X.env) (fun u s' => ∃ o H', Inv X pins σ H' s' ∧ IsPart u o ∧ Q o H') X.xe s
def tNoPart : TO := fun _ H Q => Q none H
def zhI (t : TE) : TO := fun σ H Q => t σ H fun x H1 => ∃ i, x = .int i ∧ Q (some i) H1
section
variable {X : Cx} {e : Expr} {te : TE} {lo hi : Option Expr} {tl th : TO} {pos p2 : Pos}
theorem po_none : PO X none tNoPart := by
 intro pins s σ H Q I h
 rw [evalPart_none]
 exact wpAny_pure ⟨none, H, I, .none, h⟩
theorem zcz (h : PE X e te) : PO X (some e) (zhI te) := by
 intro pins s σ H Q I hw
 rw [evalPart_some]
 refine thn (h pins s σ H _ I hw) fun u s1 ⟨x, H1, I1, r1, q1⟩ => ?_
 obtain ⟨i, rfl, q⟩ := q1
 obtain ⟨t, rfl⟩ := r1
 exact ⟨some i, H1, I1, .int i t, q⟩
/-- what a slice of a value is, by values: the slice object stands at sl -/
def SlR (X : Cx) (r : V → Option Int → Option Int → Hp → VK → Prop) : Prop :=
 ∀ (pins : List (Addr × Obj)) (s : Shared) (σ : St) (H : Hp) (x : V) (v vl vu : Value) (lo hi : Option Int) (sl : Addr) (Q : VK), Inv X pins σ H s → RelV x v → s.heap.IsSliceOf sl vl vu .none → IsPart vl lo → IsPart vu hi → r x lo hi H Q →
  ∃ T id, typeLookup (.type T) "__getitem__" = pure (some (.builtin id)) ∧ s.TypeIs v T ∧ wpAny (model X.prog X.w) X.A (getItem v (.ref sl)) (EP X pins σ Q) X.xe s
def tSl (r : V → Option Int → Option Int → Hp → VK → Prop) (te : TE) (tl th : TO) : TE := fun σ H Q => te σ H fun x H1 => tl σ H1 fun l H2 => th σ H2 fun u H3 => r x l u H3 Q
/-- a[lo:hi], any a -/
theorem zbG {r : V → Option Int → Option Int → Hp → VK → Prop} (hr : SlR X r) (he : PE X e te) (hl : PO X lo tl) (hu : PO X hi th) : PE X (.Subscript e (.Slice lo hi none p2) pos) (tSl r te tl th) := by
 intro pins s σ H Q I h
 refine Subscript_ (thn (he pins s σ H _ I h) fun v s1 ⟨x, H1, I1, r1, q1⟩ => ?_)
 refine wpAny_Slice (thn (hl pins s1 σ H1 _ I1 q1) fun vl s2 ⟨l, H2, I2, pl, q2⟩ => thn (hu pins s2 σ H2 _ I2 q2) fun vu s3 ⟨u, H3, I3, pu, q3⟩ => ?_)
 rw [evalPart_none]
 refine wpAny_pure ?_
 have I4 : Inv X pins σ H3 { s3 with heap := s3.heap.push { cls := .type "slice", data := .fields #[vl, vu, .none] } } := I3.kept (t' := s3.toks) fun b ob q => Heap.get?_push_of_some _ q
 obtain ⟨T, id, hT, ht, hg⟩ := hr pins { s3 with heap := s3.heap.push { cls := .type "slice", data := .fields #[vl, vu, .none] } } σ H3 x v vl vu l u s3.heap.objs.size Q I4 r1 (Heap.IsSliceOf.new ..) pl pu q3
 show wpAny (model X.prog X.w) X.A (subscriptTail e (.Slice lo hi none p2) v (.ref s3.heap.objs.size)) (EP X pins σ Q) X.xe { s3 with heap := s3.heap.push { cls := .type "slice", data := .fields #[vl, vu, .none] } }
 exact tail_any (ops := [.ref s3.heap.objs.size, v]) ht hT hg (by with_unfolding_all rfl)
/-- the items of xs[lo:hi] -/
def cutV (xs : List V) (lo hi : Option Int) : List V := (xs.drop (HT.sIx xs.length 0 lo)).take (HT.sIx xs.length xs.length hi - HT.sIx xs.length 0 lo)
theorem zd0 (xs : List V) (lo hi : Option Int) : (cutV xs lo hi).length ≤ xs.length := by
 unfold cutV
 rw [List.length_take, List.length_drop]
 omega
/-- t + u, t not empty: u empty gives t itself -/
def rCatT (K : PySem.W.Frag) : R2 := fun x y H Q => ∃ a b xs ys, x = .ref a ∧ y = .ref b ∧ SqT K H a xs ∧ SqT K H b ys ∧ xs ≠ [] ∧ xs.length + ys.length ≤ sizeLine ∧
 (ys = [] → Q (.ref a) H) ∧ (ys ≠ [] → ∀ p, H p = none → Q (.ref p) (upd H p (.tup (xs ++ ys))))
theorem Vals.nil_iff {xs : List V} {us : List Value} (r : Vals xs us) : us = [] ↔ xs = [] := by
 cases r with
 | nil => simp
 | cons _ _ => simp
theorem op_catT : OpR X (binaryOp .Add) (rCatT X.K) := by
 intro pins s σ H x y v u Q I rx ry h
 obtain ⟨a, b, xs, ys, rfl, rfl, ha, hb, hx, hz, q1, q2⟩ := h
 cases rx
 cases ry
 obtain ⟨its, r1, p1, _⟩ := I.tuple ha
 obtain ⟨its2, r2, p2, _⟩ := I.tuple hb
 refine HT.cat_tup p1 p2 (fun z => hx (r1.nil_iff.mp z)) (fun z => ⟨.ref a, H, I, rfl, q1 (r2.nil_iff.mp z)⟩) (fun z => ?_) (by rw [← r1.length, ← r2.length]; exact hz)
 refine ⟨.ref s.heap.objs.size, _, I.laid (t' := s.toks) (o := .tup (xs ++ ys)) (fun b ob q => Heap.get?_push_of_some _ q) (Nat.le_refl _) ?_, rfl, q2 (fun w => z (r2.nil_iff.mpr w)) _ (I.hok.fresh (Nat.le_refl _))⟩
 exact ⟨by rw [List.length_append]; exact hz, _, r1.append r2, IsTup.new _ _⟩
end
end L2
namespace L2
open PySem PySem.Spec PyProof.Rows
/-- the place that an index of any sign means -/
def ixN (n : Nat) (i : Int) : Option Nat := if 0 ≤ i then (if i < n then some i.toNat else none) else if -(n : Int) ≤ i then some (i + n).toNat else none
def atI {α : Type} (xs : List α) (i : Int) : Option α := (ixN xs.length i).bind fun j => xs[j]?
theorem zfM {n : Nat} {i : Int} {j : Nat} (h : ixN n i = some j) : seqIndex? i n = some j ∧ j < n ∧ -(n : Int) ≤ i ∧ i < n := by
 unfold ixN at h
 by_cases h0 : 0 ≤ i
 ·rw [if_pos h0] at h
  by_cases h1 : i < n
  ·rw [if_pos h1] at h
   have e : i.toNat = j := Option.some.inj h
   exact ⟨by rw [seqIndex_of h0 h1, e], by omega, by omega, h1⟩
  ·rw [if_neg h1] at h; cases h
 ·rw [if_neg h0] at h
  by_cases h1 : -(n : Int) ≤ i
  ·rw [if_pos h1] at h
   have e : (i + n).toNat = j := Option.some.inj h
   exact ⟨by rw [seqIndex_neg (by omega) h1, e], by omega, h1, by omega⟩
  ·rw [if_neg h1] at h; cases h
theorem zea {α : Type} {xs : List α} {i : Int} {v : α} (h : atI xs i = some v) : ∃ j, seqIndex? i xs.length = some j ∧ xs[j]? = some v ∧ j < xs.length ∧ -(xs.length : Int) ≤ i ∧ i < xs.length := by
 unfold atI at h
 cases e : ixN xs.length i with
 | none => rw [e] at h; cases h
 | some j =>
  rw [e] at h
  obtain ⟨h1, h2, h3, h4⟩ := zfM e
  exact ⟨j, h1, h, h2, h3, h4⟩
theorem zaF {α : Type} {xs : List α} {j : Nat} {v : α} (h : xs[j]? = some v) : atI xs (j : Int) = some v := by
 have hj : j < xs.length := (List.getElem?_eq_some_iff.mp h).1
 have e : ixN xs.length (j : Int) = some j := by
  unfold ixN
  rw [if_pos (by omega), if_pos (by omega)]; simp
 unfold atI; rw [e]; exact h
theorem zb5 {α : Type} (xs : List α) (v : α) : atI (xs ++ [v]) (-1) = some v := by
 have hl : (xs ++ [v]).length = xs.length + 1 := by simp
 have e : ixN (xs ++ [v]).length (-1) = some xs.length := by
  unfold ixN
  rw [hl, if_neg (by decide), if_pos (by omega)]
  congr 1
  omega
 unfold atI
 rw [e]
 show (xs ++ [v])[xs.length]? = some v
 simp
/-- what stands as an index of a plain subscript -/
def zhh (b : Expr) : Prop := ∀ o i, subscripted b false o i = operate [o, i] (getItem o i)
/-- a subscript by values -/
def IxR (X : Cx) (r : R2) : Prop :=
 ∀ (value slice : Expr) (pins : List (Addr × Obj)) (s : Shared) (σ : St) (H : Hp) (x y : V) (v u : Value) (Q : VK), Inv X pins σ H s → RelV x v → RelV y u → r x y H Q →
  subscripted slice false v u = operate [v, u] (getItem v u) → wpAny (model X.prog X.w) X.A (subscriptTail value slice v u) (EP X pins σ Q) X.xe s
/-- a call of a builtin's method by values: the receiver, the arguments -/
def MtR (X : Cx) (id : String) (r : V → List V → Hp → VK → Prop) : Prop :=
 ∀ (pins : List (Addr × Obj)) (s : Shared) (σ : St) (H : Hp) (x : V) (xs : List V) (v : Value) (us : List Value) (Q : VK), Inv X pins σ H s → RelV x v → Vals xs us → r x xs H Q →
  wpAny (model X.prog X.w) X.A (call (.builtin id) (v :: us)) (EP X pins σ Q) X.xe s
section
variable {X : Cx} {a b : Expr} {ta tb : TE} {pos : Pos}
/-- a[b] -/
theorem zah {r : R2} (hr : IxR X r) (ha : PE X a ta) (hb : PE X b tb) (hs : zhh b) : PE X (.Subscript a b pos) (tOp r ta tb) := by
 intro pins s σ H Q I h
 exact Subscript_ (binT ha hb I h fun v u s2 x y H2 I2 rx ry q => hr a b pins s2 σ H2 x y v u Q I2 rx ry q (hs _ _))
def rIxL (K : PySem.W.Frag) : R2 := fun x y H Q => ∃ p xs i v, x = .ref p ∧ y = .int i ∧ SqL K H p xs ∧ atI xs i = some v ∧ Q v H
def rIxT (K : PySem.W.Frag) : R2 := fun x y H Q => ∃ p xs i v, x = .ref p ∧ y = .int i ∧ SqT K H p xs ∧ atI xs i = some v ∧ Q v H
def rIxS : R2 := fun x y H Q => ∃ z i c, x = .str z ∧ y = .int i ∧ z.length ≤ sizeLine ∧ atI z.cps.toList i = some c ∧ Q (.str ⟨#[c]⟩) H
theorem ix_list : IxR X (rIxL X.K) := by
 intro value slice pins s σ H x y v u Q I rx ry h hs
 obtain ⟨p, xs, i, z, rfl, rfl, hq, he, q⟩ := h
 cases rx
 obtain ⟨t, rfl⟩ := ry
 obtain ⟨its, r, pl, hz⟩ := I.list hq
 obtain ⟨j, h1, h2, h3, h4, h5⟩ := zea he
 obtain ⟨w, ew, rw'⟩ := r.get h2
 have hl := r.length
 have hn := line63
 have fin : EP X pins σ Q w s := ⟨z, H, I, rw', q⟩
 by_cases h0 : 0 ≤ i
 ·have hj : i.toNat = j := by
   rw [seqIndex_of h0 h5] at h1
   exact Option.some.inj h1
  exact item_listR pl.isList h0 (by omega) (by rw [hj]; simpa using ew) fin hs
 ·have hj : (i + (its.toArray.size : Int)).toNat = j := by
   rw [seqIndex_neg (by omega) h4] at h1
   rw [List.size_toArray, ← hl]
   exact Option.some.inj h1
  exact subscriptTail_builtinR (x := w) pl.isList.typeIs slot_list_getitem.lookup
   (wpAny_getItem_list_neg (Q := fun r s' => r = w ∧ EP X pins σ Q r s') pl.isList (by omega) (by rw [List.size_toArray] <;> omega) (by omega) (by rw [hj]; simpa using ew) ⟨rfl, fin⟩) hs
theorem ix_tup : IxR X (rIxT X.K) := by
 intro value slice pins s σ H x y v u Q I rx ry h hs
 obtain ⟨p, xs, i, z, rfl, rfl, hq, he, q⟩ := h
 cases rx
 obtain ⟨t, rfl⟩ := ry
 obtain ⟨its, r, pl, hz⟩ := I.tuple hq
 obtain ⟨j, h1, h2, h3, h4, h5⟩ := zea he
 obtain ⟨w, ew, rw'⟩ := r.get h2
 have hl := r.length
 have hn := line63
 have fin : EP X pins σ Q w s := ⟨z, H, I, rw', q⟩
 exact subscriptTail_builtinR (x := w) pl.typeIs slot_tuple_getitem.lookup
  (getItem_tuple (j := j) (Q := fun r s' => r = w ∧ EP X pins σ Q r s') pl (by omega) (by omega) (by rw [List.size_toArray, ← hl]; exact h1) (by simpa using ew) ⟨rfl, fin⟩) hs
theorem ix_str : IxR X rIxS := by
 intro value slice pins s σ H x y v u Q I rx ry h hs
 obtain ⟨z, i, c, rfl, rfl, hz, he, q⟩ := h
 obtain ⟨t, rfl⟩ := rx
 obtain ⟨t', rfl⟩ := ry
 obtain ⟨j, h1, h2, h3, h4, h5⟩ := zea he
 have hl : z.cps.toList.length = z.length := by simp [Str.length]
 rw [hl] at h1 h4 h5
 have hn := line63
 exact tail_any (typeIs_str s z t) slot_str_getitem.lookup (getItem_str (c := c) (by
  have e1 : decide (i < -(2 ^ 63 : Int)) = false := decide_eq_false (by omega)
  have e2 : decide (i ≥ 2 ^ 63) = false := decide_eq_false (by omega)
  rw [e1, e2, Bool.or_false]) (by rw [h1]; simpa using h2) ⟨.str ⟨#[c]⟩, H, I.tok _, ⟨_, rfl⟩, q⟩) hs
/-- the list's object behind a store -/
theorem zeF (its : List Value) (n j : Nat) (u : Value) : Obj.mapSeq (·.setIfInBounds j u) { cls := .type "list", data := .seq its.toArray n } = { cls := .type "list", data := .seq (its.set j u).toArray n } := by
 simp [Obj.mapSeq]
theorem Inv.lst {pins : List (Addr × Obj)} {σ : St} {H : Hp} {s : Shared} {p : Addr} {xs : List V} (I : Inv X pins σ H s) (h : H p = some (.lst xs)) :
  ∃ (its : List Value) (n : Nat), Vals xs its ∧ s.heap.get? p = some { cls := .type "list", data := .seq its.toArray n } ∧ xs.length ≤ sizeLine := by
 obtain ⟨z, its, n, r, e⟩ := I.hok p _ h
 exact ⟨its, n, r, e, z⟩
/-- the list at p is written by an update of its object -/
theorem Inv.lstUpd {pins : List (Addr × Obj)} {σ : St} {H : Hp} {s : Shared} {p : Addr} {xs ys : List V} {its its' : List Value} {n n' : Nat} {f : Obj → Obj} (I : Inv X pins σ H s) (h : H p = some (.lst xs))
  (ho : s.heap.get? p = some { cls := .type "list", data := .seq its.toArray n }) (hf : f { cls := .type "list", data := .seq its.toArray n } = { cls := .type "list", data := .seq its'.toArray n' }) (r : Vals ys its') (hz : ys.length ≤ sizeLine) (t : Nat) :
  Inv X pins σ (upd H p (.lst ys)) { s with heap := s.heap.update p f, toks := t } := by
 have e : (s.heap.update p f).get? p = some { cls := .type "list", data := .seq its'.toArray n' } := by
  rw [Heap.get?_update_self f ho (by rw [hf] <;> rfl), hf]
 refine I.write (x := p) (e := p) (by rw [h]; trivial) (.inl rfl) (fun b u hb q => (Heap.get?_update_other _ _ (Ne.symm hb)).trans q) ⟨_, e⟩ ?_
 exact ⟨hz, its', n', r, e⟩
def rSetL : V → V → V → Hp → (Hp → Prop) → Prop := fun o i v H Q => ∃ p xs k j, o = .ref p ∧ i = .int k ∧ H p = some (.lst xs) ∧ ixN xs.length k = some j ∧ Q (upd H p (.lst (xs.set j v)))
theorem set_list : PSet X rSetL := by
 intro pins s σ H o i v ov iv u Q I ro ri rv h
 obtain ⟨p, xs, k, j, rfl, rfl, hp, hj, q⟩ := h
 cases ro
 obtain ⟨t, rfl⟩ := ri
 obtain ⟨its, n, r, ho, hz⟩ := I.lst hp
 obtain ⟨h1, h2, h3, h4⟩ := zfM hj
 have hl := r.length
 have hn := line63
 have I' : Inv X pins σ (upd H p (.lst (xs.set j v))) { s with heap := s.heap.update p (Obj.mapSeq (·.setIfInBounds j u)) } :=
  I.lstUpd hp ho (zeF its n j u) (r.set rv j) (by rw [List.length_set]; exact hz) s.toks
 by_cases h0 : 0 ≤ k
 ·have hk : k.toNat = j := by
   rw [seqIndex_of h0 h4] at h1
   exact Option.some.inj h1
  exact PySem.W.ki_setAt ho h0 (by omega) (by rw [List.size_toArray, ← hl]; exact h4) (by rw [hk]; exact ⟨_, I', q⟩)
 ·have hk : (k + (its.toArray.size : Int)).toNat = j := by
   rw [seqIndex_neg (by omega) h3] at h1
   rw [List.size_toArray, ← hl]
   exact Option.some.inj h1
  exact PySem.W.ki_setBack ho (by omega) (by rw [List.size_toArray, ← hl]; exact h3) (by omega) (by rw [hk]; exact ⟨_, I', q⟩)
theorem zdn (lo hi : Option Int) (n : Nat) : (sliceBounds lo hi none n).1 = ((HT.sIx n 0 lo : Nat) : Int) ∧ (sliceBounds lo hi none n).2.1 = ((HT.sIx n n hi : Nat) : Int) ∧ (sliceBounds lo hi none n).2.2 = 1 := by
 refine ⟨?_, ?_, rfl⟩
 ·cases lo with
  | none => simp [sliceBounds, HT.sIx]
  | some i =>
   simp only [sliceBounds, HT.sIx, Option.getD_none, show (1 : Int) > 0 by decide, if_true]
   by_cases h : i < 0
   ·simp only [h, if_true] <;> omega
   ·simp only [h, if_false] <;> omega
 ·cases hi with
  | none => simp [sliceBounds, HT.sIx]
  | some i =>
   simp only [sliceBounds, HT.sIx, Option.getD_none, show (1 : Int) > 0 by decide, if_true]
   by_cases h : i < 0
   ·simp only [h, if_true] <;> omega
   ·simp only [h, if_false] <;> omega
theorem zc5 (its : List Value) (lo hi : Option Int) : slicePick its.toArray lo hi none = ((its.drop (HT.sIx its.length 0 lo)).take (HT.sIx its.length its.length hi - HT.sIx its.length 0 lo)).toArray := by
 obtain ⟨h1, h2, h3⟩ := zdn lo hi its.toArray.size
 unfold slicePick
 rw [h1, h2, h3]
 simp only [sliceRange_one, pick_run, List.size_toArray] <;> rfl
/-- xs[lo:hi] of a list: a new list -/
def rSlL (K : PySem.W.Frag) : V → Option Int → Option Int → Hp → VK → Prop := fun x lo hi H Q => ∃ a xs, x = .ref a ∧ SqL K H a xs ∧ ∀ p, H p = none → Q (.ref p) (upd H p (.lst (cutV xs lo hi)))
theorem sl_list : SlR X (rSlL X.K) := by
 intro pins s σ H x v vl vu lo hi sl Q I rx hs pl pu h
 obtain ⟨a, xs, rfl, hx, q⟩ := h
 cases rx
 obtain ⟨its, r, ht, hz⟩ := I.list hx
 have hlen := r.length
 refine ⟨"list", _, slot_list_getitem.lookup, ht.isList.typeIs, ?_⟩
 refine wpAny_getItem_list_slice ht.isList hs pl pu .none (by simp) ?_ (by rw [List.size_toArray] <;> omega)
 rw [zc5, ← hlen]
 refine ⟨.ref s.heap.objs.size, _, I.laid (t' := s.toks) (o := .lst (cutV xs lo hi)) (fun b ob q => Heap.get?_push_of_some _ q) (Nat.le_refl _) ?_, rfl, q _ (I.hok.fresh (Nat.le_refl _))⟩
 exact ⟨Nat.le_trans (zd0 xs lo hi) hz, _, 0, (r.drop (HT.sIx xs.length 0 lo)).take (HT.sIx xs.length xs.length hi - HT.sIx xs.length 0 lo), Heap.get?_push_size _ rfl⟩
def flatV : V → Bool
 | .non => true
 | .bl _ => true
 | .int _ => true
 | .str _ => true
 | _ => false
/-- == of flat values -/
def eqV : V → V → Bool
 | .non, .non => true
 | .bl a, .bl b => a == b
 | .bl a, .int b => (if a then 1 else 0) == b
 | .int a, .bl b => a == (if b then 1 else 0)
 | .int a, .int b => a == b
 | .str a, .str b => a == b
 | _, _ => false
theorem zg9 {A : Around} {s : Shared} {y x : V} {u v : Value} (ry : RelV y u) (rx : RelV x v) (fy : flatV y = true) (fx : flatV x = true) : SeqAt.EqAt A s u v (eqV y x) := by
 cases y with
 | non =>
  cases ry
  cases x with
  | non => cases rx; exact SeqAt.EqAt.same _
  | bl b => cases rx; exact SeqAt.EqAt.none_bool b
  | int b => obtain ⟨t, rfl⟩ := rx; exact SeqAt.EqAt.none_int b t
  | str b => obtain ⟨t, rfl⟩ := rx; exact SeqAt.EqAt.none_str b t
  | _ => exact absurd (show false = true from fx) Bool.false_ne_true
 | bl a =>
  cases ry
  cases x with
  | non => cases rx; exact SeqAt.EqAt.bool_none a
  | bl b => cases rx; exact SeqAt.EqAt.bool_bool a b
  | int b => obtain ⟨t, rfl⟩ := rx; exact SeqAt.EqAt.bool_int a b t
  | str b => obtain ⟨t, rfl⟩ := rx; exact SeqAt.EqAt.bool_str a b t
  | _ => exact absurd (show false = true from fx) Bool.false_ne_true
 | int a =>
  obtain ⟨t', rfl⟩ := ry
  cases x with
  | non => cases rx; exact SeqAt.EqAt.int_none a t'
  | bl b => cases rx; exact SeqAt.EqAt.int_bool a t' b
  | int b => obtain ⟨t, rfl⟩ := rx; exact SeqAt.EqAt.int_int a t' b t
  | str b => obtain ⟨t, rfl⟩ := rx; exact SeqAt.EqAt.int_str a t' b t
  | _ => exact absurd (show false = true from fx) Bool.false_ne_true
 | str a =>
  obtain ⟨t', rfl⟩ := ry
  cases x with
  | non => cases rx; exact SeqAt.EqAt.str_none a t'
  | bl b => cases rx; exact SeqAt.EqAt.str_bool a t' b
  | int b => obtain ⟨t, rfl⟩ := rx; exact SeqAt.EqAt.str_int a t' b t
  | str b => obtain ⟨t, rfl⟩ := rx; exact SeqAt.EqAt.str_str a t' b t
  | _ => exact absurd (show false = true from fx) Bool.false_ne_true
 | _ => exact absurd (show false = true from fy) Bool.false_ne_true
/-- the items' answers, read off the values (a value's own answer does not lean on its token) -/
def eqU (x : V) (u : Value) : Bool := match u with
 | .none => eqV .non x
 | .bool b => eqV (.bl b) x
 | .int i _ => eqV (.int i) x
 | .str z _ => eqV (.str z) x
 | _ => false
theorem zhe {x y : V} {u : Value} (r : RelV y u) (f : flatV y = true) : eqU x u = eqV y x := by
 cases y with
 | non => cases r; rfl
 | bl b => cases r; rfl
 | int i => obtain ⟨t, rfl⟩ := r; rfl
 | str z => obtain ⟨t, rfl⟩ := r; rfl
 | _ => exact absurd (show false = true from f) Bool.false_ne_true
theorem zcu {x : V} : ∀ {xs : List V} {us : List Value}, Vals xs us → xs.all flatV = true → us.any (eqU x) = xs.any fun y => eqV y x
 | _, _, .nil, _ => rfl
 | y :: xs, u :: us, .cons r t, f => by
  rw [List.all_cons, Bool.and_eq_true] at f
  rw [List.any_cons, List.any_cons, zhe r f.1, zcu t f.2]
theorem zbI {A : Around} {s : Shared} {x : V} {v : Value} (rx : RelV x v) (fx : flatV x = true) : ∀ {xs : List V} {us : List Value}, Vals xs us → xs.all flatV = true → ∀ u ∈ us, SeqAt.EqAt A s u v (eqU x u)
 | _, _, .nil, _ => fun u hu => by cases hu
 | y :: xs, u :: us, .cons r t, f => fun u' hu => by
  rw [List.all_cons, Bool.and_eq_true] at f
  rcases List.mem_cons.mp hu with rfl | hu
  ·rw [zhe r f.1]; exact zg9 r rx f.1 fx
  ·exact zbI rx fx t f.2 u' hu
def inV (x : V) (xs : List V) : Bool := xs.any fun y => eqV y x
/-- x in a list or tuple of flat items -/
def rIn (K : PySem.W.Frag) (neg : Bool) : R2 := fun x y H Q => ∃ p xs, y = .ref p ∧ (SqL K H p xs ∨ SqT K H p xs) ∧ flatV x = true ∧ xs.all flatV = true ∧ Q (.bl (if neg then !inV x xs else inV x xs)) H
theorem op_in_seq : OpR X (compareOp .In) (rIn X.K false) := by
 intro pins s σ H x y v u Q I rx ry h
 obtain ⟨p, xs, rfl, hq, fx, fs, q⟩ := h
 cases ry
 rcases hq with hq | hq
 ·obtain ⟨its, r, pl, hz⟩ := I.list hq
  refine SeqAt.in_listAt (eqU x) pl.isList (fun w hw => zbI rx fx r fs w (by simpa using hw)) ⟨.bl _, H, I, rfl, ?_⟩
  rw [show its.toArray.any (eqU x) = its.any (eqU x) by simp, zcu r fs]
  exact q
 ·obtain ⟨its, r, pl, hz⟩ := I.tuple hq
  refine SeqAt.in_tupleAt (eqU x) pl (fun w hw => zbI rx fx r fs w (by simpa using hw)) ⟨.bl _, H, I, rfl, ?_⟩
  rw [show its.toArray.any (eqU x) = its.any (eqU x) by simp, zcu r fs]
  exact q
theorem op_notIn_seq : OpR X (compareOp .NotIn) (rIn X.K true) := by
 intro pins s σ H x y v u Q I rx ry h
 obtain ⟨p, xs, rfl, hq, fx, fs, q⟩ := h
 cases ry
 rcases hq with hq | hq
 ·obtain ⟨its, r, pl, hz⟩ := I.list hq
  refine SeqAt.notIn_listAt (eqU x) pl.isList (fun w hw => zbI rx fx r fs w (by simpa using hw)) ⟨.bl _, H, I, rfl, ?_⟩
  rw [show its.toArray.any (eqU x) = its.any (eqU x) by simp, zcu r fs]
  exact q
 ·obtain ⟨its, r, pl, hz⟩ := I.tuple hq
  refine SeqAt.notIn_tupleAt (eqU x) pl (fun w hw => zbI rx fx r fs w (by simpa using hw)) ⟨.bl _, H, I, rfl, ?_⟩
  rw [show its.toArray.any (eqU x) = its.any (eqU x) by simp, zcu r fs]
  exact q
theorem call_list_of : zbr X (.type "list") (fun xs H Q => ∃ p ys, xs = [.ref p] ∧ (SqL X.K H p ys ∨ SqT X.K H p ys) ∧ ∀ l, H l = none → Q (.ref l) (upd H l (.lst ys))) := by
 intro pins s σ H xs us Q I r h
 obtain ⟨p, ys, rfl, hq, q⟩ := h
 obtain ⟨u, rfl, rx⟩ := zct r
 cases rx
 have fin : ∀ (its : List Value), Vals ys its → ys.length ≤ sizeLine → ∀ (h' : Heap) (c' : Nat), (∀ b o', s.heap.get? b = some o' → h'.get? b = some o') →
   h'.get? s.heap.objs.size = some { cls := .type "list", dict := none, data := .seq its.toArray c', slots := #[] } → EP X pins σ Q (.ref s.heap.objs.size) { s with heap := h' } := fun its r' hz h' c' kp e =>
  ⟨.ref s.heap.objs.size, _, I.laid (t' := s.toks) kp (Nat.le_refl _) (show zaT X.prog X.w _ h' _ (.lst ys) from ⟨hz, its, c', r', e⟩), rfl, q _ (I.hok.fresh (Nat.le_refl _))⟩
 rcases hq with hq | hq
 ·obtain ⟨its, r', pl, hz⟩ := I.list hq
  have hlen := r'.length
  obtain ⟨o, ho, hc, n, hd⟩ := pl.isList
  exact call_list_seq p (.inl rfl) ho hc hd (fun h' c' kp e => fin its r' hz h' c' kp e) (by simp only [List.size_toArray] <;> omega)
 ·obtain ⟨its, r', pl, hz⟩ := I.tuple hq
  have hlen := r'.length
  obtain ⟨o, ho, hc, n, hd⟩ := pl
  exact call_list_seq p (.inr rfl) ho hc hd (fun h' c' kp e => fin its r' hz h' c' kp e) (by simp only [List.size_toArray] <;> omega)
theorem call_tuple_of : zbr X (.type "tuple") (fun xs H Q => ∃ p ys, xs = [.ref p] ∧ ((SqL X.K H p ys ∧ ∀ l, H l = none → Q (.ref l) (upd H l (.tup ys))) ∨ (SqT X.K H p ys ∧ Q (.ref p) H))) := by
 intro pins s σ H xs us Q I r h
 obtain ⟨p, ys, rfl, h⟩ := h
 obtain ⟨u, rfl, rx⟩ := zct r
 cases rx
 rcases h with ⟨hq, q⟩ | ⟨hq, q⟩
 ·obtain ⟨its, r', pl, hz⟩ := I.list hq
  have hlen := r'.length
  refine call_tuple_list pl.isList (fun h' kp => ?_) (by simp only [List.size_toArray] <;> omega)
  have I1 : Inv X pins σ H { s with heap := h' } := I.kept (t' := s.toks) kp
  have I2 : Inv X pins σ (upd H h'.objs.size (.tup ys)) { s with heap := h'.push { cls := .type "tuple", data := .seq its.toArray } } :=
   I1.laid (t' := s.toks) (fun b o e => Heap.get?_push_of_some _ e) (Nat.le_refl _) (show zaT X.prog X.w _ _ _ (.tup ys) from ⟨hz, its, r', IsTup.new _ _⟩)
  exact ⟨.ref h'.objs.size, _, I2, rfl, q _ (I1.hok.fresh (Nat.le_refl _))⟩
 ·obtain ⟨its, r', pl, hz⟩ := I.tuple hq
  exact call_tuple_same pl ⟨.ref p, H, I, rfl, q⟩
/-- the value is of that builtin type -/
def tyV (K : PySem.W.Frag) (T : String) (x : V) (H : Hp) : Prop := match x with
 | .str _ => T = "str"
 | .int _ => T = "int"
 | .ref p => (T = "list" ∧ ∃ xs, SqL K H p xs) ∨ (T = "tuple" ∧ ∃ o, K.lookup p = some o ∧ o.cls = .type "tuple" ∧ o.dict = none) ∨
   (T = "dict" ∧ ((∃ kvs, H p = some (.dK kvs)) ∨ ∃ kvs, H p = some (.dT kvs))) ∨ (T = "set" ∧ ∃ S n, H p = some (.set S n))
 | _ => False
theorem zhf {pins : List (Addr × Obj)} {σ : St} {H : Hp} {s : Shared} {T : String} {x : V} {v : Value} (I : Inv X pins σ H s) (r : RelV x v) (ty : tyV X.K T x H) :
  s.TypeIs v T ∧ ∀ a, v = .ref a → ∃ ob, s.heap.get? a = some ob ∧ ob.dict = none := by
 cases x with
 | str z =>
  obtain ⟨t, rfl⟩ := r
  cases (show T = "str" from ty)
  exact ⟨typeIs_str s z t, fun _ e => nomatch e⟩
 | int i =>
  obtain ⟨t, rfl⟩ := r
  cases (show T = "int" from ty)
  exact ⟨typeIs_int s i t, fun _ e => nomatch e⟩
 | ref p =>
  cases r
  rcases ty with ⟨rfl, xs, hq⟩ | ⟨rfl, o, hk, hc, hd⟩ | ⟨rfl, hk⟩ | ⟨rfl, S, n, hk⟩
  ·obtain ⟨its, _, pl, _⟩ := I.list hq
   refine ⟨pl.isList.typeIs, fun a e => ?_⟩
   cases e
   obtain ⟨o, n, e, c, hd, _⟩ := pl
   exact ⟨o, e, hd⟩
  ·refine ⟨⟨o, I.kIn p o hk, hc⟩, fun a e => ?_⟩
   cases e
   exact ⟨o, I.kIn _ o hk, hd⟩
  ·have z : ∃ o, s.heap.get? p = some o ∧ o.ExactDict := by
    rcases hk with ⟨kvs, hk⟩ | ⟨kvs, hk⟩
    ·obtain ⟨_, _, _, _, o, _, _, e, ex, _⟩ := I.hok p _ hk
     exact ⟨o, e, ex⟩
    ·obtain ⟨_, _, _, _, o, _, _, e, ex, _⟩ := I.hok p _ hk
     exact ⟨o, e, ex⟩
   obtain ⟨o, e, ex⟩ := z
   refine ⟨⟨o, e, ex.1⟩, fun a e2 => ?_⟩
   cases e2
   exact ⟨o, e, ex.2.1⟩
  ·obtain ⟨o, _, _, _, e, ex, _⟩ := I.hok p _ hk
   refine ⟨⟨o, e, ex.1⟩, fun a e2 => ?_⟩
   cases e2
   exact ⟨o, e, ex.2.1⟩
 | _ => exact False.elim ty
def tBM0 (K : PySem.W.Frag) (T : String) (r : V → List V → Hp → VK → Prop) (to : TE) : TE := fun σ H Q => to σ H fun x H1 => tyV K T x H1 ∧ r x [] H1 Q
def tBM (K : PySem.W.Frag) (T : String) (r : V → List V → Hp → VK → Prop) (to : TE) (t : TA) : TE := fun σ H Q => to σ H fun x H1 => tyV K T x H1 ∧ t σ H1 fun xs H2 => r x xs H2 Q
variable {o e : Expr} {es : List Expr} {to : TE} {t : TA} {name : Str} {apos cpos : Pos} {T id : String} {r : V → List V → Hp → VK → Prop}
theorem ziC (pa : PlainAttrs T) (slot : Slot T name id) (hty : typeOf (.builtin id) = pure (.type "method_descriptor")) (hm : MtR X id r) (ho : PE X o to)
  (hbase : attributeBase o name X.env (eval o X.env) = eval o X.env := by rfl) (hline : (apos.endLine == cpos.line) = true := by rfl) : PE X (.Call (.Attribute o name apos) [] [] cpos) (tBM0 X.K T r to) := by
 intro pins s σ H Q I h
 refine wpAny_Call_method0_late hbase hline (thn (ho pins s σ H _ I h) fun v s1 ⟨x, H1, I1, r1, ty, q1⟩ => ?_)
 obtain ⟨h1, h2⟩ := zhf I1 r1 ty
 exact ⟨T, id, pa, slot, hty, h1, h2, Calls.callWith_builtin rfl (PySem.evalArgs_none (hm pins s1 σ H1 x [] v [] Q I1 r1 .nil q1))⟩
theorem zbq (pa : PlainAttrs T) (slot : Slot T name id) (hty : typeOf (.builtin id) = pure (.type "method_descriptor")) (hm : MtR X id r) (ho : PE X o to) (ha : PA X (e :: es) t)
  (hbase : attributeBase o name X.env (eval o X.env) = eval o X.env := by rfl)
  (hfew : ((backTo cpos (starEach (e :: es) X.env)).all (fun x => !x.1) && (backToKw cpos (keywordEach [] X.env)).all (fun x => x.1.isSome)
   && decide ((e :: es).length + ([] : List Keyword).length + (if ([] : List Keyword).isEmpty then 0 else 1) < 30)) = true := by rfl)
  (hline : (apos.endLine == cpos.line) = true := by rfl) (hs : starEach (e :: es) X.env = (false, eval e X.env) :: starEach es X.env := by rfl) (hplain : (backTo cpos (starEach es X.env)).any (·.1) = false := by rfl) :
  PE X (.Call (.Attribute o name apos) (e :: es) [] cpos) (tBM X.K T r to t) := by
 intro pins s σ H Q I h
 refine wpAny_Call_method_late hbase hfew hline rfl (thn (ho pins s σ H _ I h) fun v s1 ⟨x, H1, I1, r1, ty, q1⟩ => ?_)
 obtain ⟨h1, h2⟩ := zhf I1 r1 ty
 refine ⟨T, id, pa, slot, hty, h1, h2, ?_⟩
 have hA := ha cpos pins s1 σ H1 _ I1 q1
 rw [hs] at hA ⊢
 refine Calls.callWith_builtin (by show (false || (backTo cpos (starEach es X.env)).any (·.1)) = false; rw [hplain] <;> rfl) (Calls.evalArgs_plain ?_)
 exact thn hA fun us s2 ⟨vs, H2, I2, r2, q2⟩ => hm pins s2 σ H2 x vs v us Q I2 r1 r2 q2
/- xs.append(e), list.index on a module's tuple .. are MtR facts of 06m -/
end
end L2
namespace L2
open PySem PySem.Spec PyProof.Rows
def MtM (X : Cx) (id : String) (r : V → List V → Hp → VK → Prop) : Prop :=
 ∀ (pins : List (Addr × Obj)) (s : Shared) (σ : St) (H : Hp) (x : V) (xs : List V) (v : Value) (us : List Value) (Q : VK), Inv X pins σ H s → RelV x v → Vals xs us → r x xs H Q →
  wpAny (model X.prog X.w) X.A (call (.builtin id) (v :: us)) (EP X pins σ Q) X.xe s
theorem Vals.one : ∀ {x : V} {us : List Value}, Vals [x] us → ∃ u, us = [u] ∧ RelV x u
 | _, _, .cons r .nil => ⟨_, rfl, r⟩
theorem Vals.two : ∀ {x y : V} {us : List Value}, Vals [x, y] us → ∃ u v, us = [u, v] ∧ RelV x u ∧ RelV y v
 | _, _, _, .cons r (.cons q .nil) => ⟨_, _, rfl, r, q⟩
theorem Vals.zero : ∀ {us : List Value}, Vals [] us → us = []
 | _, .nil => rfl
theorem Vals.dropLast {xs : List V} {us : List Value} (h : Vals xs us) : Vals xs.dropLast us.dropLast := by
 induction h with
 | nil => exact .nil
 | cons r t ih =>
  cases t with
  | nil => exact .nil
  | cons q t' => exact .cons r ih
theorem zeB {α : Type} (l : List α) : l.eraseIdx (l.length - 1) = l.dropLast := by
 induction l with
 | nil => rfl
 | cons a r ih =>
  cases r with
  | nil => rfl
  | cons b r =>
   have e : (a :: b :: r).length - 1 = ((b :: r).length - 1) + 1 := by
    have h1 : (a :: b :: r).length = r.length + 2 := rfl
    have h2 : (b :: r).length = r.length + 1 := rfl
    omega
   rw [e, List.eraseIdx_cons_succ, ih]
   all_goals rfl
section
variable {X : Cx} {pins : List (Addr × Obj)} {σ : St} {H : Hp} {s : Shared} {l b : Addr} {xs ys zs : List V}
theorem Inv.lset {its its' : List Value} {n : Nat} {f : Array Value → Array Value} {t' : Nat} (I : Inv X pins σ H s) (hH : H l = some (.lst xs))
  (e : s.heap.get? l = some { cls := .type "list", data := .seq its.toArray n }) (hf : f its.toArray = its'.toArray) (hv : Vals ys its') (hz : ys.length ≤ sizeLine) :
  Inv X pins σ (upd H l (.lst ys)) { s with heap := s.heap.update l (Obj.mapSeq f), toks := t' } := by
 have q := PySem.IsL.update e f
 rw [hf] at q
 refine I.write (x := l) (e := l) (by rw [hH]; exact trivial) (.inl rfl) (fun b' u hb hu => (Heap.get?_update_other s.heap (Obj.mapSeq f) (Ne.symm hb)).trans hu) ⟨_, q⟩ ?_
 exact ⟨hz, its', _, hv, q⟩
theorem Inv.lnew {its : List Value} {t' : Nat} (I : Inv X pins σ H s) (hv : Vals ys its) (hz : ys.length ≤ sizeLine) :
  Inv X pins σ (upd H s.heap.objs.size (.lst ys)) { s with heap := s.heap.push { cls := .type "list", data := .seq its.toArray }, toks := t' } :=
 I.laid (fun _ _ q => Heap.get?_push_of_some _ q) (Nat.le_refl _) ⟨hz, its, 0, hv, Heap.get?_push_size _ rfl⟩
theorem Inv.fresh (I : Inv X pins σ H s) : H s.heap.objs.size = none := I.hok.fresh (Nat.le_refl _)
theorem Inv.lstM (I : Inv X pins σ H s) (hH : H l = some (.lst xs)) : xs.length ≤ sizeLine ∧ ∃ (its : List Value) (n : Nat), Vals xs its ∧ xs.length = its.length ∧ s.heap.get? l = some { cls := .type "list", data := .seq its.toArray n } := by
 obtain ⟨z, its, n, r, e⟩ := I.hok l _ hH
 exact ⟨z, its, n, r, r.length, e⟩
theorem zgA {n : Nat} (h : n ≤ sizeLine) : Builtin.List.listTooLong n = false := by
 unfold Builtin.List.listTooLong
 exact decide_eq_false (by omega)
end
section
variable {X : Cx}
def rAppend : V → List V → Hp → VK → Prop := fun x vs H Q => ∃ l xs y, x = .ref l ∧ vs = [y] ∧ H l = some (.lst xs) ∧ xs.length < sizeLine ∧ Q .non (upd H l (.lst (xs ++ [y])))
theorem mt_append : MtM X "list.append" rAppend := by
 intro pins s σ H x vs v us Q I rx rv h
 obtain ⟨l, xs, y, rfl, rfl, hH, hz, q⟩ := h
 cases rx
 obtain ⟨u, rfl, ru⟩ := rv.one
 obtain ⟨z, its, n, r, hl, e⟩ := I.lstM hH
 refine call_meets F.slot_list_append ⟨_, e, rfl⟩ F.entry_list_append (F.args_list_append_2 _ _) (PySem.list_append l its.toArray n u (by rw [List.size_toArray]; omega)) ⟨e, ?_⟩
 refine ⟨.non, _, I.lset (its' := its ++ [u]) hH e (by simp) (r.append (.cons ru .nil)) ?_, rfl, q⟩
 rw [List.length_append, List.length_singleton]
 omega
def rExtend : V → List V → Hp → VK → Prop := fun x vs H Q => ∃ l b xs zs, x = .ref l ∧ vs = [.ref b] ∧ H l = some (.lst xs) ∧ H b = some (.lst zs) ∧ xs.length + zs.length ≤ sizeLine ∧ Q .non (upd H l (.lst (xs ++ zs)))
theorem mt_extend : MtM X "list.extend" rExtend := by
 intro pins s σ H x vs v us Q I rx rv h
 obtain ⟨l, b, xs, zs, rfl, rfl, hH, hB, hz, q⟩ := h
 cases rx
 obtain ⟨u, rfl, ru⟩ := rv.one
 cases ru
 obtain ⟨z, its, n, r, hl, e⟩ := I.lstM hH
 obtain ⟨z2, its2, n2, r2, hl2, e2⟩ := I.lstM hB
 have hsz : its.toArray.size + its2.toArray.size ≤ sizeLine := by rw [List.size_toArray, List.size_toArray]; omega
 have hlong : ¬ (!its.toArray.isEmpty && Builtin.List.listTooLong (its.toArray.size + its2.toArray.size)) = true := by
  rw [zgA hsz, Bool.and_false]
  exact Bool.false_ne_true
 refine call_meets F.slot_list_extend ⟨_, e, rfl⟩ F.entry_list_extend (F.args_list_extend_2 _ _)
  (AutoSeq1.list_extend_list_list_0 l its.toArray n b its2.toArray n2 hlong (by rw [List.size_toArray]; omega) (by omega)) ⟨e, e2, ?_⟩
 refine ⟨.non, _, I.lset (its' := its ++ its2) hH e (by simp) (r.append r2) ?_, rfl, q⟩
 rw [List.length_append]
 omega
def rPop : V → List V → Hp → VK → Prop := fun x vs H Q => ∃ l xs y, x = .ref l ∧ vs = [] ∧ H l = some (.lst xs) ∧ xs[xs.length - 1]? = some y ∧ Q y (upd H l (.lst xs.dropLast))
theorem mt_pop : MtM X "list.pop" rPop := by
 intro pins s σ H x vs v us Q I rx rv h
 obtain ⟨l, xs, y, rfl, rfl, hH, hy, q⟩ := h
 cases rx
 have hus := rv.zero
 subst hus
 obtain ⟨z, its, n, r, hl, e⟩ := I.lstM hH
 obtain ⟨u, hu, ru⟩ := r.get hy
 have hy' : its.toArray[its.toArray.size - 1]? = some u := by
  show its.toArray[its.length - 1]? = some u
  rw [← Array.getElem?_toList, ← hl]
  exact hu
 refine call_meets F.slot_list_pop ⟨_, e, rfl⟩ F.entry_list_pop (F.args_list_pop_1 _) (MeetsSeq.list_pop_last l its.toArray n u hy' (by rw [List.size_toArray]; omega)) ⟨e, ?_⟩
 refine ⟨y, _, I.lset (its' := its.dropLast) hH e ?_ r.dropLast ?_, ru, q⟩
 ·show its.toArray.eraseIdxIfInBounds (its.toArray.size - 1) = its.dropLast.toArray
  rw [List.size_toArray, List.eraseIdxIfInBounds_toArray, zeB]
 ·rw [List.length_dropLast]
  omega
def rCat : R2 := fun x y H Q => ∃ l b xs zs, x = .ref l ∧ y = .ref b ∧ H l = some (.lst xs) ∧ H b = some (.lst zs) ∧ xs.length + zs.length ≤ sizeLine ∧ ∀ p, H p = none → Q (.ref p) (upd H p (.lst (xs ++ zs)))
theorem op_cat : OpR X (binaryOp .Add) rCat := by
 intro pins s σ H x y v u Q I rx ry h
 obtain ⟨l, b, xs, zs, rfl, rfl, hH, hB, hz, q⟩ := h
 cases rx
 cases ry
 obtain ⟨z, its, n, r, hl, e⟩ := I.lstM hH
 obtain ⟨z2, its2, n2, r2, hl2, e2⟩ := I.lstM hB
 refine PySem.P.add_list e e2 ?_ (by rw [List.size_toArray, List.size_toArray]; omega)
 have ea : its.toArray ++ its2.toArray = (its ++ its2).toArray := by simp
 rw [ea]
 exact ⟨.ref _, _, I.lnew (t' := s.toks) (r.append r2) (by rw [List.length_append]; omega), rfl, q _ I.fresh⟩
end
section
variable {prog : Program} {w : World} {A : Around} {E : Value → Shared → Prop} {s : Shared}
end
section
variable {X : Cx}
end
end L2
namespace L2
open PySem PySem.Spec PyProof.Rows
section
variable {κ : Type} [DecidableEq κ]
def valV (kvs : List (κ × V)) (k : κ) : Option V := (kvs.find? fun kv => decide (kv.1 = k)).map (·.2)
/-- in its place, or at the end -/
def putK (kvs : List (κ × V)) (k : κ) (v : V) : List (κ × V) :=
 if (kvs.any fun kv => decide (kv.1 = k)) = true then kvs.map (fun kv => if kv.1 = k then (kv.1, v) else kv) else kvs ++ [(k, v)]
theorem zb6 {p : κ × V} {r : List (κ × V)} {k : κ} (e : p.1 = k) : valV (p :: r) k = some p.2 := by simp [valV, List.find?_cons, e]
theorem zb7 {p : κ × V} {r : List (κ × V)} {k : κ} (e : ¬ p.1 = k) : valV (p :: r) k = valV r k := by simp [valV, List.find?_cons, e]
theorem zbo (k : κ) : ∀ kvs : List (κ × V), (kvs.any fun kv => decide (kv.1 = k)) = (valV kvs k).isSome
 | [] => rfl
 | p :: r => by
  rw [List.any_cons]
  by_cases e : p.1 = k
  ·simp only [zb6 e, decide_eq_true e, Bool.true_or, Option.isSome_some]
  ·rw [zb7 e, decide_eq_false e, Bool.false_or]; exact zbo k r
theorem zbC (kvs : List (κ × V)) (k : κ) (v : V) : (putK kvs k v).length ≤ kvs.length + 1 := by
 unfold putK
 split
 ·rw [List.length_map]; omega
 ·rw [List.length_append, List.length_cons, List.length_nil]; omega
theorem zgj {kvs : List (κ × V)} {k : κ} (v : V) (h : valV kvs k = none) : putK kvs k v = kvs ++ [(k, v)] := by
 unfold putK
 rw [zbo, h]
 exact if_neg (by decide)
theorem RelO.isSome_eq {o : Option V} {u : Option Value} (r : RelO o u) : o.isSome = u.isSome := by
 cases o with
 | none => cases u with
  | none => rfl
  | some _ => exact (show False from r).elim
 | some _ => cases u with
  | none => exact (show False from r).elim
  | some _ => rfl
theorem RelO.getD {o : Option V} {u : Option Value} {d : V} {d' : Value} (r : RelO o u) (rd : RelV d d') : RelV (o.getD d) (u.getD d') := by
 cases o with
 | none => cases u with
  | none => exact rd
  | some _ => exact (show False from r).elim
 | some _ => cases u with
  | none => exact (show False from r).elim
  | some _ => exact r
/-- raw tables of the same keys -/
theorem KV.val {kvs : List (κ × V)} {vs : List (κ × Value)} (r : KV kvs vs) (k : κ) : RelO (valV kvs k) (valueAt vs k) := by
 unfold KV at r
 induction r with
 | nil => exact True.intro
 | @cons p q ps qs h t ih =>
  obtain ⟨h1, h2⟩ := h
  by_cases e : p.1 = k
  ·have e' : q.1 = k := h1.symm.trans e
   have b : valueAt (q :: qs) k = some q.2 := by simp [valueAt, List.find?_cons, e']
   rw [zb6 e, b]; exact h2
  ·have e' : ¬ q.1 = k := fun z => e (h1.trans z)
   have b : valueAt (q :: qs) k = valueAt qs k := by simp [valueAt, List.find?_cons, e']
   rw [zb7 e, b]; exact ih
theorem KV.any {kvs : List (κ × V)} {vs : List (κ × Value)} (r : KV kvs vs) (k : κ) : (kvs.any fun kv => decide (kv.1 = k)) = vs.any fun kv => decide (kv.1 = k) := by
 unfold KV at r
 induction r with
 | nil => rfl
 | cons h t ih => rw [List.any_cons, List.any_cons, ih, h.1]
theorem KV.repl {kvs : List (κ × V)} {vs : List (κ × Value)} (r : KV kvs vs) (k : κ) {y : V} {u : Value} (ry : RelV y u) :
  KV (kvs.map fun kv => if kv.1 = k then (kv.1, y) else kv) (vs.map fun kv => if kv.1 = k then (kv.1, u) else kv) := by
 unfold KV at r ⊢
 induction r with
 | nil => exact .nil
 | @cons p q ps qs h t ih =>
  rw [List.map_cons, List.map_cons]
  refine .cons ?_ ih
  obtain ⟨h1, h2⟩ := h
  by_cases e : p.1 = k
  ·rw [if_pos e, if_pos (h1.symm.trans e)]; exact ⟨h1, ry⟩
  ·rw [if_neg e, if_neg (fun z => e (h1.trans z))]; exact ⟨h1, h2⟩
theorem KV.put {kvs : List (κ × V)} {vs : List (κ × Value)} (r : KV kvs vs) (k : κ) {y : V} {u : Value} (ry : RelV y u) : KV (putK kvs k y) (stored vs k u) := by
 unfold putK stored
 rw [r.any k]
 by_cases e : (vs.any fun kv => decide (kv.1 = k)) = true
 ·rw [if_pos e, if_pos e]; exact r.repl k ry
 ·rw [if_neg e, if_neg e]; exact Paired.snoc r ⟨rfl, ry⟩
theorem KV.length {kvs : List (κ × V)} {vs : List (κ × Value)} (r : KV kvs vs) : kvs.length = vs.length := Paired.length r
end
theorem zdV {P : Program} {w : World} {k : Key} {u : Value} (r : RelV (kV k) u) : (zai P w).is k u = true := by
 cases k with
 | inl i => obtain ⟨t, e⟩ := (show ∃ t, u = Value.int i t from r); subst e; exact zd1 P w i t
 | inr x => obtain ⟨t, e⟩ := (show ∃ t, u = Value.str x t from r); subst e; exact zdY P w x t
theorem zdr {P : Program} {w : World} : ∀ {ks : List Key} {us : List Value}, Vals (ks.map kV) us → ItemsAre (zai P w) ks us
 | [], _, r => by rw [List.map_nil] at r; cases r; exact .nil
 | k :: ks, _, r => by
  rw [List.map_cons] at r
  cases r with
  | cons h t => exact .cons (zdV h) (zdr t)
/-- raw entries of a dict with tuple keys -/
abbrev KT (H : Hp) : List (List Key × V) → List (List Key × Addr × Value) → Prop := Paired fun p q => p.1 = q.1 ∧ H q.2.1 = some (.tup (p.1.map kV)) ∧ RelV p.2 q.2.2
theorem KT.val {H : Hp} {kvs : List (List Key × V)} {xs : List (List Key × Addr × Value)} (r : KT H kvs xs) (k : List Key) : RelO (valV kvs k) ((atKey xs k).map (·.2)) := by
 induction r with
 | nil => exact True.intro
 | @cons p q ps qs h t ih =>
  obtain ⟨h1, _, h2⟩ := h
  by_cases e : p.1 = k
  ·have e' : q.1 = k := h1.symm.trans e
   have b : atKey (q :: qs) k = some q.2 := by simp [atKey, List.find?_cons, e']
   rw [zb6 e, b]; exact h2
  ·have e' : ¬ q.1 = k := fun z => e (h1.trans z)
   have b : atKey (q :: qs) k = atKey qs k := by simp [atKey, List.find?_cons, e']
   rw [zb7 e, b]; exact ih
theorem KT.repl {H : Hp} {kvs : List (List Key × V)} {xs : List (List Key × Addr × Value)} (r : KT H kvs xs) (k : List Key) {y : V} {u : Value} (ry : RelV y u) :
  KT H (kvs.map fun kv => if kv.1 = k then (kv.1, y) else kv) (xs.map (putAt k u)) := by
 induction r with
 | nil => exact .nil
 | @cons p q ps qs h t ih =>
  rw [List.map_cons, List.map_cons]
  refine .cons ?_ ih
  obtain ⟨h1, h2, h3⟩ := h
  unfold putAt
  by_cases e : p.1 = k
  ·rw [if_pos e, if_pos (h1.symm.trans e)]; exact ⟨h1, h2, ry⟩
  ·rw [if_neg e, if_neg (fun z => e (h1.trans z))]; exact ⟨h1, h2, h3⟩
theorem KT.put {H : Hp} {kvs : List (List Key × V)} {xs : List (List Key × Addr × Value)} (r : KT H kvs xs) (k : List Key) {b : Addr} {y : V} {u : Value} (hb : H b = some (.tup (k.map kV))) (ry : RelV y u) :
  KT H (putK kvs k y) (storedH xs k b u) := by
 have e : (kvs.any fun kv => decide (kv.1 = k)) = (atKey xs k).isSome := by
  rw [zbo, (r.val k).isSome_eq, Option.isSome_map]
 unfold putK storedH
 rw [e]
 by_cases q : (atKey xs k).isSome = true
 ·rw [if_pos q, if_pos q]; exact r.repl k ry
 ·rw [if_neg q, if_neg q]; exact Paired.snoc r ⟨rfl, hb, ry⟩
theorem KT.keeps {H H' : Hp} {kvs : List (List Key × V)} {xs : List (List Key × Addr × Value)} (r : KT H kvs xs) (ht : ∀ b ys, H b = some (.tup ys) → H' b = some (.tup ys)) : KT H' kvs xs :=
 Paired.mapP r fun _ _ z => ⟨z.1, ht _ _ z.2.1, z.2.2⟩
section
variable {P : Program} {w : World} {H : Hp} {h : Heap} {a : Addr}
theorem ziM {u : HO} (ok : HOk P w H h) (e : Rd H a u) : zaT P w H h a u := e.ok ok
theorem zdX {kvs : List (Key × V)} (ok : HOk P w H h) (e : Rd H a (.dK kvs)) : kvs.length ≤ sizeLine ∧ (a == sysModules) = false ∧ ∃ vs, KV kvs vs ∧ h.DictOf (zai P w) a vs :=
 show zaT P w H h a (.dK kvs) from ziM ok e
theorem zgC {kvs : List (Key × V)} (ok : HOk P w H h) (e : H a = some (.dK kvs)) : kvs.length ≤ sizeLine ∧ (a == sysModules) = false ∧ ∃ vs, KV kvs vs ∧ h.DictOf (zai P w) a vs := zdX ok (.inl e)
/-- a tracked tuple of ints and texts is a key -/
theorem zbU {ks : List Key} (ok : HOk P w H h) (e : H a = some (.tup (ks.map kV))) : (tupleKind (zai P w)).is h ks a := by
 obtain ⟨_, its, r, o, h1, h2, n, h3⟩ := (show zaT P w H h a (.tup (ks.map kV)) from ok a _ e)
 exact ⟨o, its.toArray, n, h1, h2, h3, by simpa using zdr r⟩
theorem zd5 {kvs : List (List Key × V)} (ok : HOk P w H h) (e : Rd H a (.dT kvs)) : kvs.length ≤ sizeLine ∧ (a == sysModules) = false ∧
  ∃ xs, KT H kvs xs ∧ h.DictOfH (tupleKind (zai P w)) a xs := by
 obtain ⟨z, y, xs, r, o, es, ep, h1, h2, h3, h4, h5⟩ := (show zaT P w H h a (.dT kvs) from ziM ok e)
 refine ⟨z, y, xs, r, o, es, ep, h1, h2, h3, h4, fun x hx => ?_, h5⟩
 have all : ∀ {l : List (List Key × V)} {m : List (List Key × Addr × Value)}, KT H l m → ∀ x ∈ m, (tupleKind (zai P w)).is h x.1 x.2.1 := by
  intro l m q
  induction q with
  | nil => intro x hx; exact nomatch hx
  | @cons p q ps qs hq t ih =>
   intro x hx
   rcases List.mem_cons.mp hx with e | hx
   ·subst e
    exact zbU ok (by rw [← hq.1]; exact hq.2.1)
   ·exact ih x hx
 exact all r x hx
theorem ziw {kvs : List (List Key × V)} (ok : HOk P w H h) (e : H a = some (.dT kvs)) : kvs.length ≤ sizeLine ∧ (a == sysModules) = false ∧
  ∃ xs, KT H kvs xs ∧ h.DictOfH (tupleKind (zai P w)) a xs := zd5 ok (.inl e)
end
/-- what the dict at a holds at the key y -/
def DGet (H : Hp) (a : Addr) (y : V) (r : Option V) : Prop :=
 (∃ kvs k, Rd H a (.dK kvs) ∧ y = kV k ∧ r = valV kvs k) ∨ ∃ kvs k b, Rd H a (.dT kvs) ∧ y = .ref b ∧ H b = some (.tup (k.map kV)) ∧ r = valV kvs k
/-- the heap behind a[y] = v -/
def DPut (H : Hp) (a : Addr) (y v : V) (H' : Hp) : Prop :=
 (∃ kvs k, H a = some (.dK kvs) ∧ y = kV k ∧ kvs.length < sizeLine ∧ H' = upd H a (.dK (putK kvs k v))) ∨
 ∃ kvs k b, H a = some (.dT kvs) ∧ y = .ref b ∧ H b = some (.tup (k.map kV)) ∧ kvs.length < sizeLine ∧ H' = upd H a (.dT (putK kvs k v))
theorem DGet.k {H : Hp} {a : Addr} {kvs : List (Key × V)} {k : Key} (e : H a = some (.dK kvs)) : DGet H a (kV k) (valV kvs k) := .inl ⟨kvs, k, .inl e, rfl, rfl⟩
theorem DGet.t {H : Hp} {a b : Addr} {kvs : List (List Key × V)} {k : List Key} (e : H a = some (.dT kvs)) (eb : H b = some (.tup (k.map kV))) : DGet H a (.ref b) (valV kvs k) := .inr ⟨kvs, k, b, .inl e, rfl, eb, rfl⟩
theorem DPut.t {H : Hp} {a b : Addr} {kvs : List (List Key × V)} {k : List Key} {v : V} (e : H a = some (.dT kvs)) (eb : H b = some (.tup (k.map kV))) (hl : kvs.length < sizeLine) :
  DPut H a (.ref b) v (upd H a (.dT (putK kvs k v))) := .inr ⟨kvs, k, b, e, rfl, eb, hl, rfl⟩
section
variable {X : Cx} {pins : List (Addr × Obj)} {σ : St} {H : Hp} {s : Shared} {a : Addr} {y v : V} {u r : Value} {o : Option V} {A : Around} {E : Value → Shared → Prop}
theorem Inv.big (I : Inv X pins σ H s) : sysModules < s.heap.objs.size := by
 have h : mainGlobals < s.heap.objs.size := (I.mod.glob.keeps I.bk).lt
 exact Nat.lt_trans (by decide) h
/-- d[y], there -/
theorem zdo {Q : Value → Shared → Prop} (hu : A.units + 1 < cLine) (I : Inv X pins σ H s) (g : DGet H a y (some v)) (ry : RelV y u) (h : ∀ w' s', Inv X pins σ H s' → RelV v w' → Q w' s') :
  wpAny (model X.prog X.w) A (getItem (.ref a) u) Q E s := by
 rcases g with ⟨kvs, k, e, ey, l⟩ | ⟨kvs, k, b, e, ey, eb, l⟩
 ·subst ey
  obtain ⟨z, hd, vs, rel, dd⟩ := zdX I.hok e
  obtain ⟨w', hw, rw'⟩ := RelO.some_of (v := v) (o := valueAt vs k) (by rw [l]; exact rel.val k)
  exact wpAny_getItem_of (zdV ry) dd.mapOf hw (h w' _ (I.tok _) rw')
 ·subst ey
  cases (show u = Value.ref b from ry)
  obtain ⟨z, hd, xs, rel, dd⟩ := zd5 I.hok e
  obtain ⟨w', hw, rw'⟩ := RelO.some_of (v := v) (o := (atKey xs k).map (·.2)) (by rw [l]; exact rel.val k)
  obtain ⟨p, hp, hp2⟩ := Option.map_eq_some_iff.mp hw
  refine wpAny_getItem_heap (tupleKind_room_in1 hu) (zbU I.hok eb) dd hp ?_
  rw [hp2]
  exact h w' _ (I.tok _) rw'
/-- y in d -/
theorem d_in {Q : Value → Shared → Prop} (hu : A.units + 1 < cLine) (I : Inv X pins σ H s) (g : DGet H a y o) (ry : RelV y u) (h : ∀ s', Inv X pins σ H s' → Q (.bool o.isSome) s') :
  wpAny (model X.prog X.w) A (compareOp .In u (.ref a)) Q E s := by
 rcases g with ⟨kvs, k, e, ey, l⟩ | ⟨kvs, k, b, e, ey, eb, l⟩
 ·subst ey
  obtain ⟨z, hd, vs, rel, dd⟩ := zdX I.hok e
  refine wpAny_in_of (zdV ry) hd dd.mapOf ?_
  rw [← (rel.val k).isSome_eq, ← l]
  exact h _ (I.tok _)
 ·subst ey
  cases (show u = Value.ref b from ry)
  obtain ⟨z, hd, xs, rel, dd⟩ := zd5 I.hok e
  refine wpAny_in_heap (tupleKind_room_in1 hu) (zbU I.hok eb) hd dd ?_
  have q := (rel.val k).isSome_eq
  rw [Option.isSome_map] at q
  rw [← q, ← l]
  exact h _ (I.tok _)
theorem zhA {Q : Value → Shared → Prop} (hu : A.units + 1 < cLine) (I : Inv X pins σ H s) (g : DGet H a y o) (ry : RelV y u) (h : ∀ s', Inv X pins σ H s' → Q (.bool (!o.isSome)) s') :
  wpAny (model X.prog X.w) A (compareOp .NotIn u (.ref a)) Q E s := by
 rcases g with ⟨kvs, k, e, ey, l⟩ | ⟨kvs, k, b, e, ey, eb, l⟩
 ·subst ey
  obtain ⟨z, hd, vs, rel, dd⟩ := zdX I.hok e
  refine wpAny_notIn_of (zdV ry) hd dd.mapOf ?_
  rw [← (rel.val k).isSome_eq, ← l]
  exact h _ (I.tok _)
 ·subst ey
  cases (show u = Value.ref b from ry)
  obtain ⟨z, hd, xs, rel, dd⟩ := zd5 I.hok e
  refine wpAny_notIn_heap (tupleKind_room_in1 hu) (zbU I.hok eb) hd dd ?_
  have q := (rel.val k).isSome_eq
  rw [Option.isSome_map] at q
  rw [← q, ← l]
  exact h _ (I.tok _)
/-- a dict's object is replaced -/
theorem zcb {h' : Heap} {t' : Nat} {ob : HO} (I : Inv X pins σ H s) (mu : Mut (H a)) (hs : Heap.SameBut a s.heap h') (he : ∃ q, h'.get? a = some q) (new : zaT X.prog X.w (upd H a ob) h' a ob) :
  Inv X pins σ (upd H a ob) { s with heap := h', toks := t' } :=
 I.write (x := a) (e := a) mu (.inl rfl) (fun b q hb z => (hs.2 b hb).trans z) he new
theorem zfk {P : Program} {w : World} {H' : Hp} {h' : Heap} {kvs : List (Key × V)} {vs : List (Key × Value)} (z : kvs.length ≤ sizeLine) (hd : (a == sysModules) = false) (rel : KV kvs vs) (dd : h'.DictOf (zai P w) a vs) :
  zaT P w H' h' a (.dK kvs) := ⟨z, hd, vs, rel, dd⟩
/-- d[y] = v -/
theorem zf3 {H' : Hp} {Q : Unit → Shared → Prop} (hu : A.units + 1 < cLine) (I : Inv X pins σ H s) (g : DPut H a y v H') (ry : RelV y u) (rv : RelV v r) (h : ∀ s', Inv X pins σ H' s' → Q () s') :
  wpAny (model X.prog X.w) A (setItem (.ref a) u r) Q E s := by
 rcases g with ⟨kvs, k, e, ey, l, eH⟩ | ⟨kvs, k, b, e, ey, eb, l, eH⟩
 ·subst ey eH
  obtain ⟨z, hd, vs, rel, dd⟩ := zgC I.hok e
  have hz : vs.length ≤ sizeLine := by rw [← rel.length]; exact z
  have hl : (putK kvs k v).length ≤ sizeLine := by have := zbC kvs k v; omega
  refine wpAny_setItem_pairs (hsz := hz) (zdV ry) dd fun h' dd' hs => h _ ?_
  have he : ∃ q, h'.get? a = some q := let ⟨q, _, _, hq, _⟩ := dd'; ⟨q, hq⟩
  exact zcb I (by rw [e]; exact True.intro) hs he (zfk hl hd (rel.put k rv) dd')
 ·subst ey eH
  cases (show u = Value.ref b from ry)
  obtain ⟨z, hd, xs, rel, dd⟩ := ziw I.hok e
  have hz : xs.length ≤ sizeLine := by rw [← Paired.length rel]; exact z
  have hl : (putK kvs k v).length ≤ sizeLine := by have := zbC kvs k v; omega
  refine wpAny_setItem_heap (hsz := hz) (tupleKind_room_in1 hu) (zbU I.hok eb) dd fun h' dd' hs => h _ ?_
  obtain ⟨q, es, ep, hq, h2, h3, h4, _, h5⟩ := dd'
  refine zcb I (by rw [e]; exact True.intro) hs ⟨q, hq⟩ ⟨hl, hd, _, (rel.put k eb rv).keeps fun c ys ec => ?_, q, es, ep, hq, h2, h3, h4, h5⟩
  rw [zaj (ziq ec e (fun z => nomatch z))]
  exact ec
end
section
variable {X : Cx} {pins : List (Addr × Obj)} {σ : St} {H : Hp} {s : Shared} {a : Addr} {kvs : List (Key × V)} {k : Key} {u : Value} {A : Around} {E : Value → Shared → Prop}
end
/-- the element of a subscription, not a slice -/
def NoSl (i : Expr) : Prop := ∀ ov iv, subscripted i false ov iv = operate [ov, iv] (getItem ov iv)
theorem zdT {prog : Program} {w : World} {A : Around} {E : Value → Shared → Prop} {s : Shared} {env : Env} {value slice : Expr} {pos : Pos} {T id : String} {Q : Value → Shared → Prop}
  (hl : typeLookup (.type T) "__getitem__" = pure (some (.builtin id))) (hs : NoSl slice)
  (h : wpAny (model prog w) A (eval value env) (fun o s₁ => wpAny (model prog w) A (eval slice env) (fun i s₂ => s₂.TypeIs o T ∧ wpAny (model prog w) A (getItem o i) Q E s₂) E s₁) E s) :
  wpAny (model prog w) A (eval (.Subscript value slice pos) env) Q E s := by
 refine Subscript_ (wpAny_mono h (fun o s₁ h₁ => wpAny_mono h₁ (fun i s₂ h₂ => ?_) fun _ _ x => x) fun _ _ x => x)
 obtain ⟨hT, h₂⟩ := h₂
 unfold subscriptTail
 refine wpAny_bind ?_
 rw [getitemInPython_of_ne hT.not_modules]
 refine wpAny_bind (wpAny_specialOf hT hl ?_)
 have fin : wpAny (model prog w) A (subscripted slice false o i) (fun r s₃ => wpAny (model prog w) A (letTemporaryGo value o r >>= fun _ => pure r) Q E s₃) E s₂ := by
  rw [hs o i]
  exact wpAny_operating (wpAny_mono h₂ (fun r s₃ h₃ => wpAny_bind (wpAny_letTemporaryGo (wpAny_pure h₃))) fun _ _ x => x)
 first
  | exact wpAny_pure (wpAny_bind fin)
  | exact wpAny_bind (wpAny_pure (wpAny_bind fin))
  | exact wpAny_bind fin
theorem zci {X : Cx} {pins : List (Addr × Obj)} {σ : St} {H : Hp} {s : Shared} {a : Addr} {y : V} {o : Option V} (I : Inv X pins σ H s) (g : DGet H a y o) : s.TypeIs (.ref a) "dict" := by
 rcases g with ⟨kvs, k, e, _, _⟩ | ⟨kvs, k, b, e, _, _, _⟩
 ·obtain ⟨_, _, vs, _, dd⟩ := zdX I.hok e
  exact dd.typeIs
 ·obtain ⟨_, _, xs, _, dd⟩ := zd5 I.hok e
  exact dd.typeIs
/-- d[y] -/
def zhE (td ty : TE) : TE := fun σ H Q => td σ H fun x H1 => ty σ H1 fun y H2 => ∃ a v, x = .ref a ∧ DGet H2 a y (some v) ∧ Q v H2
/-- y in d, y not in d -/
def tDIn (ty td : TE) : TE := fun σ H Q => ty σ H fun y H1 => td σ H1 fun x H2 => ∃ a o, x = .ref a ∧ DGet H2 a y o ∧ Q (.bl o.isSome) H2
def zdb (ty td : TE) : TE := fun σ H Q => ty σ H fun y H1 => td σ H1 fun x H2 => ∃ a o, x = .ref a ∧ DGet H2 a y o ∧ Q (.bl (!o.isSome)) H2
/-- d[y] = v -/
def zgw (td ty tv : TE) : TS := fun D σ H => tv σ H fun v H1 => td σ H1 fun x H2 => ty σ H2 fun y H3 => ∃ a H4, x = .ref a ∧ DPut H3 a y v H4 ∧ D.nx σ H4
section
variable {X : Cx} {o i e value : Expr} {pos pos' tpos : Pos} {td ty tv : TE}
theorem zfG (hu : X.A.units + 1 < cLine) (ho : PE X o td) (hi : PE X i ty) (hs : NoSl i) : PE X (.Subscript o i pos) (zhE td ty) := by
 intro pins s σ H Q I h
 refine zdT PySem.F.slot_dict_getitem.lookup hs (thn (ho pins s σ H _ I h) fun u s1 ⟨x, H1, I1, rx, q1⟩ => thn (hi pins s1 σ H1 _ I1 q1) fun iv s2 ⟨y, H2, I2, ry, a, v, ex, g, q2⟩ => ?_)
 subst ex
 obtain rfl : u = Value.ref a := rx
 exact ⟨zci I2 g, zdo hu I2 g ry fun w' s3 I3 rw' => ⟨v, H2, I3, rw', q2⟩⟩
theorem zh8 (hu : X.A.units + 1 < cLine) (hi : PE X i ty) (ho : PE X o td) : PC X .In i o (tDIn ty td) := by
 intro pins s σ H Q I h
 refine thn (hi pins s σ H _ I h) fun iv s1 ⟨y, H1, I1, ry, q1⟩ => thn (ho pins s1 σ H1 _ I1 q1) fun u s2 ⟨x, H2, I2, rx, a, ov, ex, g, q2⟩ => ?_
 subst ex
 obtain rfl : u = Value.ref a := rx
 exact d_in hu I2 g ry fun s3 I3 => ⟨.bl ov.isSome, H2, I3, rfl, q2⟩
theorem zcr (hu : X.A.units + 1 < cLine) (hi : PE X i ty) (ho : PE X o td) : PC X .NotIn i o (zdb ty td) := by
 intro pins s σ H Q I h
 refine thn (hi pins s σ H _ I h) fun iv s1 ⟨y, H1, I1, ry, q1⟩ => thn (ho pins s1 σ H1 _ I1 q1) fun u s2 ⟨x, H2, I2, rx, a, ov, ex, g, q2⟩ => ?_
 subst ex
 obtain rfl : u = Value.ref a := rx
 exact zhA hu I2 g ry fun s3 I3 => ⟨.bl (!ov.isSome), H2, I3, rfl, q2⟩
theorem zec (hu : X.A.units + 1 < cLine) (ho : PE X o td) (hi : PE X i ty) (hv : PE X value tv) (hs : swapsWith value (some (.Subscript o i pos')) pos.line X.env = pure false) :
  PS X (.Assign [.Subscript o i pos'] value pos) (zgw td ty tv) := by
 intro pins s σ H D I h
 refine wpAny_Assign_Subscript (thn (hv pins s σ H _ I h) fun r s1 ⟨v, H1, I1, rv, q1⟩ => thn (ho pins s1 σ H1 _ I1 q1) fun u s2 ⟨x, H2, I2, rx, q2⟩ => thn (hi pins s2 σ H2 _ I2 q2) fun iv s3 ⟨y, H3, I3, ry, a, H4, ex, g, q3⟩ => ?_) hs
 subst ex
 obtain rfl : u = Value.ref a := rx
 exact zf3 hu I3 g ry rv fun s4 I4 => ⟨σ, H4, I4, q3⟩
end
theorem zgz {P : Program} {w : World} {H : Hp} (h : Heap) (hb : sysModules < h.objs.size) : zaT P w H (h.push { cls := .type "dict", data := .dict #[] }) h.objs.size (.dK []) :=
 ⟨Nat.zero_le _, beq_eq_false_iff_ne.mpr (Ne.symm (Nat.ne_of_lt hb)), [], .nil, Heap.DictOf.new h⟩
theorem zeh {P : Program} {w : World} {H : Hp} (h : Heap) (hb : sysModules < h.objs.size) : zaT P w H (h.push { cls := .type "dict", data := .dict #[] }) h.objs.size (.dT []) :=
 ⟨Nat.zero_le _, beq_eq_false_iff_ne.mpr (Ne.symm (Nat.ne_of_lt hb)), [], .nil, _, #[], 0, Heap.get?_push_size _ rfl, ⟨rfl, rfl, rfl⟩, rfl, rfl, List.nodup_nil⟩
/-- {}, to be a dict of the kind that is wanted -/
def tDNewK : TE := fun _ H Q => ∀ p, H p = none → Q (.ref p) (upd H p (.dK []))
def tDNewT : TE := fun _ H Q => ∀ p, H p = none → Q (.ref p) (upd H p (.dT []))
section
variable {X : Cx} {pos : Pos}
theorem pe_dnewT : PE X (.Dict [] [] pos) tDNewT := fun pins s σ H Q I h =>
 wpAny_Dict_empty ⟨.ref s.heap.objs.size, _, I.laid (a := s.heap.objs.size) (o := .dT []) (t' := s.toks) (fun _ _ q => Heap.get?_push_of_some _ q) (Nat.le_refl _) (zeh s.heap I.big), rfl, h _ (I.hok.fresh (Nat.le_refl _))⟩
end
/-- the pairs of a display, from the left -/
def tPairs : List (TE × TE) → St → Hp → (List (V × V) → Hp → Prop) → Prop
 | [], _, H, Q => Q [] H
 | (tk, tv) :: r, σ, H, Q => tk σ H fun x H1 => tv σ H1 fun y H2 => tPairs r σ H2 fun ps H3 => Q ((x, y) :: ps) H3
abbrev VV : List (V × V) → List (Value × Value) → Prop := Paired fun p q => RelV p.1 q.1 ∧ RelV p.2 q.2
def PPs (X : Cx) (pos : Pos) (keys : List (Option Expr)) (values : List Expr) (trs : List (TE × TE)) : Prop :=
 ∀ (pins : List (Addr × Obj)) (s : Shared) (σ : St) (H : Hp) (Q : List (V × V) → Hp → Prop), Inv X pins σ H s → tPairs trs σ H Q →
  wpAny (model X.prog X.w) X.A (evalPairs (pairTrees keys values X.env pos)) (fun vs s' => ∃ ps H', Inv X pins σ H' s' ∧ VV ps vs ∧ Q ps H') X.xe s
theorem zbf {X : Cx} {pos : Pos} : PPs X pos [] [] [] := fun pins s σ H Q I h => pairTrees_nil_walk ⟨[], H, I, .nil, h⟩
theorem zau {X : Cx} {pos : Pos} {k v : Expr} {ks : List (Option Expr)} {vs : List Expr} {tk tv : TE} {trs : List (TE × TE)} (hk : PE X k tk) (hv : PE X v tv) (hr : PPs X pos ks vs trs) :
  PPs X pos (some k :: ks) (v :: vs) ((tk, tv) :: trs) := fun pins s σ H Q I h =>
 pairTrees_cons_walk (thn (hk pins s σ H _ I h) fun u s1 ⟨x, H1, I1, rx, q1⟩ => thn (hv pins s1 σ H1 _ I1 q1) fun w2 s2 ⟨y, H2, I2, ry, q2⟩ =>
  thn (hr pins s2 σ H2 _ I2 q2) fun ws s3 ⟨ps, H3, I3, rel, q3⟩ => ⟨(x, y) :: ps, H3, I3, .cons ⟨rx, ry⟩ rel, q3⟩)
def zbc (kvs more : List (Key × V)) : List (Key × V) := more.foldl (fun acc kv => putK acc kv.1 kv.2) kvs
theorem KV.merge : ∀ {more : List (Key × V)} {rs : List (Key × Value)} {kvs : List (Key × V)} {vs : List (Key × Value)}, KV more rs → KV kvs vs → KV (zbc kvs more) (merged vs rs) := by
 intro more rs kvs vs r
 unfold KV at r
 induction r generalizing kvs vs with
 | nil => intro q; exact q
 | @cons p q ps qs h t ih =>
  intro r0
  have e : KV (putK kvs p.1 p.2) (stored vs q.1 q.2) := by
   have := r0.put p.1 h.2
   rw [← h.1]; exact this
  exact ih e
theorem length_mergeK : ∀ (more kvs : List (Key × V)), (zbc kvs more).length ≤ kvs.length + more.length
 | [], kvs => by show kvs.length ≤ kvs.length + 0; omega
 | p :: r, kvs => by
  have h1 := length_mergeK r (putK kvs p.1 p.2)
  have h2 := zbC kvs p.1 p.2
  show (zbc (putK kvs p.1 p.2) r).length ≤ _
  rw [List.length_cons]; omega
theorem zcF {P : Program} {w : World} : ∀ {kvs : List (Key × V)} {ws : List (Value × Value)}, VV (kvs.map fun kv => (kV kv.1, kv.2)) ws → ∃ rs, Carries (zai P w) ws rs ∧ KV kvs rs
 | [], _, r => by rw [List.map_nil] at r; cases r; exact ⟨[], True.intro, .nil⟩
 | p :: kvs, _, r => by
  rw [List.map_cons] at r
  cases r with
  | @cons a b as bs h t =>
   obtain ⟨rs, c, q⟩ := zcF (P := P) (w := w) t
   obtain ⟨b1, b2⟩ := b
   exact ⟨(p.1, b2) :: rs, ⟨zdV h.1, rfl, c⟩, .cons ⟨rfl, h.2⟩ q⟩
/-- {k: v, ..} with keys ints and texts; the new dict stands empty while the pairs are made -/
def zdk (trs : List (TE × TE)) : TE := fun σ H Q => ∀ p, H p = none → tPairs trs σ (upd H p (.dK [])) fun ps H2 => H2 p = some (.dK []) ∧ ∃ kvs : List (Key × V), ps = kvs.map (fun kv => (kV kv.1, kv.2)) ∧ kvs.length ≤ 15 ∧ Q (.ref p) (upd H2 p (.dK (zbc [] kvs)))
theorem zbQ {X : Cx} {pos : Pos} {keys : List (Option Expr)} {values : List Expr} {trs : List (TE × TE)} (h : PPs X pos keys values trs) (hall : keys.all (·.isSome) = true) (hl : keys.length = values.length) (h0 : keys ≠ [])
  (h15 : keys.length ≤ 15) : PE X (.Dict keys values pos) (zdk trs) := by
 intro pins s σ H Q I q
 have hn := I.hok.fresh (Nat.le_refl s.heap.objs.size)
 have I1 := I.laid (a := s.heap.objs.size) (o := .dK []) (h' := s.heap.push { cls := .type "dict", data := .dict #[] }) (t' := s.toks) (fun _ _ q => Heap.get?_push_of_some _ q) (Nat.le_refl _) (zgz s.heap I.big)
 refine wpAny_Dict_walk (knd := zai X.prog X.w) hall hl h0 h15 (thn (h pins _ σ _ _ I1 (q _ hn)) fun ws s2 ⟨ps, H2, I2, rel, e, kvs, ep, lk, q2⟩ => ?_)
 subst ep
 obtain ⟨rs, c, rk⟩ := zcF (P := X.prog) (w := X.w) rel
 obtain ⟨z, hd, vs0, r0, dd⟩ := zgC I2.hok e
 cases r0
 refine ⟨rs, c, dd, fun h' dd' hs => ⟨.ref s.heap.objs.size, _, ?_, rfl, q2⟩⟩
 have hz : (zbc [] kvs).length ≤ sizeLine := by
  have h1 := length_mergeK kvs []
  rw [List.length_nil] at h1
  rw [sizeLine_eq]; omega
 have he : ∃ q, h'.get? s.heap.objs.size = some q := let ⟨q, _, _, hq, _⟩ := dd'; ⟨q, hq⟩
 exact zcb I2 (by rw [e]; exact True.intro) hs he (zfk hz hd (rk.merge .nil) dd')
structure M2 (X : Cx) (o : Expr) (m : Str) (apos : Pos) (e f : Expr) (cpos : Pos) : Prop where
 base : attributeBase o m X.env (eval o X.env) = eval o X.env
 few : ((backTo cpos (starEach [e, f] X.env)).all (fun x => !x.1) && (backToKw cpos (keywordEach [] X.env)).all (fun x => x.1.isSome)
  && decide (([e, f] : List Expr).length + ([] : List Keyword).length + (if ([] : List Keyword).isEmpty then 0 else 1) < 30)) = true
 line : (apos.endLine == cpos.line) = true
 trees : backTo cpos (starEach [e, f] X.env) = [(false, eval e X.env), (false, eval f X.env)]
/-- a is a dict, whatever its keys -/
def IsD (H : Hp) (a : Addr) : Prop := (∃ kvs, Rd H a (.dK kvs)) ∨ ∃ kvs, Rd H a (.dT kvs)
theorem zh2 {X : Cx} {pins : List (Addr × Obj)} {σ : St} {H : Hp} {s : Shared} {a : Addr} (I : Inv X pins σ H s) (d : IsD H a) :
  s.TypeIs (.ref a) "dict" ∧ (∀ b, Value.ref a = .ref b → ∃ ob, s.heap.get? b = some ob ∧ ob.dict = none) ∧ (a == sysModules) = false := by
 rcases d with ⟨kvs, e⟩ | ⟨kvs, e⟩
 ·obtain ⟨_, hd, vs, _, dd⟩ := zdX I.hok e
  refine ⟨dd.typeIs, fun b q => ?_, hd⟩
  cases q
  obtain ⟨ob, _, _, h1, h2, _⟩ := dd
  exact ⟨ob, h1, h2.2.1⟩
 ·obtain ⟨_, hd, xs, _, dd⟩ := zd5 I.hok e
  refine ⟨dd.typeIs, fun b q => ?_, hd⟩
  cases q
  obtain ⟨ob, _, _, h1, h2, _⟩ := dd
  exact ⟨ob, h1, h2.2.1⟩
section
variable {X : Cx} {pins : List (Addr × Obj)} {σ : St} {H : Hp} {s : Shared} {a : Addr} {y d : V} {u r : Value} {o : Option V} {A : Around} {E : Value → Shared → Prop}
/-- d.get(y, x) -/
theorem ziN {Q : Value → Shared → Prop} (hu : A.units + 1 < cLine) (I : Inv X pins σ H s) (g : DGet H a y o) (ry : RelV y u) (rd : RelV d r) (h : ∀ w' s', Inv X pins σ H s' → RelV (o.getD d) w' → Q w' s') :
  wpAny (model X.prog X.w) A (call (.builtin "dict.get") [.ref a, u, r]) Q E s := by
 rcases g with ⟨kvs, k, e, ey, l⟩ | ⟨kvs, k, b, e, ey, eb, l⟩
 ·subst ey
  obtain ⟨z, hd, vs, rel, dd⟩ := zdX I.hok e
  refine call_meetsIn PySem.F.slot_dict_get dd.typeIs PySem.F.entry_dict_get (PySem.F.args_dict_get_3 _ _ _) (meets_dict_get_default (zai X.prog X.w) a (zdV ry) hd r) ⟨_, dd.mapOf, h _ _ (I.tok _) ?_⟩
  rw [l]
  exact (rel.val k).getD rd
 ·subst ey
  cases (show u = Value.ref b from ry)
  obtain ⟨z, hd, xs, rel, dd⟩ := zd5 I.hok e
  refine call_meetsIn PySem.F.slot_dict_get dd.typeIs PySem.F.entry_dict_get (PySem.F.args_dict_get_3 _ _ _) (meetsH_dict_get_default (tupleKind (zai X.prog X.w)) a b hd r) ⟨tupleKind_room_in1 hu, k, xs, zbU I.hok eb, dd, h _ _ (I.tok _) ?_⟩
  rw [l]
  exact (rel.val k).getD rd
end
def zhd (td ty tx : TE) : TE := fun σ H Q => td σ H fun x H1 => ∃ a, x = .ref a ∧ IsD H1 a ∧ ty σ H1 fun y H2 => tx σ H2 fun z H3 => ∃ o, DGet H3 a y o ∧ Q (o.getD z) H3
section
variable {X : Cx} {o e f : Expr} {apos cpos : Pos} {td ty tx : TE}
theorem zf5 (hu : X.A.units + 1 < cLine) (ho : PE X o td) (he : PE X e ty) (hf : PE X f tx) (m : M2 X o "get" apos e f cpos) : PE X (.Call (.Attribute o "get" apos) [e, f] [] cpos) (zhd td ty tx) := by
 intro pins s σ H Q I h
 refine wpAny_Call_method m.base m.few m.line PySem.F.plainAttrs_dict PySem.F.slot_dict_get PySem.F.type_dict_get (thn (ho pins s σ H _ I h) fun u s1 ⟨x, H1, I1, rx, a, ex, d, q1⟩ => ?_)
 subst ex
 obtain rfl : u = Value.ref a := rx
 obtain ⟨t1, t2, _⟩ := zh2 I1 d
 refine ⟨t1, t2, ?_⟩
 rw [m.trees]
 refine Calls.callWith_builtin rfl (Calls.evalArgs_plain (Calls.spliced_cons (thn (he pins s1 σ H1 _ I1 q1) fun iv s2 ⟨y, H2, I2, ry, q2⟩ =>
  Calls.spliced_cons (thn (hf pins s2 σ H2 _ I2 q2) fun fv s3 ⟨z, H3, I3, rz, ov, g, q3⟩ => Calls.spliced_nil ?_))))
 exact ziN hu I3 g ry rz fun w' s4 I4 rw' => ⟨_, H3, I4, rw', q3⟩
end
section
variable {X : Cx} {pins : List (Addr × Obj)} {σ : St} {H : Hp} {s : Shared} {a : Addr} {kvs : List (Key × V)} {A : Around} {E : Value → Shared → Prop}
end
section
variable {X : Cx} {pins : List (Addr × Obj)} {σ : St} {H : Hp} {s : Shared} {a : Addr} {y : V} {u : Value} {A : Around} {E : Value → Shared → Prop}
end
end L2
namespace Att
open PySem PySem.W PySem.Calls PyProof.Rows
theorem zcq {P : Params} {h : Heap} : ∀ (ns : List Int) (vs : List Value), WellAll P h vs (ns.map WData.int) → IntsAre vs ns := by
 intro ns
 induction ns with
 | nil =>
  intro vs w
  rw [List.map_nil] at w
  cases w
  exact .nil
 | cons n ns ih =>
  intro vs w
  rw [List.map_cons] at w
  cases w with
  | cons a b =>
   cases a
   exact .cons _ _ (ih _ b)
theorem zfr {l : OpenLaw} {n : Nat} (hn : l.most = some n) {P : Params} {h : Heap} {args : List WData} {vals : List Value}
  (hpre : l.row.toRowW.claim.pre args = true) (hwl : WellAll P h vals args) :
  ∃ a vs ns, vals = [Value.ref a] ∧ args = [WData.list (ns.map WData.int)] ∧ h.get? a = some { cls := .type "list", data := .seq vs.toArray } ∧ IntsAre vs ns ∧ ns.length ≤ n := by
 have hsh : WShape.hasAll [] args [.list .int] = true := (pre_splitW hpre).1
 have hc : l.pre.holds [] { args := args } = true := (pre_splitW hpre).2
 obtain ⟨d, r, rfl, h1, h2⟩ := hasAllW_cons hsh
 obtain rfl := hasAllW_nil h2
 obtain ⟨xs, rfl, h3⟩ := hasW_list h1
 obtain ⟨ns, rfl⟩ := items_int h3
 have hlen : ns.length ≤ n := by
  unfold OpenLaw.pre at hc
  have h4 : (WTm.not (.lt (.lit (.int (n : Int))) (.len (.arg 0)))).holds [] { args := [.list (ns.map .int)] } = true := by
   have h4 := (holds_andW hc).1
   rw [hn] at h4
   exact h4
  have h5 := condW_of h4 (w_not (w_lt w_lit (w_len_list (w_arg rfl))))
  rw [List.length_map] at h5
  refine Nat.le_of_not_lt fun q => ?_
  have q' : (n : Int) < ((ns.length : Nat) : Int) := by omega
  first
   | (rw [decide_eq_true q'] at h5; exact absurd h5 (by decide))
   | (simp at h5; omega)
 cases hwl with
 | cons w1 w2 =>
  cases w2
  cases w1 with
  | list ho hall => exact ⟨_, _, ns, rfl, rfl, ho, zcq ns _ hall, hlen⟩
theorem zfQ (l : OpenLaw) (args : List WData) : l.row.toRowW.claim.post args (.bool true) args = true :=
 postW_of (r := l.row.toRowW) (X := (true == true))
  (show WShape.has [] (.bool true) .bool = true by first | rfl | decide | simp [WShape.has, WShape.arms, WShape.armsAll])
  (show (WTm.eq .res (.lit (.bool true))).value [] { args := args, res := some (.bool true), after := args } = some (.bool (true == true)) from w_eq_bool (w_res rfl) w_lit) rfl
/-- the same from a codeAny of the CALL (for a layer whose function contracts speak of calls) -/
theorem attach_call {l : OpenLaw} {n : Nat} {q : Program} {loose : List Str} {XP : (Str → Option Value) → Heap → Prop} {YP : World → Heap → Prop} {d : DefRec}
  (hn : l.most = some n) (hdf : d.params.defaults = [])
  (call : ∀ (w : World) (s₀ s₁ : Shared) (mg mb : Str → Option Value) (fa : Addr) (o : Obj) (pm cd doc : Value) (a : Addr) (vs : List Value) (ns : List Int),
   Ground q loose [] XP w s₀ mg mb s₁.heap → YP w s₁.heap →
   s₁.heap.get? fa = some o → o.data = .func (docDef d.name d.params d.body d.scope pm cd doc) → s₁.heap.CodeRec cd d.name → mg d.name = some (.ref fa) →
   s₁.heap.get? a = some { cls := .type "list", data := .seq vs.toArray } → IntsAre vs ns → ns.length ≤ n → s₁.gens = #[] →
   codeAny (model l.prog w) callerA (.call (.ref fa) ⟨[.ref a], []⟩) (fun r s' => r = .ok (.ret (.bool true)) ∧ OldK s₁.heap s'.heap ∧ s'.os = s₁.os ∧ AllBare s'.gens) s₁) :
  WalkO q loose XP YP l.row.toRowW d [] (fun f vs => PySem.call f vs) := by
 intro w s₀ s₁ mg mb G Y fa o pm cd doc dV kV ho hd hcd hD hmg hg args vals as hpre hlay hrd hwl hlo
 obtain rfl : dV = .none := Dflts.none hD hdf
 obtain rfl : kV = .none := Dflts.noKw hD
 obtain ⟨a, vs, ns, rfl, rfl, hobj, hints, hlen⟩ := zfr hn hpre hwl
 refine enter_call (codeAny_mono (call w s₀ s₁ mg mb fa o pm cd doc a vs ns G Y ho (fd_plain hd) hcd hmg hobj hints hlen hg) fun r s' hq => ?_)
 obtain ⟨rfl, h2, h3, h4⟩ := hq
 exact ⟨.inl ⟨.bool true, .bool true, [], rfl, fun _ => rfl, .bool true, zfQ l _, fun _ => ⟨List.Pairwise.nil, fun _ hm => (nomatch hm)⟩⟩, h2, h3, h4⟩
section
variable {prog : Program} {w : World} {A : Around} {E : Value → Shared → Prop} {s : Shared} {K : Frag}
end
end Att
namespace L2
open PySem PySem.Spec PyProof.Rows
theorem vals_ints : ∀ {vs : List Value} {ns : List Int}, IntsAre vs ns → Vals (ns.map V.int) vs
 | _, _, .nil => .nil
 | _, _, .cons n t h => .cons ⟨t, rfl⟩ (vals_ints h)
/-- nothing is tracked but the script, known to the object (or it is an object of the module) -/
def Only (H : Hp) : Prop := ∀ b, H b = none ∨ ∃ o xs, H b = some (.frz o (.lst xs))
/-- THE HEAD: the law's promise, at the heap behind the top. F, the promise of the law's def, may use that base is part of the heap (so K.In base, base.Ns mainGlobals mg stand in Mod) -/
theorem zgr {P : Program} {w : World} {K : PySem.W.Frag} {mg mb : Str → Option Value} {CX : CXT} {k : Nat} {fa a : Addr} {fd : FuncData} {x : Str} {sp : Sp} {s₁ : Shared} {vs : List Value} {ns : List Int}
  (KX : K.In s₁.heap) (hns : s₁.heap.Ns mainGlobals mg) (hb : s₁.heap.Ns builtinsNs mb) (hbb : ∀ x : Str, x ≠ "__name__" → mb x = bootBuiltins x) (hlim : s₁.heap.NoLimit) (hg : s₁.gens = #[])
  (ha : s₁.heap.get? a = some { cls := .type "list", data := .seq vs.toArray }) (hi : IntsAre vs ns) (hl : ns.length ≤ sizeLine) (hr : Room k callerA)
  (F : ∀ base : Heap, K.In base → base.Ns mainGlobals mg → FnOk P w K mg base CX k fa fd [x] sp) (hbind : ∀ (s : Shared) (u : Value), BindsTo s fd ⟨[u], []⟩ [(x, u)])
  (hsp : ∀ H : Hp, Only H → SqL K H a (ns.map V.int) → sp [.ref a] H (fun v _ => v = .bl true) fun _ _ _ => False)
  (hCX : ∀ H e s', CX [] H s₁ (fun _ _ _ => False) e s' → False) :
  codeAny (model P w) callerA (.call (.ref fa) ⟨[.ref a], []⟩) (fun r s' => r = .ok (.ret (.bool true)) ∧ OldK s₁.heap s'.heap ∧ s'.os = s₁.os ∧ AllBare s'.gens) s₁ := by
 have rv := vals_ints hi
 have lenV := hi.length
 have core : ∀ H : Hp, Only H → SqL K H a (ns.map V.int) → HOk P w H s₁.heap → (∀ b, H b ≠ none → b = a) → (H a ≠ none → K.lookup a = none) →
   codeAny (model P w) callerA (.call (.ref fa) ⟨[.ref a], []⟩) (fun r s' => r = .ok (.ret (.bool true)) ∧ OldK s₁.heap s'.heap ∧ s'.os = s₁.os ∧ AllBare s'.gens) s₁ := by
  intro H hO hS hok hA hK
  have base_of : ∀ {b : Addr} {o : Obj}, s₁.heap.get? b = some o → H b = none → (hidT s₁.heap H).get? b = some o := fun e n => zf6 e n
  have noA : ∀ {b : Addr} {o : Obj} {es : Array DictEntry} {ep : Nat}, s₁.heap.get? b = some o → o.data = .dict es ep → H b = none := fun {b o es ep} e d => by
   cases q : H b with
   | none => rfl
   | some u =>
    have e' : b = a := hA b (by rw [q]; simp)
    subst e'
    rw [ha] at e; cases e
    have d' : Data.seq vs.toArray _ = Data.dict es ep := d
    cases d'
  have nsK : ∀ {b : Addr} {m : Str → Option Value}, s₁.heap.Ns b m → (hidT s₁.heap H).Ns b m := fun {b m} ⟨o, es, ep, e, d, r⟩ => ⟨o, es, ep, base_of e (noA e d), d, r⟩
  have hKb : K.In (hidT s₁.heap H) := fun b o e => base_of (KX b o e) (by
   cases q : H b with
   | none => rfl
   | some u =>
    have e' : b = a := hA b (by rw [q]; simp)
    subst e'
    rw [hK (by rw [q]; simp)] at e; cases e)
  have hM : Mod K mg (hidT s₁.heap H) := ⟨hKb, nsK hns, ⟨mb, nsK hb, hbb⟩, let ⟨mc, h1, h2⟩ := hlim; ⟨mc, nsK h1, h2⟩⟩
  have e0 : Env0 P w K mg (hidT s₁.heap H) callerA [] s₁ H := ⟨rfl, hM, fun b o e => zhz e, Nat.le_of_eq (zfc _ _), trivial, fun b hb => absurd (show b ∈ ([] : List Addr) from hb) (by simp), hok, .of_eq hg⟩
  refine codeAny_mono ((F _ hKb (nsK hns)).run callerA [] s₁ H ⟨[.ref a], []⟩ [.ref a] [.ref a] _ _ hr e0 (hbind s₁ (.ref a)) (.cons rfl .nil) (hsp H hO hS)) fun r s' h => ?_
  cases r with
  | error e => exact (hCX H e s' h).elim
  | ok fl =>
   cases fl with
   | next => exact False.elim h
   | brk => exact False.elim h
   | cont => exact False.elim h
   | ret u =>
    obtain ⟨v, H', os, bare, un, hok', r', q⟩ := h
    have q' : v = .bl true := q
    subst q'
    obtain rfl : u = Value.bool true := r'
    refine ⟨rfl, OldK.of_keep fun b o e => ?_, os, bare⟩
    cases q : H b with
    | none => exact un.keep b o e q (by intro z; exact absurd (show b ∈ ([] : List Addr) from z) (by simp)) (by simp)
    | some u =>
     rcases hO b with z | ⟨ob, xs, z⟩
     ·rw [q] at z; cases z
     ·have z2 := un.frzs b ob _ z
      obtain ⟨e1, _⟩ := hok b _ z
      obtain ⟨e2, _⟩ := hok' b _ z2
      rw [e] at e1; cases e1
      exact e2
 cases hk : K.lookup a with
 | some o =>
  have e := KX a o hk
  rw [ha] at e
  cases e
  refine core (fun _ => none) (fun _ => .inl rfl) (.inr ⟨_, vs.toArray, _, hk, rfl, rfl, rfl, by rw [List.size_toArray, lenV]; exact hl, by simpa using rv⟩) (fun b u z => by have z' : (none : Option HO) = some u := z; cases z') (fun b z => absurd rfl z) fun z => absurd rfl z
 | none =>
  refine core (fun b => if b = a then some (.frz { cls := .type "list", data := .seq vs.toArray } (.lst (ns.map V.int))) else none) (fun b => ?_) (.inl (.inr ⟨{ cls := .type "list", data := .seq vs.toArray }, if_pos rfl⟩)) (fun b u z => ?_) (fun b z => ?_) fun _ => hk
  ·by_cases hb : b = a
   ·exact .inr ⟨_, _, if_pos hb⟩
   ·exact .inl (if_neg hb)
  ·by_cases hb : b = a
   ·have z' := (if_pos hb).symm.trans z
    cases z'
    subst hb
    exact ⟨ha, by rw [List.length_map]; exact hl, vs, _, rv, ha⟩
   ·have z' := (if_neg hb).symm.trans z
    cases z'
  ·by_cases hb : b = a
   ·exact hb
   ·exact absurd (if_neg hb) z
end L2
namespace L2
open PySem PySem.Spec PyProof.Rows
abbrev KOf {K : PySem.W.Frag} {h : Heap} (_ : K.In h) : PySem.W.Frag := K
/-- the goal that k_head leaves (case hc), from the law's promise. F gives the function object fd (K's own) once, then the promise over every base -/
theorem walk_of {l : PySem.W.OpenLaw} {n k : Nat} {q : Program} {loose : List Str} {XP : (Str → Option Value) → Heap → Prop} {YP : World → Heap → Prop} {d : DefRec} {K : Params → PySem.W.Frag} {CX : World → CXT} {sp : World → Sp} {x : Str}
  (hn : l.most = some n) (hn2 : n ≤ sizeLine) (hdf : d.params.defaults = []) (hr : Room k callerA)
  (hY : ∀ (w : World) (h : Heap), YP w h → (K w.params).In h)
  (F : ∀ (w : World) (mg : Str → Option Value) (fa : Addr) (h : Heap), (K w.params).In h → h.Ns mainGlobals mg → mg d.name = some (.ref fa) →
   ∃ fd : FuncData, (∀ (s : Shared) (u : Value), BindsTo s fd ⟨[u], []⟩ [(x, u)]) ∧
    ∀ base : Heap, (K w.params).In base → base.Ns mainGlobals mg → FnOk l.prog w (K w.params) mg base (CX w) k fa fd [x] (sp w))
  (hsp : ∀ (w : World) (H : Hp) (a : Addr) (ns : List Int), ns.length ≤ n → Only H → SqL (K w.params) H a (ns.map V.int) → sp w [.ref a] H (fun v _ => v = .bl true) fun _ _ _ => False)
  (hCX : ∀ (w : World) (H : Hp) (s : Shared) (e : Value) (s' : Shared), CX w [] H s (fun _ _ _ => False) e s' → False) :
  PySem.W.WalkO q loose XP YP l.row.toRowW d [] (fun f vs => PySem.call f vs) := by
 refine Att.attach_call hn hdf fun w s₀ s₁ mg mb fa o pm cd doc a vs ns G Y ho hd hcd hmg hobj hints hlen hg => ?_
 have KX := hY w _ Y
 obtain ⟨fd, hb, hF⟩ := F w mg fa _ KX G.T.g hmg
 exact zgr KX G.T.g G.T.b G.T.builtins G.T.nolimit hg hobj hints (Nat.le_trans hlen hn2) hr hF hb (fun H hO hS => hsp w H a ns hlen hO hS) fun H e s' => hCX w H s₁ e s'
end L2
/- THE LAST THEOREM (shape; LID, My.* are yours):
  My.Adr: a structure of the addresses that your layer names (classes, functions); My.Txt K t: a structure (Prop) of the equations over K;
  My.txt_mk : {K} {implicit addresses ..} (e1 : nsIn K mainGlobals "law" = some (some (.ref f))) (e2 : K.lookup f = some ⟨oc, od, .func (fnOf "law" "law" params body scope dV kV doc pm an cdv ct), sl⟩) (e3 : codeIn K cdv "law" = true) .. : ∃ t, My.Txt K t
set_option maxRecDepth 100000 in
set_option maxHeartbeats 0 in
theorem PySem.Challenge.cw_LID_holds : PySem.Challenge.rw_LID.Holds := by
 w_on; o_law; k_head; (case hw => w_witness2)
 k_fill
 refine L2.walk_of (l := PySem.Challenge.rw_LID) (n := 63) (k := 40) (x := "script") (CX := fun w => ..) (sp := fun _ => My.sp_law) rfl (by decide) rfl ⟨rfl, by decide, by decide⟩ (fun w h Y => PySem.W.kIn_of Y) ?F ?S ?C
 case F =>
  intro w mg fa h KX G hmg
  have T : ∃ t, My.Txt (L2.KOf KX) t := by
   dsimp only [L2.KOf]                          -- K must stand as «<heap const> w.params» for k_is
   refine' My.txt_mk ?e1 ?e2 ?e3 ..
   (case e1 => PySem.W.k_is)                    -- in the order: a name -> its address -> its object -> its parts
   (case e2 => PySem.W.k_is)
   ..
  obtain ⟨t, T⟩ := T
  have e0 := hmg.symm.trans (PySem.W.mg_of KX G T.law)
  cases e0                                       -- fa is the law's own address
  exact ⟨_, fun s u => .of_eq rfl, fun base kb nb => My.law_fn T kb nb⟩     -- if «.of_eq rfl» comes too early: refine' ⟨_, ?b, fun base kb nb => My.law_fn T kb nb⟩; exact fun s u => .of_eq rfl
 case S => exact fun w H a ns hl hO hS => ..
 case C => exact ..
(the tactic k_is has no namespace: write k_is) -/
namespace L2
open PySem PySem.Spec PyProof.Rows
def zde (s : Stmt) : Arguments := match s with
 | .FunctionDef _ a _ _ _ _ _ _ _ _ => a
 | _ => { posonlyargs := [], args := [], vararg := none, kwonlyargs := [], kw_defaults := [], kwarg := none, defaults := [] }
def zcj (s : Stmt) : List Stmt := match s with
 | .FunctionDef _ _ b _ _ _ _ _ _ _ => b
 | _ => []
def zas (s : Stmt) : Scope := match s with
 | .FunctionDef _ _ _ _ _ _ sc _ _ _ => sc
 | _ => { kind := .function, names := [], isGenerator := false, isCoroutine := false }
abbrev CX0 : CXT := fun _ _ _ _ _ _ => False
abbrev E0 : XK := fun _ _ _ => False
theorem zaD {X : Cx} : zfo CX0 X E0 := fun _ _ _ _ _ _ _ h => h.elim
structure Fun (K : PySem.W.Frag) (x qual : Str) (st : Stmt) (f : Addr) (fd : FuncData) : Prop where
 ex : ∃ (oc : Value) (od : Option Addr) (kV doc pm : Value) (an : Option Addr) (cdv ct : Value) (osl : Array (Option Value)),
  fd = PySem.W.fnOf x qual (zde st) (zcj st) (zas st) .none kV doc pm an cdv ct ∧ K.lookup f = some ⟨oc, od, .func fd, osl⟩ ∧ PySem.W.codeIn K cdv qual = true
 kp : PySem.W.keepIn K (.ref f) = true
section
variable {P : Program} {w : World} {K : PySem.W.Frag} {mg : Str → Option Value} {base : Heap}
/-- how its arguments bind (no defaults): h is «fun _ _ _ _ _ _ us hl => match us, hl with | [_, _], _ => rfl», one _ a parameter -/
theorem Fun.binds {x qual : Str} {st : Stmt} {f : Addr} {fd : FuncData} {ps : List Str} (F : Fun K x qual st f fd)
  (h : ∀ (kV doc pm : Value) (an : Option Addr) (cdv ct : Value) (us : List Value), us.length = ps.length → bindArgs (PySem.W.fnOf x qual (zde st) (zcj st) (zas st) .none kV doc pm an cdv ct) ⟨us, []⟩ = pure (ps.zip us)) : zaQ K fd ps [] := by
 obtain ⟨oc, od, kV, doc, pm, an, cdv, ct, osl, rfl, lk, hcd⟩ := F.ex
 exact .all (h kV doc pm an cdv ct)
theorem fun_mk {x qual : Str} {st : Stmt} {f : Addr} {oc : Value} {od an : Option Addr} {osl : Array (Option Value)} {kV doc pm cdv ct : Value} (l : K.lookup f = some ⟨oc, od, .func (PySem.W.fnOf x qual (zde st) (zcj st) (zas st) .none kV doc pm an cdv ct), osl⟩)
  (c : PySem.W.codeIn K cdv qual = true) (k : PySem.W.keepIn K (.ref f) = true) : Fun K x qual st f (PySem.W.fnOf x qual (zde st) (zcj st) (zas st) .none kV doc pm an cdv ct) := ⟨⟨oc, od, kV, doc, pm, an, cdv, ct, osl, rfl, l, c⟩, k⟩
end
theorem zaX {A : Around} {k : Nat} (hr : Room k A) : A.units + 1 < cLine := Nat.lt_of_le_of_lt (Nat.add_le_add_left (by decide : 1 ≤ 64) _) hr.units
section
variable {X : Cx}
theorem pv (i : Nat) {x : Str} {pos : Pos} (hN : X.N[i]? = some x := by rfl) (hv : Vis X.env.scope x := by first | exact Or.inl rfl | exact Or.inr (Or.inl rfl) | exact Or.inr (Or.inr rfl)) (hd : (x == ("__debug__" : Str)) = false := by decide)
  (hcd : (x == ("__classdict__" : Str)) = false := by decide) : PE X (.Name x pos) (tVar i) := zil hN hv hd hcd
end
theorem ite2 {c A B : Prop} [Decidable c] (h1 : c → A) (h2 : ¬ c → B) : if c then A else B := by
 by_cases h : c
 ·rw [if_pos h]
  exact h1 h
 ·rw [if_neg h]
  exact h2 h
/-- all that was tracked is as it was -/
def Same (H H' : Hp) : Prop := ∀ b o, H b = some o → H' b = some o
theorem Same.refl (H : Hp) : Same H H := fun _ _ h => h
theorem Same.trans {H H1 H2 : Hp} (a : Same H H1) (b : Same H1 H2) : Same H H2 := fun c o h => b c o (a c o h)
theorem Same.free {H H' : Hp} (e : Same H H') {l : Addr} (h : H' l = Option.none) : H l = Option.none := by
 cases q : H l with
 | none => rfl
 | some o =>
  rw [e l o q] at h
  cases h
theorem Same.seq {K : PySem.W.Frag} {H H' : Hp} {a : Addr} {xs : List V} (e : Same H H') (h : SqL K H a xs) : SqL K H' a xs := by
 rcases h with (h | ⟨o, h⟩) | h
 ·exact .inl (.inl (e _ _ h))
 ·exact .inl (.inr ⟨o, e _ _ h⟩)
 ·exact .inr h
section
variable {κ : Type} [DecidableEq κ]
end
end L2
set_option Elab.async false
set_option linter.all false
set_option maxRecDepth 100000
namespace L2
open PySem PySem.Spec PyProof.Rows
def clOf (env : Env) (names : List (Str × NameKind)) (cs : List (Str × Addr)) : List (Str × Addr) :=
 names.foldl (fun cs y => if y.2 == NameKind.free then (y.1, (env.cells.lookup y.1).getD 0) :: cs else cs) cs
theorem zcg {env : Env} : ∀ (names : List (Str × NameKind)) (cs : List (Str × Addr)), (∀ y ∈ names, y.2 = .free → ∃ c, env.cells.lookup y.1 = some c) →
  (forIn names cs fun (p : Str × NameKind) (cs : List (Str × Addr)) => (if (p.2 == NameKind.free) = true then do
   let a ← cellOf env p.1
   pure (ForInStep.yield ((p.1, a) :: cs))
   else pure (ForInStep.yield cs) : Sem (ForInStep (List (Str × Addr))))) = pure (clOf env names cs)
 | [], cs, _ => rfl
 | (n, k) :: r, cs, h => by
  have hr : ∀ y ∈ r, y.2 = NameKind.free → ∃ c, env.cells.lookup y.1 = some c := fun y hy => h y (List.mem_cons_of_mem _ hy)
  rw [List.forIn_cons]
  cases hk : (k == NameKind.free) with
  | true =>
   obtain ⟨c, hc⟩ := h (n, k) List.mem_cons_self (by simpa using hk)
   have e1 : cellOf env n = pure c := by
    have hc' : env.cells.lookup n = some c := hc
    unfold cellOf; rw [hc']
   have e2 := zcg r ((n, c) :: cs) hr
   have e3 : clOf env ((n, k) :: r) cs = clOf env r ((n, c) :: cs) := by
    have hc' : env.cells.lookup n = some c := hc
    show List.foldl _ (if (k == NameKind.free) = true then (n, (env.cells.lookup n).getD 0) :: cs else cs) r = _
    rw [hk, hc']; rfl
   rw [e3, ← e2]
   simp only [hk, if_true, e1]
   rfl
  | false =>
   have e2 := zcg r cs hr
   have e3 : clOf env ((n, k) :: r) cs = clOf env r cs := by
    show List.foldl _ (if (k == NameKind.free) = true then _ else cs) r = _
    rw [hk]; rfl
   rw [e3, ← e2]
   simp only [hk, Bool.false_eq_true, if_false]
   rfl
theorem zbJ {scope : Scope} {env : Env} (h : ∀ y ∈ scope.names, y.2 = .free → ∃ c, env.cells.lookup y.1 = some c) : closureFor scope env = pure (clOf env scope.names []) := by
 have := zcg scope.names [] h
 unfold closureFor
 simp only [bind_pure]
 exact this
theorem zez {env : Env} : ∀ (names : List (Str × NameKind)) (cs : List (Str × Addr)), (∀ y ∈ names, y.2 = .free → ∃ c, env.cells.lookup y.1 = some c) → (∀ x c, cs.lookup x = some c → env.cells.lookup x = some c) →
  ∀ x c, (clOf env names cs).lookup x = some c → env.cells.lookup x = some c
 | [], cs, _, hc => hc
 | (n, k) :: r, cs, h, hc => by
  refine zez r _ (fun y hy => h y (List.mem_cons_of_mem _ hy)) ?_
  intro x c e
  dsimp only at e
  split at e
  ·rename_i hk
   obtain ⟨c', hc'⟩ := h (n, k) List.mem_cons_self (by simpa using hk)
   have hc' : env.cells.lookup n = some c' := hc'
   rw [List.lookup_cons] at e
   cases hx : (x == n) with
   | true =>
    rw [hx] at e
    have e' : (env.cells.lookup n).getD 0 = c := Option.some.inj e
    have hxn : x = n := by simpa using hx
    rw [hxn, hc', ← e', hc']; rfl
   | false =>
    rw [hx] at e
    exact hc x c e
  ·exact hc x c e
theorem zcR {env : Env} {x : Str} : ∀ (names : List (Str × NameKind)) (cs : List (Str × Addr)), ((x, NameKind.free) ∈ names ∨ ∃ c, cs.lookup x = some c) → ∃ c, (clOf env names cs).lookup x = some c
 | [], cs, h => by
  rcases h with h | h
  ·simp at h
  ·exact h
 | (n, k) :: r, cs, h => by
  refine zcR r _ ?_
  rcases h with h | ⟨c, h⟩
  ·rcases List.mem_cons.mp h with e | h
   ·cases e
    refine .inr ⟨(env.cells.lookup x).getD 0, ?_⟩
    simp
   ·exact .inl h
  ·refine .inr ?_
   dsimp only
   split
   ·rw [List.lookup_cons]
    cases (x == n) with
    | true => exact ⟨_, rfl⟩
    | false => exact ⟨c, h⟩
   ·exact ⟨c, h⟩
theorem zbT {env : Env} : ∀ {names : List (Str × NameKind)} {x : Str}, names.lookup x = some .free →
  (names.map fun (n, k) => if (k == NameKind.free && env.scope.kind == .function && env.kindOf n == some .cell) then (n, NameKind.cell) else (n, k)).lookup x = some .cell ∨
  (names.map fun (n, k) => if (k == NameKind.free && env.scope.kind == .function && env.kindOf n == some .cell) then (n, NameKind.cell) else (n, k)).lookup x = some .free
 | [], _, h => by simp at h
 | (n, k) :: r, x, h => by
  have ih := @zbT env r x
  rw [List.map_cons]
  cases hx : x == n with
  | true =>
   simp only [List.lookup_cons, hx] at h
   cases h
   by_cases hc : (NameKind.free == NameKind.free && env.scope.kind == .function && env.kindOf n == some .cell) = true
   ·left
    show List.lookup x ((if (NameKind.free == NameKind.free && env.scope.kind == .function && env.kindOf n == some .cell) = true then (n, NameKind.cell) else (n, NameKind.free)) :: _) = _
    rw [if_pos hc]; simp [List.lookup_cons, hx]
   ·right
    show List.lookup x ((if (NameKind.free == NameKind.free && env.scope.kind == .function && env.kindOf n == some .cell) = true then (n, NameKind.cell) else (n, NameKind.free)) :: _) = _
    rw [if_neg hc]; simp [List.lookup_cons, hx]
  | false =>
   simp only [List.lookup_cons, hx] at h
   have ih := ih h
   have e : ∀ l, List.lookup x ((if (k == NameKind.free && env.scope.kind == .function && env.kindOf n == some .cell) = true then (n, NameKind.cell) else (n, k)) :: l) = List.lookup x l := fun l => by
    split <;> simp [List.lookup_cons, hx]
   show List.lookup x ((if (k == NameKind.free && env.scope.kind == .function && env.kindOf n == some .cell) = true then (n, NameKind.cell) else (n, k)) :: _) = _ ∨ List.lookup x ((if (k == NameKind.free && env.scope.kind == .function && env.kindOf n == some .cell) = true then (n, NameKind.cell) else (n, k)) :: _) = _
   rw [e]
   exact ih
/-- kinds in the block's scope come from the scope's -/
theorem zbR {env : Env} : ∀ {names : List (Str × NameKind)} {x : Str},
  ((names.map fun (n, k) => if (k == NameKind.free && env.scope.kind == .function && env.kindOf n == some .cell) then (n, NameKind.cell) else (n, k)).lookup x = some .cell ∨
  (names.map fun (n, k) => if (k == NameKind.free && env.scope.kind == .function && env.kindOf n == some .cell) then (n, NameKind.cell) else (n, k)).lookup x = some .free) →
  names.lookup x = some .free ∨ names.lookup x = some .cell
 | [], x, h => by simp at h
 | (n, k) :: r, x, h => by
  have ih := @zbR env r x
  cases hx : x == n with
  | true =>
   rw [List.lookup_cons, hx]
   show some k = _ ∨ some k = _
   have e : ∀ l, List.lookup x ((if (k == NameKind.free && env.scope.kind == .function && env.kindOf n == some .cell) = true then (n, NameKind.cell) else (n, k)) :: l) = if (k == NameKind.free && env.scope.kind == .function && env.kindOf n == some .cell) = true then some .cell else some k := fun l => by
    split <;> simp [List.lookup_cons, hx]
   rw [List.map_cons] at h
   have h : List.lookup x ((if (k == NameKind.free && env.scope.kind == .function && env.kindOf n == some .cell) = true then (n, NameKind.cell) else (n, k)) :: _) = some .cell ∨ List.lookup x ((if (k == NameKind.free && env.scope.kind == .function && env.kindOf n == some .cell) = true then (n, NameKind.cell) else (n, k)) :: _) = some .free := h
   rw [e] at h
   by_cases hc : (k == NameKind.free && env.scope.kind == .function && env.kindOf n == some .cell) = true
   ·left
    simp at hc
    rw [hc.1.1]
   ·rw [if_neg hc] at h
    rcases h with h | h
    ·exact .inr h
    ·exact .inl h
  | false =>
   rw [List.lookup_cons, hx]
   have e : ∀ l, List.lookup x ((if (k == NameKind.free && env.scope.kind == .function && env.kindOf n == some .cell) = true then (n, NameKind.cell) else (n, k)) :: l) = List.lookup x l := fun l => by
    split <;> simp [List.lookup_cons, hx]
   rw [List.map_cons] at h
   have h : List.lookup x ((if (k == NameKind.free && env.scope.kind == .function && env.kindOf n == some .cell) = true then (n, NameKind.cell) else (n, k)) :: _) = some .cell ∨ List.lookup x ((if (k == NameKind.free && env.scope.kind == .function && env.kindOf n == some .cell) = true then (n, NameKind.cell) else (n, k)) :: _) = some .free := h
   rw [e] at h
   exact ih h
section
variable {prog : Program} {w : World} {A : Around} {E : Value → Shared → Prop} {R : Result → Shared → Prop} {s : Shared}
theorem zdI {elt target iter : Expr} {ifs : List Expr} {scope : Scope} {pos : Pos} {it acc : Value} {env : Env} (I : Nat → Shared → Prop)
  (turn : ∀ n s, I n s → wpAny (model prog w) A (pyNext it) (fun r s₁ => match r with
   | none => R (.ok .next) s₁
   | some v => wpAny (model prog w) A (letOwnedTupleGo target it v) (fun _ s₁' => wpAny (model prog w) A (assign target env v) (fun _ s₂ =>
     wpAny (model prog w) A (forIn ifs true fun c r => if r = true then do let ok ← isTrue c env (eval c env); pure (ForInStep.yield ok) else pure (ForInStep.yield r)) (fun ok s₃ =>
      if ok = true then wpAny (model prog w) A (eval elt env) (fun x s₄ =>
       wpAny (model prog w) A (call (.builtin "list.append") [acc, x]) (fun _ s₅ => ∃ m, m < n ∧ I m s₅) (notedBy (model prog w) A env fun e s' => R (.error e) s') s₄) (notedBy (model prog w) A env fun e s' => R (.error e) s') s₃
      else ∃ m, m < n ∧ I m s₃) (notedBy (model prog w) A env fun e s' => R (.error e) s') s₂) (notedBy (model prog w) A env fun e s' => R (.error e) s') s₁') (notedBy (model prog w) A env fun e s' => R (.error e) s') s₁) (notedBy (model prog w) A env fun e s' => R (.error e) s') s)
  (n : Nat) (h : I n s) :
  codeAny (model prog w) A (.compLoop (.ListComp elt [⟨target, iter, ifs, 0⟩] scope pos) 0 it acc env) R s := by
 refine codeAny_loop rfl I (fun n s hI => ?_) n h
 show wpAny _ A ((compTurn (.ListComp elt [⟨target, iter, ifs, 0⟩] scope pos) 0 it acc env).onRaise (fun x => do noteFrame x env; theTreesLotGoes x)) _ _ s
 refine wpAny_noted ?_
 rw [compTurn_list]
 refine wpAny_bind (wpAny_standAt (wpAny_bind (wpAny_mono (turn n s hI) (fun r s₁ h₁ => ?_) fun _ _ h' => h')))
 cases r with
 | none => exact wpAny_pure h₁
 | some v =>
  refine wpAny_bind (wpAny_mono h₁ (fun _ s₁' h₁' => ?_) fun _ _ h' => h')
  refine wpAny_bind (wpAny_mono h₁' (fun _ s₂ h₂ => wpAny_bind (wpAny_mono h₂ (fun ok s₃ h₃ => ?_) fun _ _ h' => h')) fun _ _ h' => h')
  cases ok with
  | false => exact wpAny_pure ⟨rfl, h₃⟩
  | true =>
   exact wpAny_bind (wpAny_bind (wpAny_mono h₃ (fun x s₄ h₄ => wpAny_bind (wpAny_mono h₄ (fun _ s₅ h₅ => wpAny_pure (wpAny_pure ⟨rfl, h₅⟩)) fun _ _ h' => h')) fun _ _ h' => h'))
end
/-- its context: the block's names N', its frame at C, the iterator's records ex -/
def za5 (X : Cx) (scope : Scope) (N' : List Str) (C : Addr) (ex : List Addr) (s : Shared) (H : Hp) : Cx :=
 { X with N := N', s₀ := s, H₀ := H, env := compEnvC scope (clOf X.env scope.names []) C X.env, outer := X.stack, stack := X.stack, ex := ex, fn := fun _ => false, pn := [], xe := fun _ _ => False }
/-- cap: for each of the block's names the slot of the def's name that it means, none for its own -/
def zii (N N' : List Str) (cap : List (Option Nat)) (names : List (Str × NameKind)) : Bool :=
 (N'.zip cap).all fun p => match p.2 with
  | none => true
  | some j => N[j]? == some p.1 && names.lookup p.1 == some .free
structure CompOk (X : Cx) (scope : Scope) (N' : List Str) (cap : List (Option Nat)) : Prop where
 kind : scope.kind = .function
 nocell : ∀ y ∈ scope.names, y.2 ≠ .cell
 names : ∀ y ∈ scope.names, y.2 = .local → scope.names.lookup y.1 = some .local
 freeB : (scope.names.all fun y => y.2 != .free || X.env.scope.names.lookup y.1 == some .cell || X.env.scope.names.lookup y.1 == some .free) = true
 len : cap.length = N'.length
 cap : zii X.N N' cap scope.names = true
theorem CompOk.free {X : Cx} {scope : Scope} {N' : List Str} {cap : List (Option Nat)} (c : CompOk X scope N' cap) : ∀ y ∈ scope.names, y.2 = .free → (X.env.scope.names.lookup y.1 = some .cell ∨ X.env.scope.names.lookup y.1 = some .free) := fun y hy hf => by
 have h := List.all_eq_true.mp c.freeB y hy
 rw [hf] at h
 simpa using h
/-- the block's names at the start of each turn -/
def zaM (cap : List (Option Nat)) (σ : St) : St := cap.map fun o => match o with
 | none => none
 | some j => (σ[j]?).join
theorem zfO {N N' : List Str} {cap : List (Option Nat)} {names : List (Str × NameKind)} (h : zii N N' cap names = true) {i : Nat} {x : Str} {j : Nat} (h1 : N'[i]? = some x) (h2 : cap[i]? = some (some j)) :
  N[j]? = some x ∧ names.lookup x = some .free := by
 have hm : (x, some j) ∈ N'.zip cap := by
  refine List.mem_of_getElem? (i := i) ?_
  rw [List.getElem?_zip_eq_some]
  exact ⟨h1, h2⟩
 have := List.all_eq_true.mp h _ hm
 simpa using this
section
variable {X : Cx} {pins : List (Addr × Obj)} {σ : St} {H : Hp} {s : Shared} {scope : Scope} {N' : List Str} {cap : List (Option Nat)}
theorem CompOk.clos (c : CompOk X scope N' cap) (I : Inv X pins σ H s) : ∀ y ∈ scope.names, y.2 = .free → ∃ a, X.env.cells.lookup y.1 = some a := fun y hy hf => I.ok.has y.1 (c.free y hy hf)
/-- the block's frame laid: the invariant inside -/
theorem zeM (c : CompOk X scope N' cap) (I : Inv X pins σ H s) {fp : List Addr} (hf : ∀ b ∈ fp, FpOk X pins H b) (ho : ∀ b ∈ fp, ∃ o, s.heap.get? b = some o) {h₁ : Heap} {t : Nat} (hns : h₁.Ns s.heap.objs.size (fun _ => none))
  (hsb : ∀ b o, s.heap.get? b = some o → h₁.get? b = some o) : Inv (za5 X scope N' s.heap.objs.size fp s H) [] (zaM cap σ) H { s with heap := h₁, toks := t } := by
 have hcl := c.clos I
 have sub := zez (env := X.env) scope.names [] hcl (fun x c e => by simp at e)
 have CI : ∀ x a, (clOf X.env scope.names []).lookup x = some a → X.env.cells.lookup x = some a := sub
 have cz : ∀ x a, (clOf X.env scope.names []).lookup x = some a → a < s.heap.objs.size := fun x a e => by
  obtain ⟨v, o, q, _⟩ := I.cell x a (CI x a e)
  exact Heap.lt_size q
 have fz : ∀ b ∈ fp, b ≠ s.heap.objs.size → True := fun _ _ _ => trivial
 refine ⟨⟨I.ok.mod, c.kind, I.ok.glob, I.ok.blt, Nat.le_refl _, fun x y a h1 h2 => I.ok.inj x y a (CI x a h1) (CI y a h2), fun x hx => ?_, fun x a h => (by cases h), I.ok.hd, I.ok.frames, .inl rfl, fun b hb => ?_, I.bs, Nat.le_trans I.ok.bsz I.sz, fun b o e hb => ?_, fun b hb => ?_, I.stack, I.stkFree⟩,
  rfl, I.bare, Un.kept hsb, ⟨_, hns, fun i x v h1 h2 h3 => ?_⟩, fun x a e => ?_, I.hok.fresh (Nat.le_refl _), fun x a e => I.freeC x a (CI x a e), fun p hp => by simp [za5] at hp, I.hok.kept hsb, ?_⟩
 ·have hx : (relabel scope X.env).names.lookup x = some .cell ∨ (relabel scope X.env).names.lookup x = some .free := hx
  rcases zbR hx with h | h
  ·exact zcR (env := X.env) scope.names [] (.inl (PySem.mem_of_lookup h))
  ·exact absurd rfl (c.nocell _ (PySem.mem_of_lookup h))
 ·obtain ⟨o, e⟩ := ho b hb
  exact ⟨Nat.ne_of_lt (Heap.lt_size e), fun x a e => (hf b hb).2.2.2.2.1 x a (CI x a e)⟩
 ·rcases (hf b hb).2.2.2.1 with z | z
  ·exact I.ok.noex b o e z
  ·exact absurd (Nat.lt_of_lt_of_le (Heap.lt_size e) (Nat.le_trans I.ok.bsz z)) (Nat.lt_irrefl _)
 ·intro z
  rcases List.mem_cons.mp (I.stkSub b z) with q | q
  ·exact (hf b hb).2.1 q
  ·exact (hf b hb).2.2.1 q
 ·have hi : i < cap.length := by
   unfold zaM at h2
   have := (List.getElem?_eq_some_iff.mp h2).1
   simpa using this
  obtain ⟨j, hj, hv⟩ : ∃ j, cap[i]? = some (some j) ∧ σ[j]? = some (some v) := by
   unfold zaM at h2
   rw [List.getElem?_map] at h2
   cases e : cap[i]? with
   | none => rw [e] at h2; cases h2
   | some o =>
    rw [e] at h2
    cases o with
    | none => cases h2
    | some j =>
     refine ⟨j, rfl, ?_⟩
     have h2 : (σ[j]?).join = some v := Option.some.inj h2
     cases q : σ[j]? with
     | none => rw [q] at h2; cases h2
     | some y => rw [q] at h2; cases y with
      | none => cases h2
      | some z => exact congrArg some h2
  obtain ⟨hN, hfree⟩ := zfO c.cap h1 hj
  have hk := c.free (x, .free) (PySem.mem_of_lookup hfree) rfl
  obtain ⟨m, hm, hl⟩ := I.loc
  obtain ⟨u, ru, l⟩ := hl j x v hN hv (hk.elim (fun z => .inr (.inl z)) fun z => .inr (.inr z))
  refine ⟨u, ru, .inr ⟨zbT hfree, ?_⟩⟩
  rcases l with ⟨k, _⟩ | ⟨_, a, ea, ca⟩
  ·have k : X.env.scope.names.lookup x = some .local := k
   rcases hk with z | z <;> · rw [z] at k; cases k
  ·obtain ⟨a', ea'⟩ := zcR (env := X.env) (x := x) scope.names [] (.inl (PySem.mem_of_lookup hfree))
   have := CI x a' ea'
   rw [ea] at this; cases this
   obtain ⟨o, q, d⟩ := ca
   exact ⟨a, ea', o, hsb a o q, d⟩
 ·obtain ⟨v, o, q, d⟩ := I.cell x a (CI x a e)
  exact ⟨v, o, hsb a o q, d⟩
 ·unfold zaM
  rw [List.length_map]
  exact c.len
end
/-- the tests of a comprehension -/
def PIfs (Y : Cx) (ifs : List Expr) (t : TT) : Prop :=
 ∀ (pins : List (Addr × Obj)) (s : Shared) (σ : St) (H : Hp) (Q : Bool → Hp → Prop) (E : Value → Shared → Prop), Inv Y pins σ H s → t σ H Q →
  wpAny (model Y.prog Y.w) Y.A (forIn ifs true fun c r => if r = true then do let ok ← isTrue c Y.env (eval c Y.env); pure (ForInStep.yield ok) else pure (ForInStep.yield r)) (TP Y pins σ Q) E s
def tTrue : TT := fun _ H Q => Q true H
theorem zaL {Y : Cx} : PIfs Y [] tTrue := fun pins s σ H Q E I h => wpAny_tests_nil ⟨H, I, h⟩
theorem zep {Y : Cx} {c : Expr} {t : TT} (h : PT Y.nox c t) : PIfs Y [c] t := fun pins s σ H Q E I hw =>
 wpAny_tests_one (wpAny_mono (h pins s σ H Q (I.wish _) hw) (fun _ _ ⟨H', I', q⟩ => ⟨H', I'.unwish, q⟩) fun _ _ z => False.elim z)
/-- a target that stores into the slots of own alone -/
def GKp (own : Nat → Bool) (g : TG) : Prop := ∀ v σ H Q, g v σ H Q → g v σ H fun σ' H' => (σ'.length = σ.length ∧ ∀ i, own i = false → σ'[i]? = σ[i]?) ∧ Q σ' H'
def GsKp (own : Nat → Bool) (g : TGs) : Prop := ∀ vs σ H Q, g vs σ H Q → g vs σ H fun σ' H' => (σ'.length = σ.length ∧ ∀ i, own i = false → σ'[i]? = σ[i]?) ∧ Q σ' H'
theorem zaR {own : Nat → Bool} {j : Nat} (h : own j = true := by rfl) : GKp own (za2 j) := fun v σ H Q q =>
 ⟨⟨List.length_set .., fun i hi => List.getElem?_set_ne (fun e => by rw [e, hi] at h; cases h)⟩, q⟩
theorem zb4 {own : Nat → Bool} : GsKp own gNil := fun vs σ H Q q => ⟨q.1, ⟨rfl, fun _ _ => rfl⟩, q.2⟩
theorem zaY {own : Nat → Bool} {j : Nat} {u : TGs} (h : own j = true) (hu : GsKp own u) : GsKp own (zh1 (za2 j) u) := by
 intro vs σ H Q q
 obtain ⟨v, r, e, q⟩ := q
 refine ⟨v, r, e, ?_⟩
 have q := hu r (σ.set j (some v)) H Q q
 have k : ∀ i, own i = false → (σ.set j (some v))[i]? = σ[i]? := fun i hi => List.getElem?_set_ne (fun e => by rw [e, hi] at h; cases h)
 have q := hu r (σ.set j (some v)) H _ q
 show u r (σ.set j (some v)) H _
 have e2 : (fun (σ' : St) (H' : Hp) => (σ'.length = (σ.set j (some v)).length ∧ ∀ i, own i = false → σ'[i]? = (σ.set j (some v))[i]?) ∧ (σ'.length = (σ.set j (some v)).length ∧ ∀ i, own i = false → σ'[i]? = (σ.set j (some v))[i]?) ∧ Q σ' H') = fun σ' H' => (σ'.length = σ.length ∧ ∀ i, own i = false → σ'[i]? = σ[i]?) ∧ Q σ' H' := by
  funext σ' H'
  refine propext ⟨fun z => ⟨⟨by rw [z.1.1, List.length_set], fun i hi => by rw [z.1.2 i hi, k i hi]⟩, z.2.2⟩, fun z => ?_⟩
  have a : σ'.length = (σ.set j (some v)).length ∧ ∀ i, own i = false → σ'[i]? = (σ.set j (some v))[i]? := ⟨by rw [z.1.1, List.length_set], fun i hi => by rw [z.1.2 i hi, k i hi]⟩
  exact ⟨a, a, z.2⟩
 rw [e2] at q
 exact q
theorem zdc {own : Nat → Bool} {K : PySem.W.Frag} {n : Nat} {t : TGs} (h : GsKp own t) : GKp own (gTup K n t) := fun v σ H Q ⟨a, xs, e, hq, hl, q⟩ => ⟨a, xs, e, hq, hl, h xs σ H Q q⟩
def zgx (cap : List (Option Nat)) (i : Nat) : Bool := cap[i]? == some none
/-- what a comprehension reads: W by the turn, a measure, the items so far and the heap (the new list at D among it) -/
def zcA (cap : List (Option Nat)) (wi : TI) (g : TG) (tt : TT) (te : TE) : TE := fun σ H Q => wi σ H fun J H1 => ∀ D, H1 D = none →
 ∃ W : Nat → Nat → List V → Hp → Prop, (∃ m, W 0 m [] (upd H1 D (.lst []))) ∧ ∀ i m ys H2, W i m ys H2 → H2 D = some (.lst ys) ∧
  ((J.stop i H2 ∧ Q (.ref D) H2) ∨ (J.go i H2 ∧ ys.length < sizeLine ∧ ∃ N : List V → Hp → Prop, (∀ ys' H', N ys' H' → ∃ m', m' < m ∧ W (i + 1) m' ys' H') ∧ ∀ x H3, J.yld i H2 x H3 → g x (zaM cap σ) H3 fun σ4 H4 => tt σ4 H4 fun b H5 =>
   if b = true then te σ4 H5 fun y H6 => H6 D = some (.lst ys) ∧ N (ys ++ [y]) (upd H6 D (.lst (ys ++ [y]))) else N ys H5))
section
variable {X : Cx} {pins : List (Addr × Obj)} {σ : St} {H : Hp} {s : Shared} {scope : Scope} {N' : List Str} {cap : List (Option Nat)}
theorem zdJ {tg elt iter : Expr} {ifs : List Expr} {pos : Pos} {g : TG} {tt : TT} {te : TE} {it : Addr} {fp : List Addr} {tn : Nat → Heap → Prop} {J : It} {RR : Value → Addr → Result → Shared → Prop} {Q : VK} {E : Value → Shared → Prop}
  (c : CompOk X scope N' cap) (hc : X.calm = true) (I : Inv X pins σ H s) (T : Turn X.prog X.w X.K tg J fp it tn) (st : tn 0 s.heap) (hf : ∀ b ∈ fp, FpOk X pins H b)
  (hg : ∀ C ex s H, PG (za5 X scope N' C ex s H) tg g) (hk : GKp (zgx cap) g) (hi : ∀ C ex s H, PIfs (za5 X scope N' C ex s H) ifs tt) (he : ∀ C ex s H, PE (za5 X scope N' C ex s H) elt te)
  (h : ∀ D, H D = none →
   ∃ W : Nat → Nat → List V → Hp → Prop, (∃ m, W 0 m [] (upd H D (.lst []))) ∧ ∀ i m ys H2, W i m ys H2 → H2 D = some (.lst ys) ∧
    ((J.stop i H2 ∧ Q (.ref D) H2) ∨ (J.go i H2 ∧ ys.length < sizeLine ∧ ∃ N : List V → Hp → Prop, (∀ ys' H', N ys' H' → ∃ m', m' < m ∧ W (i + 1) m' ys' H') ∧ ∀ x H3, J.yld i H2 x H3 → g x (zaM cap σ) H3 fun σ4 H4 => tt σ4 H4 fun b H5 =>
     if b = true then te σ4 H5 fun y H6 => H6 D = some (.lst ys) ∧ N (ys ++ [y]) (upd H6 D (.lst (ys ++ [y]))) else N ys H5)))
  (hRR : ∀ D C H' s', Inv X pins σ H' s' → FpOk X pins H' C → (∃ m, s'.heap.Ns C m) → Q (.ref D) H' → RR (.ref D) C (.ok .next) s') :
  wpAny (model X.prog X.w) X.A (newList []) (fun acc s₃ => wpAny (model X.prog X.w) X.A (newFunctionEnv scope X.env.globals (clOf X.env scope.names []) [] X.env.qual none .none (some X.env)) (fun cenv s₄ =>
   codeAny (model X.prog X.w) X.A (.compStart (.ListComp elt [⟨tg, iter, ifs, 0⟩] scope pos) 0 (.ref it) acc { cenv with scope := relabel scope X.env }) (RR acc cenv.locals) s₄) E s₃) E s := by
 refine wpAny_newObj_type (wpAny_newFunctionEnv c.nocell (by intro y hy; simp at hy) (fun h₁ hns₁ hsb₁ => ?_) c.kind)
 dsimp only at hns₁ hsb₁ ⊢
 have hD : H s.heap.objs.size = none := I.hok.fresh (Nat.le_refl _)
 have I1 : Inv X pins σ (upd H s.heap.objs.size (.lst [])) { s with heap := s.heap.push { cls := .type "list", dict := none, data := .seq ([] : List Value).toArray } } :=
  I.laid (t' := s.toks) (fun b u e => Heap.get?_push_of_some _ e) (Nat.le_refl _) ⟨Nat.zero_le _, [], 0, .nil, Heap.get?_push_size _ rfl⟩
 have ob : ∀ b ∈ fp, ∃ o, s.heap.get? b = some o ∧ ∀ v, o.data ≠ .cell v := T.obj 0 _ st
 have hf1 : ∀ b ∈ fp, FpOk X pins (upd H s.heap.objs.size (.lst [])) b := fun b hb => by
  obtain ⟨o, e, _⟩ := ob b hb
  have : b ≠ s.heap.objs.size := Nat.ne_of_lt (Heap.lt_size e)
  exact ⟨by rw [zaj this]; exact (hf b hb).1, (hf b hb).2⟩
 generalize hs1 : ({ s with heap := s.heap.push { cls := .type "list", dict := none, data := .seq ([] : List Value).toArray } } : Shared) = s1 at I1
 have hh : s.heap.push { cls := .type "list", dict := none, data := .seq ([] : List Value).toArray } = s1.heap := by rw [← hs1]
 have old1 : ∀ b o, s.heap.get? b = some o → s1.heap.get? b = some o := fun b o e => by rw [← hh]; exact Heap.get?_push_of_some _ e
 rw [hh] at hns₁ hsb₁ ⊢
 have old2 : ∀ b o, s1.heap.get? b = some o → h₁.get? b = some o := fun b o e => hsb₁.extBut b o (Nat.ne_of_lt (Heap.lt_size e)) (Heap.get?_push_of_some _ e)
 have J0 : Inv (za5 X scope N' s1.heap.objs.size fp s1 (upd H s.heap.objs.size (.lst []))) [] (zaM cap σ) (upd H s.heap.objs.size (.lst [])) { s1 with heap := h₁, toks := s.toks + ([] : List (Str × Value)).length } :=
  zeM c I1 hf1 (fun b hb => (ob b hb).imp fun o e => old1 b o e.1) hns₁ old2
 have es4 : ({ heap := h₁, gens := s.gens, drawn := s.drawn, toks := s.toks + ([] : List (Str × Value)).length, os := s.os } : Shared) = { s1 with heap := h₁, toks := s.toks + ([] : List (Str × Value)).length } := by rw [← hs1]
 have st4 : tn 0 ({ s1 with heap := h₁, toks := s.toks + ([] : List (Str × Value)).length } : Shared).heap := T.keep 0 _ _ st fun b hb o e => old2 b o (old1 b o e)
 rw [es4]
 generalize ({ s1 with heap := h₁, toks := s.toks + ([] : List (Str × Value)).length } : Shared) = s4 at J0 st4 ⊢
 obtain ⟨W, ⟨m0, w0⟩, step⟩ := h _ hD
 generalize hY : za5 X scope N' s1.heap.objs.size fp s1 (upd H s.heap.objs.size (.lst [])) = Y at J0
 have stat : ∀ {H' : Hp}, (∀ b ∈ fp, H' b = none) → ∀ b ∈ fp, FpOk Y [] H' b := fun hn b hb => by
  obtain ⟨o, e, _⟩ := ob b hb
  have e1 := old1 b o e
  subst hY
  refine ⟨hn b hb, Nat.ne_of_lt (Heap.lt_size e1), fun z => ?_, .inl hb, fun x a q => (J0.ok.exf b hb).2 x a q, fun p hp => by simp [za5] at hp⟩
  exact J0.ok.exfs b hb z
 have loop : codeAny (model X.prog X.w) X.A (.compLoop (.ListComp elt [⟨tg, iter, ifs, 0⟩] scope pos) 0 (.ref it) (.ref s.heap.objs.size) (compEnvC scope (clOf X.env scope.names []) s1.heap.objs.size X.env)) (RR (.ref s.heap.objs.size) s1.heap.objs.size) s4 := by
  refine zdI (fun n s' => ∃ i ys H', Inv Y [] (zaM cap σ) H' s' ∧ tn i s'.heap ∧ (∀ b ∈ fp, H' b = none) ∧ W i n ys H') ?_ m0 ⟨0, [], _, J0, st4, fun b hb => (hf1 b hb).1, w0⟩
  rintro n s3 ⟨i, ys, H3, I3, st3, fr3, w3⟩
  obtain ⟨hDl, alt⟩ := step i n ys H3 w3
  rcases alt with ⟨stop, q⟩ | ⟨go, hlen, NN, hNN, stp⟩
  ·have := T.done Y (by rw [← hY]; rfl) (by rw [← hY]; rfl) (by rw [← hY]; rfl) (by rw [← hY]; exact hc) i [] s3 (zaM cap σ) H3 (notedBy (model X.prog X.w) X.A (compEnvC scope (clOf X.env scope.names []) s1.heap.objs.size X.env) fun e s' => RR (.ref s.heap.objs.size) s1.heap.objs.size (.error e) s') I3 (stat fr3) st3 stop
   subst hY
   refine thn this fun r s5 ⟨hr, I5⟩ => ?_
   subst hr
   refine hRR _ _ H3 s5 (I1.call' I5.os I5.base I5.hok I5.bare fun b hb => ?_) (I1.fpOk (Nat.le_refl _) I5.free) (I5.loc.imp fun m z => z.1) q
   obtain ⟨_, f1, f2, f3, f4, f5⟩ := hf1 b hb
   exact ⟨f3, f1, f4, f5⟩
  ·have := T.item Y (by rw [← hY]; rfl) (by rw [← hY]; rfl) (by rw [← hY]; rfl) (by rw [← hY]; exact hc) i [] s3 (zaM cap σ) H3 (notedBy (model X.prog X.w) X.A (compEnvC scope (clOf X.env scope.names []) s1.heap.objs.size X.env) fun e s' => RR (.ref s.heap.objs.size) s1.heap.objs.size (.error e) s') I3 (stat fr3) st3 go
   have hgY := hg s1.heap.objs.size fp s1 (upd H s.heap.objs.size (.lst []))
   have hiY := hi s1.heap.objs.size fp s1 (upd H s.heap.objs.size (.lst []))
   have heY := he s1.heap.objs.size fp s1 (upd H s.heap.objs.size (.lst []))
   rw [hY] at hgY hiY heY
   have nox : ∀ {P : Value → Shared → Prop} e s', Y.xe e s' → P e s' := fun e s' z => by subst hY; exact False.elim z
   have eA : Y.A = X.A := by rw [← hY]; rfl
   have eP : Y.prog = X.prog := by rw [← hY]; rfl
   have eW : Y.w = X.w := by rw [← hY]; rfl
   have eE : Y.env = compEnvC scope (clOf X.env scope.names []) s1.heap.objs.size X.env := by rw [← hY]; rfl
   rw [← eA, ← eP, ← eW, ← eE] at this ⊢
   refine thn this fun r s5 ⟨u, hr, h5⟩ => ?_
   subst hr
   refine thn h5 fun _ s6 ⟨x, H6, I6, rx, y6, st6, fr6⟩ => ?_
   have I6' := I6.pinned (stat fr6) (T.obj _ _ st6)
   refine wpAny_mono (hgY _ s6 (zaM cap σ) H6 x u _ I6' rx (hk _ _ _ _ (stp x H6 y6))) (fun _ s7 ⟨σ7, H7, I7, ⟨k1, k2⟩, q7⟩ => ?_) nox
   refine thn (hiY _ s7 σ7 H7 _ _ I7 q7) fun ok s8 ⟨H8, I8, q8⟩ => ?_
   have again : ∀ {H9 : Hp} {s9 : Shared} {σ9 : St} {ys' : List V}, Inv Y ([] ++ zdv fp s6.heap) σ9 H9 s9 → σ9.length = (zaM cap σ).length → (∀ (i : Nat) v, (zaM cap σ)[i]? = some (some v) → σ9[i]? = some (some v)) → (∃ m', m' < n ∧ W (i + 1) m' ys' H9) → ∃ m, m < n ∧ ∃ i ys H', Inv Y [] (zaM cap σ) H' s9 ∧ tn i s9.heap ∧ (∀ b ∈ fp, H' b = none) ∧ W i m ys H' := by
    rintro H9 s9 σ9 ys' I9 hl hw ⟨m', hm, w9⟩
    refine ⟨m', hm, i + 1, ys', H9, I9.unpinned.weak hl.symm hw, T.keep _ _ _ st6 fun b hb o e => (I9.pin (b, o) (List.mem_append_right _ (List.mem_append_right _ (zbn hb e)))).1, fun b hb => ?_, w9⟩
    obtain ⟨o, e, d⟩ := T.obj _ _ st6 b hb
    exact (I9.pin (b, o) (List.mem_append_right _ (List.mem_append_right _ (zbn hb e)))).2.1
   have kw : ∀ (i : Nat) v, (zaM cap σ)[i]? = some (some v) → σ7[i]? = some (some v) := fun i v e => by
    rw [k2 i ?_]
    ·exact e
    ·unfold zgx
     cases q : cap[i]? with
     | none => rfl
     | some o =>
      cases o with
      | none =>
       unfold zaM at e
       rw [List.getElem?_map, q] at e
       cases e
      | some j => rfl
   cases ok with
   | false =>
    rw [if_neg Bool.false_ne_true] at q8 ⊢
    exact again I8 k1 kw (hNN _ _ q8)
   | true =>
    rw [if_pos rfl] at q8 ⊢
    refine wpAny_mono (heY _ s8 σ7 H8 _ I8 q8) (fun u9 s9 ⟨y, H9, I9, ry, hD9, q9⟩ => ?_) nox
    refine wpAny_mono (mt_append (X := Y) _ s9 σ7 H9 (.ref s.heap.objs.size) [y] (.ref s.heap.objs.size) [u9] (fun _ H10 => NN (ys ++ [y]) H10) I9 rfl (.cons ry .nil) ⟨_, ys, y, rfl, rfl, hD9, hlen, q9⟩) (fun _ s10 ⟨_, H10, I10, _, q10⟩ => ?_) nox
    exact again I10 k1 kw (hNN _ _ q10)
 exact codeAny_compStart_list loop (T.self X.A 0 _ _ _ st4 loop)
theorem zdC {C : Addr} {H' : Hp} {s' : Shared} (I' : Inv X pins σ H' s') (fC : FpOk X pins H' C) {h' : Heap} (hs' : Heap.SameBut C s'.heap h') : Inv X pins σ H' { s' with heap := h' } := by
 obtain ⟨f0, f1, f2, f3, f4, f5⟩ := fC
 exact I'.turned (t' := s'.toks) (fun b o hb e => hs'.extBut b o hb e) f0 f1 f3 f4 f5
/-- a list comprehension of one clause -/
theorem za3 {tg elt iter : Expr} {ifs : List Expr} {pos : Pos} {wi : TI} {g : TG} {tt : TT} {te : TE} (c : CompOk X scope N' cap) (hc : X.calm = true) (hit : PI X tg iter wi)
  (hg : ∀ C ex s H, PG (za5 X scope N' C ex s H) tg g) (hk : GKp (zgx cap) g) (hi : ∀ C ex s H, PIfs (za5 X scope N' C ex s H) ifs tt) (he : ∀ C ex s H, PE (za5 X scope N' C ex s H) elt te)
  (hs : ∀ x, foldedSetIterable iter X.env x = pure x := by intro _; rfl) : PE X (.ListComp elt [⟨tg, iter, ifs, 0⟩] scope pos) (zcA cap wi g tt te) := by
 intro pins s σ H Q I h
 rw [eval_ListComp]
 refine wpAny_comprehension_free (use := none) rfl hs (zbJ (c.clos I)) c.kind c.names (thn (hit pins s σ H _ I h) fun v s1 h1 => thn h1 fun itv s2 h2 => ?_)
 obtain ⟨it, fp, tn, J, H2, e, I2, T, st2, f2, q⟩ := h2
 subst e
 refine zdJ c hc I2 T st2 f2 hg hk hi he q fun D C H' s' I' fC hn hq => ?_
 obtain ⟨m, hn⟩ := hn
 exact ⟨m, hn, fun h' hs' => ⟨.ref D, H', zdC I' fC hs', rfl, hq⟩⟩
/-- name = a list comprehension -/
theorem zco {i : Nat} {x : Str} {px spos : Pos} {tg elt iter : Expr} {ifs : List Expr} {pos : Pos} {wi : TI} {g : TG} {tt : TT} {te : TE} (hN : X.N.Nodup) (hx0 : X.N[i]? = some x) (hx : Loc X.env.scope x)
  (c : CompOk X scope N' cap) (hc : X.calm = true) (hit : PI X tg iter wi)
  (hg : ∀ C ex s H, PG (za5 X scope N' C ex s H) tg g) (hk : GKp (zgx cap) g) (hi : ∀ C ex s H, PIfs (za5 X scope N' C ex s H) ifs tt) (he : ∀ C ex s H, PE (za5 X scope N' C ex s H) elt te)
  (hsw : swapsWith (.ListComp elt [⟨tg, iter, ifs, 0⟩] scope pos) (some (.Name x px)) spos.line X.env = pure true := by rfl)
  (hs : ∀ x, foldedSetIterable iter X.env x = pure x := by intro _; rfl) (hf : X.fn x = true ∨ X.env.scope.names.lookup x = some .local := by first | exact .inl rfl | exact .inr rfl | assumption) : PS X (.Assign [.Name x px] (.ListComp elt [⟨tg, iter, ifs, 0⟩] scope pos) spos) (tAsg (zcA cap wi g tt te) (za2 i)) := by
 intro pins s σ H D0 I h
 rw [exec_Assign_Name_used _ _ _ _ hsw]
 refine wpAny_bind (wpAny_standAt (wpAny_bind ?_))
 show wpAny _ X.A (do let _ ← comprehension (.ListComp elt [⟨tg, iter, ifs, 0⟩] scope pos) scope X.env _ (newList []) false (eval iter X.env) (some (assign (.Name x px) X.env))) _ _ s
 refine wpAny_bind (wpAny_mono (wpAny_comprehension_free (use := some (assign (.Name x px) X.env)) (Q := fun _ s' => SP X pins D0 .next s') rfl hs (zbJ (c.clos I)) c.kind c.names
  (thn (hit pins s σ H _ I h) fun v s1 h1 => thn h1 fun itv s2 h2 => ?_)) (fun _ s' hq => wpAny_pure (wpAny_pure hq)) fun _ _ e => e)
 obtain ⟨it, fp, tn, J, H2, e, I2, T, st2, f2, q⟩ := h2
 subst e
 refine zdJ (Q := fun v H1 => za2 i v σ H1 D0.nx) c hc I2 T st2 f2 hg hk hi he q fun D C H' s' I' fC hn hq => ?_
 obtain ⟨m, hn⟩ := hn
 refine wpAny_assign_Name (zdL (v := .ref D) I' hN hx0 hx rfl (fun s'' I'' ⟨a, sb, ha⟩ => ?_) hf)
 have hne : C ≠ a := by
  rcases ha with z | z
  ·rw [z]; exact fC.2.1
  ·exact fun e => fC.2.2.2.2.1 x a z e.symm
 exact ⟨m, hn.sameBut sb hne, fun h' hs' => ⟨σ.set i (some (.ref D)), H', zdC I'' fC hs', hq⟩⟩
end
theorem zdu {K : PySem.W.Frag} {a D : Addr} {xs : List V} {g : TG} {tt : TT} {te : TE} {σ0 : St} {H1 : Hp} {R : Hp → Prop} (Pv : Nat → List V → Hp → Prop) (h0 : Pv 0 [] (upd H1 D (.lst [])))
  (hl : ∀ i ys H, i ≤ xs.length → Pv i ys H → SqL K H a xs ∧ H D = some (.lst ys) ∧ ys.length ≤ i) (hz : xs.length ≤ sizeLine)
  (hs : ∀ i x ys H, xs[i]? = some x → Pv i ys H → g x σ0 H fun σ4 H4 => tt σ4 H4 fun b H5 => if b = true then te σ4 H5 fun y H6 => H6 D = some (.lst ys) ∧ Pv (i + 1) (ys ++ [y]) (upd H6 D (.lst (ys ++ [y]))) else Pv (i + 1) ys H5)
  (hd : ∀ ys H, Pv xs.length ys H → R H) :
  ∃ W : Nat → Nat → List V → Hp → Prop, (∃ m, W 0 m [] (upd H1 D (.lst []))) ∧ ∀ i m ys H2, W i m ys H2 → H2 D = some (.lst ys) ∧
   (((Itl K a).stop i H2 ∧ R H2) ∨ ((Itl K a).go i H2 ∧ ys.length < sizeLine ∧ ∃ N : List V → Hp → Prop, (∀ ys' H', N ys' H' → ∃ m', m' < m ∧ W (i + 1) m' ys' H') ∧ ∀ x H3, (Itl K a).yld i H2 x H3 → g x σ0 H3 fun σ4 H4 => tt σ4 H4 fun b H5 =>
    if b = true then te σ4 H5 fun y H6 => H6 D = some (.lst ys) ∧ N (ys ++ [y]) (upd H6 D (.lst (ys ++ [y]))) else N ys H5)) := by
 refine ⟨fun i m ys H => m = xs.length - i ∧ i ≤ xs.length ∧ Pv i ys H, ⟨xs.length, by simp, Nat.zero_le _, h0⟩, ?_⟩
 rintro i m ys H2 ⟨rfl, hi, p⟩
 obtain ⟨q, hD, hly⟩ := hl i ys H2 hi p
 refine ⟨hD, ?_⟩
 by_cases hlt : i < xs.length
 ·refine .inr ⟨⟨xs, xs[i], q, by simp [hlt]⟩, by omega, Pv (i + 1), fun ys' H' p' => ⟨xs.length - (i + 1), by omega, rfl, hlt, p'⟩, fun x H3 y => ?_⟩
  obtain ⟨e, y⟩ := y
  subst e
  exact hs i x ys _ (y xs q) p
 ·have e : i = xs.length := by omega
  subst e
  exact .inl ⟨⟨xs, q, Nat.le_refl _⟩, hd ys H2 p⟩
theorem zge {K : PySem.W.Frag} {a D : Addr} {xs : List V} {g : TG} {tt : TT} {te : TE} {σ0 : St} {H1 : Hp} {R : Hp → Prop} (Pv : Nat → List V → Hp → Prop) (h0 : Pv 0 [] (upd H1 D (.lst [])))
  (hl : ∀ i ys H, i ≤ xs.length → Pv i ys H → SqT K H a xs ∧ H D = some (.lst ys) ∧ ys.length ≤ i) (hz : xs.length ≤ sizeLine)
  (hs : ∀ i x ys H, xs[i]? = some x → Pv i ys H → g x σ0 H fun σ4 H4 => tt σ4 H4 fun b H5 => if b = true then te σ4 H5 fun y H6 => H6 D = some (.lst ys) ∧ Pv (i + 1) (ys ++ [y]) (upd H6 D (.lst (ys ++ [y]))) else Pv (i + 1) ys H5)
  (hd : ∀ ys H, Pv xs.length ys H → R H) :
  ∃ W : Nat → Nat → List V → Hp → Prop, (∃ m, W 0 m [] (upd H1 D (.lst []))) ∧ ∀ i m ys H2, W i m ys H2 → H2 D = some (.lst ys) ∧
   (((Itt K a).stop i H2 ∧ R H2) ∨ ((Itt K a).go i H2 ∧ ys.length < sizeLine ∧ ∃ N : List V → Hp → Prop, (∀ ys' H', N ys' H' → ∃ m', m' < m ∧ W (i + 1) m' ys' H') ∧ ∀ x H3, (Itt K a).yld i H2 x H3 → g x σ0 H3 fun σ4 H4 => tt σ4 H4 fun b H5 =>
    if b = true then te σ4 H5 fun y H6 => H6 D = some (.lst ys) ∧ N (ys ++ [y]) (upd H6 D (.lst (ys ++ [y]))) else N ys H5)) := by
 refine ⟨fun i m ys H => m = xs.length - i ∧ i ≤ xs.length ∧ Pv i ys H, ⟨xs.length, by simp, Nat.zero_le _, h0⟩, ?_⟩
 rintro i m ys H2 ⟨rfl, hi, p⟩
 obtain ⟨q, hD, hly⟩ := hl i ys H2 hi p
 refine ⟨hD, ?_⟩
 by_cases hlt : i < xs.length
 ·refine .inr ⟨⟨xs, xs[i], q, by simp [hlt]⟩, by omega, Pv (i + 1), fun ys' H' p' => ⟨xs.length - (i + 1), by omega, rfl, hlt, p'⟩, fun x H3 y => ?_⟩
  obtain ⟨e, y⟩ := y
  subst e
  exact hs i x ys _ (y xs q) p
 ·have e : i = xs.length := by omega
  subst e
  exact .inl ⟨⟨xs, q, Nat.le_refl _⟩, hd ys H2 p⟩
theorem zeL {lo : Int} {n : Nat} {D : Addr} {g : TG} {tt : TT} {te : TE} {σ0 : St} {H1 : Hp} {R : Hp → Prop} (Pv : Nat → List V → Hp → Prop) (h0 : Pv 0 [] (upd H1 D (.lst [])))
  (hl : ∀ i ys H, i ≤ n → Pv i ys H → H D = some (.lst ys) ∧ ys.length ≤ i) (hz : n ≤ sizeLine)
  (hs : ∀ i ys H, i < n → Pv i ys H → g (.int (lo + i)) σ0 H fun σ4 H4 => tt σ4 H4 fun b H5 => if b = true then te σ4 H5 fun y H6 => H6 D = some (.lst ys) ∧ Pv (i + 1) (ys ++ [y]) (upd H6 D (.lst (ys ++ [y]))) else Pv (i + 1) ys H5)
  (hd : ∀ ys H, Pv n ys H → R H) :
  ∃ W : Nat → Nat → List V → Hp → Prop, (∃ m, W 0 m [] (upd H1 D (.lst []))) ∧ ∀ i m ys H2, W i m ys H2 → H2 D = some (.lst ys) ∧
   (((Itr lo n).stop i H2 ∧ R H2) ∨ ((Itr lo n).go i H2 ∧ ys.length < sizeLine ∧ ∃ N : List V → Hp → Prop, (∀ ys' H', N ys' H' → ∃ m', m' < m ∧ W (i + 1) m' ys' H') ∧ ∀ x H3, (Itr lo n).yld i H2 x H3 → g x σ0 H3 fun σ4 H4 => tt σ4 H4 fun b H5 =>
    if b = true then te σ4 H5 fun y H6 => H6 D = some (.lst ys) ∧ N (ys ++ [y]) (upd H6 D (.lst (ys ++ [y]))) else N ys H5)) := by
 refine ⟨fun i m ys H => m = n - i ∧ i ≤ n ∧ Pv i ys H, ⟨n, by simp, Nat.zero_le _, h0⟩, ?_⟩
 rintro i m ys H2 ⟨rfl, hi, p⟩
 obtain ⟨hD, hly⟩ := hl i ys H2 hi p
 refine ⟨hD, ?_⟩
 by_cases hlt : i < n
 ·refine .inr ⟨hlt, by omega, Pv (i + 1), fun ys' H' p' => ⟨n - (i + 1), by omega, rfl, hlt, p'⟩, fun x H3 y => ?_⟩
  obtain ⟨e, y⟩ := y
  subst e y
  exact hs i ys _ hlt p
 ·have e : i = n := by omega
  subst e
  exact .inl ⟨Nat.le_refl _, hd ys H2 p⟩
end L2
set_option Elab.async false
set_option linter.all false
set_option maxRecDepth 100000
namespace L2
open PySem PySem.Spec PyProof.Rows
def zgu (i j : Int) : Prop := 0 < j ∧ j ≤ 10 ^ 70
section
variable {X : Cx}
theorem op_fdivB : OpR X (binaryOp .FloorDiv) (rI zgu fun i j => .int (i / j)) := opI fun i j _ _ _ _ _ hc q => by
 have h1 : (0 : Int) < j := hc.1
 have h2 : j ≤ 10 ^ 70 := hc.2
 refine floordiv_int (by omega) ?_ (.inl (PyProof.noPylong_of_log2 ?_))
 ·rw [Int.fdiv_eq_ediv_of_nonneg _ (by omega)]
  exact q
 ·have h3 : j.natAbs < 2 ^ 300 := by
   have : (j.natAbs : Int) = j := by omega
   have h4 : (10 : Int) ^ 70 < 2 ^ 300 := by decide
   omega
  have h5 : j.natAbs.log2 < 300 := (Nat.log2_lt (by omega)).mpr h3
  omega
/-- isinstance(x, C), C a built-in type -/
theorem call_isinst : zbr X (.builtin "isinstance") (fun xs H Q => ∃ x n t b, xs = [x, .ty n] ∧ TyOf X.K H x t ∧ PySem.W.kitOne X.K t (.type n) = some b ∧ Q (.bl b) H) := by
 intro pins s σ H xs us Q I r h
 obtain ⟨x, n, t, b, rfl, ty, e, q⟩ := h
 obtain ⟨u, v, rfl, ru, rv⟩ := Vals.two r
 cases rv
 exact zfq I ru ty e fun tk => ⟨.bl b, H, I.tok _, rfl, q⟩
end
def eqVs (xs ys : List V) : Bool := xs.length == ys.length && (xs.zip ys).all fun p => eqV p.1 p.2
theorem range_all_zip : ∀ (xs ys : List V), xs.length = ys.length → ((List.range xs.length).all fun j => eqV (xs.getD j .non) (ys.getD j .non)) = (xs.zip ys).all fun p => eqV p.1 p.2
 | [], [], _ => rfl
 | x :: xs, y :: ys, h => by
  have ih := range_all_zip xs ys (by simpa using h)
  rw [List.length_cons, List.range_succ_eq_map, List.all_cons, List.all_map, List.zip_cons_cons, List.all_cons, ← ih]
  rfl
 | [], _ :: _, h => by simp at h
 | _ :: _, [], h => by simp at h
theorem range_all_zip' : ∀ (xs ys : List V), ((List.range (min xs.length ys.length)).all fun j => eqV (xs.getD j .non) (ys.getD j .non)) = (xs.zip ys).all fun p => eqV p.1 p.2
 | [], ys => by simp
 | x :: xs, [] => by simp
 | x :: xs, y :: ys => by
  have ih := range_all_zip' xs ys
  rw [List.length_cons, List.length_cons, Nat.succ_min_succ, Nat.succ_eq_add_one, List.range_succ_eq_map, List.all_cons, List.all_map, List.zip_cons_cons, List.all_cons, ← ih]
  rfl
def rEqD (K : PySem.W.Frag) (neg : Bool) : R2 := fun x y H Q => ∃ l b xs ys, x = .ref l ∧ y = .ref b ∧ ((SqL K H l xs ∧ SqL K H b ys) ∨ (SqT K H l xs ∧ SqT K H b ys)) ∧ xs.all flatV = true ∧ ys.all flatV = true ∧
 Q (.bl (if neg then !eqVs xs ys else eqVs xs ys)) H
section
variable {X : Cx}
theorem zcI {A : Around} {s : Shared} {xs ys : List V} {us ws : List Value} (r : Vals xs us) (q : Vals ys ws) (fx : xs.all flatV = true) (fy : ys.all flatV = true) :
  ∀ j (h1 : j < us.toArray.size) (h2 : j < ws.toArray.size), SeqAt.EqAt A s us.toArray[j] ws.toArray[j] (eqV (xs.getD j .non) (ys.getD j .non)) := by
 intro j h1 h2
 have l1 := r.length
 have l2 := q.length
 simp only [List.size_toArray] at h1 h2
 have hx : xs[j]? = some xs[j] := List.getElem?_eq_getElem (by omega)
 have hy : ys[j]? = some ys[j] := List.getElem?_eq_getElem (by omega)
 obtain ⟨u, eu, ru⟩ := r.get hx
 obtain ⟨v, ev, rv⟩ := q.get hy
 have e1 : us.toArray[j] = u := by
  have := (List.getElem?_eq_some_iff.mp eu).2
  simpa using this
 have e2 : ws.toArray[j] = v := by
  have := (List.getElem?_eq_some_iff.mp ev).2
  simpa using this
 have e3 : xs.getD j .non = xs[j] := by rw [List.getD_eq_getElem?_getD, hx]; rfl
 have e4 : ys.getD j .non = ys[j] := by rw [List.getD_eq_getElem?_getD, hy]; rfl
 rw [e1, e2, e3, e4]
 exact zg9 ru rv (List.all_eq_true.mp fx _ (List.getElem_mem _)) (List.all_eq_true.mp fy _ (List.getElem_mem _))
theorem ziA (hu : X.A.units + 1 < cLine) : OpR X (compareOp .NotEq) (rEqD X.K true) := by
 intro pins s σ H x y v u Q I rx ry h
 obtain ⟨l, b, xs, ys, rfl, rfl, hq, fx, fy, q⟩ := h
 cases rx
 cases ry
 rcases hq with ⟨h1, h2⟩ | ⟨h1, h2⟩
 ·obtain ⟨us, r1, p1, z1⟩ := I.list h1
  obtain ⟨ws, r2, p2, z2⟩ := I.list h2
  have l1 := r1.length
  have l2 := r2.length
  by_cases hl : xs.length = ys.length
  ·refine SeqAt.RcNeAt.lists p1.isList p2.isList (by simp; omega) (by omega) (zcI r1 r2 fx fy) _ _ _ _ ⟨.bl _, H, I, rfl, ?_⟩
   have e : (List.range us.toArray.size).all (fun j => eqV (xs.getD j .non) (ys.getD j .non)) = eqVs xs ys := by
    unfold eqVs
    rw [List.size_toArray, ← l1, range_all_zip xs ys hl, hl]
    simp
   rw [e]
   exact q
  ·refine SeqAt.RcNeAt.lists_lengths p1.isList p2.isList (by simp; omega) (by omega) _ _ _ _ ⟨.bl _, H, I, rfl, ?_⟩
   have e : eqVs xs ys = false := by unfold eqVs; simp [hl]
   have q : Q (.bl (!eqVs xs ys)) H := q
   rw [e] at q
   exact q
 ·obtain ⟨us, r1, p1, z1⟩ := I.tuple h1
  obtain ⟨ws, r2, p2, z2⟩ := I.tuple h2
  have l1 := r1.length
  have l2 := r2.length
  refine SeqAt.RcNeAt.tuples p1 p2 (by omega) (zcI r1 r2 fx fy) _ _ _ _ ⟨.bl _, H, I, rfl, ?_⟩
  have e : ((List.range (min us.toArray.size ws.toArray.size)).all (fun j => eqV (xs.getD j .non) (ys.getD j .non)) && us.toArray.size == ws.toArray.size) = eqVs xs ys := by
   unfold eqVs
   rw [List.size_toArray, List.size_toArray, ← l1, ← l2, range_all_zip' xs ys, Bool.and_comm]
  rw [e]
  exact q
end
/-- the items of a list or tuple that stands at p -/
def seqV (H : Hp) (p : Addr) : Option (List V) := match H p with
 | some (.lst xs) => some xs
 | some (.tup xs) => some xs
 | some (.frz _ (.lst xs)) => some xs
 | _ => none
theorem zcJ {K : PySem.W.Frag} {H : Hp} {p : Addr} {xs : List V} (h : seqV H p = some xs) : SqL K H p xs ∨ SqT K H p xs := by
 unfold seqV at h
 split at h
 ·rename_i e; cases h; exact .inl (.of e)
 ·rename_i e; cases h; exact .inr (.of e)
 ·rename_i o ys e; cases h; exact .inl (.inl (.inr ⟨o, e⟩))
 ·cases h
def rIxF : R2 := fun x y H Q => ∃ p i xs v, x = .ref p ∧ y = .int i ∧ seqV H p = some xs ∧ atI xs i = some v ∧ Q v H
/-- the type of a value -/
def tyF (x : V) (H : Hp) : Option String := match x with
 | .non => some "NoneType"
 | .bl _ => some "bool"
 | .int _ => some "int"
 | .str _ => some "str"
 | .ref a => match H a with
  | some (.lst _) => some "list"
  | some (.frz _ (.lst _)) => some "list"
  | some (.tup _) => some "tuple"
  | some (.dK _) => some "dict"
  | some (.dT _) => some "dict"
  | _ => none
 | _ => none
def isTy (t n : String) : Bool := t == n || (t == "bool" && n == "int")
theorem ziz {K : PySem.W.Frag} {x : V} {H : Hp} {t : String} (h : tyF x H = some t) : TyOf K H x (.type t) ∧ (t = "NoneType" ∨ t = "bool" ∨ t = "int" ∨ t = "str" ∨ t = "list" ∨ t = "tuple" ∨ t = "dict") := by
 unfold tyF at h
 split at h
 ·cases h; exact ⟨.non, by simp⟩
 ·cases h; exact ⟨.bl _, by simp⟩
 ·cases h; exact ⟨.int _, by simp⟩
 ·cases h; exact ⟨.str _, by simp⟩
 ·split at h
  ·rename_i e; cases h; exact ⟨.lst e, by simp⟩
  ·rename_i e; cases h; exact ⟨.frz e, by simp⟩
  ·rename_i e; cases h; exact ⟨.tup e, by simp⟩
  ·rename_i e; cases h; exact ⟨.dK e, by simp⟩
  ·rename_i e; cases h; exact ⟨.dT e, by simp⟩
  ·cases h
 ·cases h
theorem zfB {K : PySem.W.Frag} {t n : String} (h : t = "NoneType" ∨ t = "bool" ∨ t = "int" ∨ t = "str" ∨ t = "list" ∨ t = "tuple" ∨ t = "dict") (hn : n = "bool" ∨ n = "int" ∨ n = "str" ∨ n = "list" ∨ n = "tuple" ∨ n = "dict") :
  PySem.W.kitOne K (.type t) (.type n) = some (isTy t n) := by
 rcases h with rfl | rfl | rfl | rfl | rfl | rfl | rfl <;> rcases hn with rfl | rfl | rfl | rfl | rfl | rfl <;> rfl
def lenF (x : V) (H : Hp) : Option Nat := match x with
 | .str y => if y.length ≤ sizeLine then some y.length else none
 | .ref p => match H p with
  | some (.lst xs) => some xs.length
  | some (.tup xs) => some xs.length
  | some (.frz _ (.lst xs)) => some xs.length
  | _ => none
 | _ => none
theorem zhU {K : PySem.W.Frag} {x : V} {H : Hp} {n : Nat} (h : lenF x H = some n) : LenV K x H n := by
 unfold lenF at h
 split at h
 ·split at h
  ·rename_i z; cases h; exact ⟨z, rfl⟩
  ·cases h
 ·split at h
  ·rename_i e; cases h; exact .inl ⟨_, .of e, rfl⟩
  ·rename_i e; cases h; exact .inr ⟨_, .of e, rfl⟩
  ·rename_i o xs e; cases h; exact .inl ⟨_, .inl (.inr ⟨o, e⟩), rfl⟩
  ·cases h
 ·cases h
/-- two of one kind, both lists or both tuples -/
def zcY (H : Hp) (p : Addr) : Option Bool := match H p with
 | some (.lst _) => some true
 | some (.frz _ (.lst _)) => some true
 | some (.tup _) => some false
 | _ => none
theorem zbP {K : PySem.W.Frag} {H : Hp} {p : Addr} {xs : List V} (h : seqV H p = some xs) (k : zcY H p = some true) : SqL K H p xs := by
 rcases zcJ (K := K) h with q | q
 ·exact q
 ·unfold seqV at h
  unfold zcY at k
  split at h
  ·rename_i e; cases h; exact .of e
  ·rename_i e; rw [e] at k; cases k
  ·rename_i o ys e; cases h; exact .inl (.inr ⟨o, e⟩)
  ·cases h
theorem ze5 {K : PySem.W.Frag} {H : Hp} {p : Addr} {xs : List V} (h : seqV H p = some xs) (k : zcY H p = some false) : SqT K H p xs := by
 unfold seqV at h
 unfold zcY at k
 split at h
 ·rename_i e; rw [e] at k; cases k
 ·rename_i e; cases h; exact .of e
 ·rename_i o ys e; rw [e] at k; cases k
 ·cases h
def rEqF (neg : Bool) : R2 := fun x y H Q => ∃ l b k xs ys, x = .ref l ∧ y = .ref b ∧ seqV H l = some xs ∧ seqV H b = some ys ∧ zcY H l = some k ∧ zcY H b = some k ∧ xs.all flatV = true ∧ ys.all flatV = true ∧
 Q (.bl (if neg then !eqVs xs ys else eqVs xs ys)) H
theorem ziO {K : PySem.W.Frag} {neg : Bool} {x y : V} {H : Hp} {Q : VK} (h : rEqF neg x y H Q) : rEqD K neg x y H Q := by
 obtain ⟨l, b, k, xs, ys, e1, e2, h1, h2, k1, k2, r⟩ := h
 cases k with
 | true => exact ⟨l, b, xs, ys, e1, e2, .inl ⟨zbP h1 k1, zbP h2 k2⟩, r⟩
 | false => exact ⟨l, b, xs, ys, e1, e2, .inr ⟨ze5 h1 k1, ze5 h2 k2⟩, r⟩
section
variable {X : Cx}
theorem ix_F : IxR X rIxF := by
 intro value slice pins s σ H x y v u Q I rx ry h hs
 obtain ⟨p, i, xs, z, e1, e2, hq, he, q⟩ := h
 rcases zcJ (K := X.K) hq with g | g
 ·exact ix_list value slice pins s σ H x y v u Q I rx ry ⟨p, xs, i, z, e1, e2, g, he, q⟩ hs
 ·exact ix_tup value slice pins s σ H x y v u Q I rx ry ⟨p, xs, i, z, e1, e2, g, he, q⟩ hs
theorem call_isF : zbr X (.builtin "isinstance") (fun xs H Q => ∃ x n t, xs = [x, .ty n] ∧ tyF x H = some t ∧ (n = "bool" ∨ n = "int" ∨ n = "str" ∨ n = "list" ∨ n = "tuple" ∨ n = "dict") ∧ Q (.bl (isTy t n)) H) := by
 intro pins s σ H xs us Q I r h
 obtain ⟨x, n, t, e, ht, hn, q⟩ := h
 obtain ⟨ty, h7⟩ := ziz (K := X.K) ht
 exact call_isinst pins s σ H xs us Q I r ⟨x, n, _, _, e, ty, zfB h7 hn, q⟩
theorem call_lenF : zbr X (.builtin "len") (fun xs H Q => ∃ x n, xs = [x] ∧ lenF x H = some n ∧ Q (.int n) H) := by
 intro pins s σ H xs us Q I r h
 obtain ⟨x, n, e, hl, q⟩ := h
 exact call_len pins s σ H xs us Q I r ⟨x, n, e, zhU hl, q⟩
theorem zh7 (hu : X.A.units + 1 < cLine) : OpR X (compareOp .NotEq) (rEqF true) := fun pins s σ H x y v u Q I rx ry h => ziA hu pins s σ H x y v u Q I rx ry (ziO h)
end
theorem zgp {i j : Int} : scal (.int i) (.int j) = true := rfl
theorem zhL {i j : Bool} : scal (.bl i) (.bl j) = true := rfl
theorem zgb {i j : Str} : scal (.str i) (.str j) = true := rfl
theorem zda {α : Type} {x : α} {r : List α} : atI (x :: r) 0 = some x := zaF (j := 0) rfl
theorem zbu {α : Type} {x y : α} {r : List α} : atI (x :: y :: r) 1 = some y := zaF (j := 1) rfl
theorem zeQ {α : Type} {x y z : α} {r : List α} : atI (x :: y :: z :: r) 2 = some z := zaF (j := 2) rfl
theorem zeE {α : Type} {x y z w : α} {r : List α} : atI (x :: y :: z :: w :: r) 3 = some w := zaF (j := 3) rfl
theorem atI_4 {α : Type} {x y z w v : α} {r : List α} : atI (x :: y :: z :: w :: v :: r) 4 = some v := zaF (j := 4) rfl
theorem isTys : isTy "NoneType" "bool" = false ∧ isTy "NoneType" "int" = false ∧ isTy "NoneType" "str" = false ∧ isTy "NoneType" "list" = false ∧ isTy "NoneType" "tuple" = false ∧ isTy "NoneType" "dict" = false ∧ isTy "bool" "bool" = true ∧ isTy "bool" "int" = true ∧ isTy "bool" "str" = false ∧ isTy "bool" "list" = false ∧ isTy "bool" "tuple" = false ∧ isTy "bool" "dict" = false ∧ isTy "int" "bool" = false ∧ isTy "int" "int" = true ∧ isTy "int" "str" = false ∧ isTy "int" "list" = false ∧ isTy "int" "tuple" = false ∧ isTy "int" "dict" = false ∧ isTy "str" "bool" = false ∧ isTy "str" "int" = false ∧ isTy "str" "str" = true ∧ isTy "str" "list" = false ∧ isTy "str" "tuple" = false ∧ isTy "str" "dict" = false ∧ isTy "list" "bool" = false ∧ isTy "list" "int" = false ∧ isTy "list" "str" = false ∧ isTy "list" "list" = true ∧ isTy "list" "tuple" = false ∧ isTy "list" "dict" = false ∧ isTy "tuple" "bool" = false ∧ isTy "tuple" "int" = false ∧ isTy "tuple" "str" = false ∧ isTy "tuple" "list" = false ∧ isTy "tuple" "tuple" = true ∧ isTy "tuple" "dict" = false ∧ isTy "dict" "bool" = false ∧ isTy "dict" "int" = false ∧ isTy "dict" "str" = false ∧ isTy "dict" "list" = false ∧ isTy "dict" "tuple" = false ∧ isTy "dict" "dict" = true := by decide
def tyO : Option HO → Option String
 | some (.lst _) => some "list"
 | some (.frz _ (.lst _)) => some "list"
 | some (.tup _) => some "tuple"
 | some (.dK _) => some "dict"
 | some (.dT _) => some "dict"
 | _ => none
def lenO : Option HO → Option Nat
 | some (.lst xs) => some xs.length
 | some (.tup xs) => some xs.length
 | some (.frz _ (.lst xs)) => some xs.length
 | _ => none
def seqO : Option HO → Option (List V)
 | some (.lst xs) => some xs
 | some (.tup xs) => some xs
 | some (.frz _ (.lst xs)) => some xs
 | _ => none
def kindO : Option HO → Option Bool
 | some (.lst _) => some true
 | some (.frz _ (.lst _)) => some true
 | some (.tup _) => some false
 | _ => none
theorem zhM {a : Addr} {H : Hp} : tyF (.ref a) H = tyO (H a) := rfl
theorem zhx {i : Int} {H : Hp} : tyF (.int i) H = some "int" := rfl
theorem ziK {i : Bool} {H : Hp} : tyF (.bl i) H = some "bool" := rfl
theorem zhV {i : Str} {H : Hp} : tyF (.str i) H = some "str" := rfl
theorem zhS {H : Hp} : tyF .non H = some "NoneType" := rfl
theorem zgP {a : Addr} {H : Hp} : lenF (.ref a) H = lenO (H a) := rfl
theorem zht {a : Addr} {H : Hp} : seqV H a = seqO (H a) := rfl
theorem zgf {a : Addr} {H : Hp} : zcY H a = kindO (H a) := rfl
theorem zhp {xs : List V} : tyO (some (.lst xs)) = some "list" := rfl
theorem zhQ {o : Obj} {xs : List V} : tyO (some (.frz o (.lst xs))) = some "list" := rfl
theorem zhG {xs : List V} : tyO (some (.tup xs)) = some "tuple" := rfl
theorem zh4 {xs} : tyO (some (.dK xs)) = some "dict" := rfl
theorem zdd {xs : List V} : lenO (some (.lst xs)) = some xs.length := rfl
theorem zgZ {o : Obj} {xs : List V} : lenO (some (.frz o (.lst xs))) = some xs.length := rfl
theorem zgi {xs : List V} : lenO (some (.tup xs)) = some xs.length := rfl
theorem zgM {xs : List V} : seqO (some (.lst xs)) = some xs := rfl
theorem zf7 {o : Obj} {xs : List V} : seqO (some (.frz o (.lst xs))) = some xs := rfl
theorem zgF {xs : List V} : seqO (some (.tup xs)) = some xs := rfl
theorem zfI {xs : List V} : kindO (some (.lst xs)) = some true := rfl
theorem zfD {o : Obj} {xs : List V} : kindO (some (.frz o (.lst xs))) = some true := rfl
theorem zfS {xs : List V} : kindO (some (.tup xs)) = some false := rfl
theorem zab {H : Hp} {p q : Addr} {o u : HO} (hq : H q = some o) (hp : H p = none) : upd H p u q = some o := by rw [zaj (zaw hq hp)]; exact hq
theorem Same.laid {H : Hp} {p : Addr} {u : HO} (hp : H p = none) : Same H (upd H p u) := fun _ _ h => zab h hp
theorem Same.step {H H1 : Hp} {p : Addr} {u : HO} (s : Same H H1) (hp : H1 p = none) : Same H (upd H1 p u) := s.trans (.laid hp)
theorem zay {α : Type} {f : α → V} {l : List α} {i : Nat} {x : V} (h : (l.map f)[i]? = some x) : ∃ z, l[i]? = some z ∧ x = f z := by
 rw [List.getElem?_map] at h
 cases e : l[i]? with
 | none => rw [e] at h; cases h
 | some z => rw [e] at h; exact ⟨z, rfl, (Option.some.inj h).symm⟩
end L2
set_option Elab.async false
set_option linter.all false
set_option maxRecDepth 100000
namespace L2
open PySem PySem.Spec PyProof.Rows
section
variable {prog : Program} {w : World} {A : Around} {E : Value → Shared → Prop} {s : Shared}
end
section
variable {X : Cx} {tg : Expr}
end
end L2
set_option Elab.async false
set_option linter.all false
set_option maxRecDepth 100000
namespace L2
open PySem PySem.Spec PyProof.Rows
def Its (z : Str) : It := ⟨fun i _ => i < z.cps.size, fun i H x H' => H' = H ∧ ∃ c, z.cps[i]? = some c ∧ x = .str ⟨#[c]⟩, fun i _ => z.cps.size ≤ i⟩
theorem zgs {P : Program} {w : World} {K : PySem.W.Frag} {tg : Expr} (it : Addr) (z : Str) (t : Tok) : Turn P w K tg (Its z) [it] it (fun i h => h.IsStrIter it "str_ascii_iterator" z t i) where
 mem := by simp
 obj := fun i h st b hb => by
  have e : b = it := by simpa using hb
  subst e
  obtain ⟨o, e, c, d⟩ := st
  exact ⟨o, e, fun v z => by rw [d] at z; cases z⟩
 keep := fun i h h' st k => let ⟨o, ho, r⟩ := st; ⟨o, k it (by simp) o ho, r⟩
 item := by
  intro X hP hw hK hc i pins s σ H E I hf st hg
  subst hP hw hK
  obtain ⟨f0, f1, f2, f3, f4, f5⟩ := hf it (by simp)
  have hi : i < z.cps.size := hg
  refine (Walks.strAscii (prog := X.prog) (w := X.w) (I.ok.hd hc) it z t).item i s _ _ hi st fun v h' tk hv st' kk => ?_
  obtain ⟨c, u, hcu, rfl⟩ := hv
  have I1 : Inv X pins σ H { s with heap := h', toks := tk } := I.turned (fun b o hb e => kk b o (by simpa using hb) e) f0 f1 f3 f4 f5
  obtain ⟨o, e1, e2, e3⟩ := id st'
  exact ⟨_, rfl, zgR (s := { s with heap := h', toks := tk }) e1 e2 e3 (by decide) ⟨.str ⟨#[c]⟩, H, I1, ⟨u, rfl⟩, ⟨rfl, c, hcu, rfl⟩, st', fun b hb => (hf b hb).1⟩⟩
 done := by
  intro X hP hw hK hc i pins s σ H E I hf st hg
  subst hP hw hK
  obtain ⟨f0, f1, f2, f3, f4, f5⟩ := hf it (by simp)
  have hi : z.cps.size ≤ i := hg
  exact wpAny_pyNext_ascii_end (I.ok.hd hc) st (by simp; omega) fun h' eb => ⟨rfl, I.turned (t' := s.toks) (fun b o hb e => eb b o hb e) f0 f1 f3 f4 f5⟩
 self := fun _ _ _ _ _ st h => wpAny_pyIter_striter_ascii st h
section
variable {X : Cx} {tg : Expr}
def iStr (tl : TE) : TI := fun σ H R => tl σ H fun x H1 => ∃ z, x = .str z ∧ z.cps.all (· < 128) = true ∧ R (Its z) H1
theorem zg2 {l : Expr} {tl : TE} (hl : PE X l tl) : PI X tg l (iStr tl) := by
 intro pins s σ H R I h
 refine thn (hl pins s σ H _ I h) fun v s1 ⟨x, H1, I1, r1, q1⟩ => ?_
 obtain ⟨z, e, ha, q⟩ := q1
 subst e
 obtain ⟨t, rfl⟩ := r1
 refine wpAny_pyIter_ascii ha ?_
 refine ⟨s1.heap.objs.size, [s1.heap.objs.size], _, _, H1, rfl, I1.kept (t' := s1.toks) fun b o e => Heap.get?_push_of_some _ e, zgs _ z t, ⟨_, Heap.get?_push_size _ rfl, rfl, rfl⟩, fun b hb => ?_, q⟩
 have e : b = s1.heap.objs.size := by simpa using hb
 subst e
 exact I1.fpOk (Nat.le_refl _) (I1.hok.fresh (Nat.le_refl _))
def rSlS : V → Option Int → Option Int → Hp → VK → Prop := fun x lo hi H Q => ∃ z, x = .str z ∧ z.length ≤ sizeLine ∧ Q (.str (Txt.slice z lo hi)) H
theorem sl_str : SlR X rSlS := by
 intro pins s σ H x v vl vu lo hi sl Q I rx hs pl pu h
 obtain ⟨z, rfl, hz, q⟩ := h
 obtain ⟨t, rfl⟩ := rx
 refine ⟨"str", _, F.slot_str_getitem.lookup, typeIs_str _ _ _, ?_⟩
 cases pl with
 | none =>
  cases pu with
  | none => exact wpAny_getItem_str_slice (l := none) (u := none) (st := none) hs rfl (post_val_or_str ⟨Nat.le_trans (Txt.slice_le z _ _) hz, fun t' k => ⟨.str _, H, I.tok _, ⟨_, rfl⟩, q⟩⟩)
  | int j uj => exact wpAny_getItem_str_slice (l := none) (u := some (j, uj)) (st := none) hs rfl (post_val_or_str ⟨Nat.le_trans (Txt.slice_le z _ _) hz, fun t' k => ⟨.str _, H, I.tok _, ⟨_, rfl⟩, q⟩⟩)
 | int i ui =>
  cases pu with
  | none => exact wpAny_getItem_str_slice (l := some (i, ui)) (u := none) (st := none) hs rfl (post_val_or_str ⟨Nat.le_trans (Txt.slice_le z _ _) hz, fun t' k => ⟨.str _, H, I.tok _, ⟨_, rfl⟩, q⟩⟩)
  | int j uj => exact wpAny_getItem_str_slice (l := some (i, ui)) (u := some (j, uj)) (st := none) hs rfl (post_val_or_str ⟨Nat.le_trans (Txt.slice_le z _ _) hz, fun t' k => ⟨.str _, H, I.tok _, ⟨_, rfl⟩, q⟩⟩)
theorem zeX {zs : List Str} : ∀ {us : List Value}, Vals (zs.map V.str) us → StrsAre us zs := by
 induction zs with
 | nil => intro us r; cases r; exact .nil
 | cons z zs ih =>
  intro us r
  cases r with
  | cons r1 r2 =>
   obtain ⟨t, e⟩ := r1
   subst e
   exact .cons z t (ih r2)
def rJoin : V → List V → Hp → VK → Prop := fun x xs H Q => ∃ sep l zs, x = .str sep ∧ xs = [.ref l] ∧ H l = some (.lst (zs.map V.str)) ∧ (zs.map (·.length)).sum + zs.length * sep.length ≤ 16777216 ∧ Q (.str (Txt.join sep zs)) H
theorem mt_join : MtR X "str.join" rJoin := by
 intro pins s σ H x xs v us Q I rx rs h
 obtain ⟨sep, l, zs, rfl, rfl, hl, hz, q⟩ := h
 obtain ⟨t, rfl⟩ := rx
 obtain ⟨u, rfl, ru⟩ := rs.one
 cases ru
 obtain ⟨its, r, pl, _⟩ := I.list (.of hl)
 exact join_list pl.isList (by simpa using zeX r) hz fun t' k => ⟨.str _, H, I.tok _, ⟨_, rfl⟩, q⟩
theorem zfz {P : Program} {w : World} : ∀ {kvs : List (Key × V)} {vs : List (Key × Value)} {acc : List Value}, KV kvs vs → acc.length = vs.length → (∀ (j : Nat) (v : Value), acc[j]? = some v → ∃ (k : Key) (x : Value), vs[j]? = some (k, x) ∧ (zai P w).is k v = true) → Vals (kvs.map fun p => kV p.1) acc := by
 intro kvs vs acc r
 unfold KV at r
 induction r generalizing acc with
 | nil =>
  intro hl h
  cases acc with
  | nil => exact .nil
  | cons _ _ => simp at hl
 | @cons p q kvs vs r t ih =>
  intro hl h
  cases acc with
  | nil => simp at hl
  | cons u acc =>
   refine .cons ?_ (ih (by simpa using hl) fun j v e => by simpa using h (j + 1) v (by simpa using e))
   obtain ⟨k, x, e, hk⟩ := h 0 u (by simp)
   simp at e
   have ek : q.1 = k := by rw [e]
   show RelV (kV p.1) u
   rw [r.1, ek]
   rcases keyIs_shape (show keyIs k u = true from hk) with ⟨i, t', rfl, rfl⟩ | ⟨z, t', rfl, rfl⟩
   ·exact ⟨t', rfl⟩
   ·exact ⟨t', rfl⟩
theorem zcC (hc : X.calm = true) : zbr X (.type "list") (fun xs H Q => ∃ d kvs, xs = [.ref d] ∧ H d = some (.dK kvs) ∧ ∀ l, H l = none → Q (.ref l) (upd H l (.lst (kvs.map fun p => kV p.1)))) := by
 intro pins s σ H xs us Q I r h
 obtain ⟨d, kvs, rfl, hd, q⟩ := h
 obtain ⟨u, rfl, ru⟩ := zct r
 cases ru
 obtain ⟨hz, hS, vs, rk, m⟩ : kvs.length ≤ sizeLine ∧ (d == sysModules) = false ∧ ∃ vs, KV kvs vs ∧ s.heap.DictOf (zai X.prog X.w) d vs := I.hok d _ hd
 obtain ⟨ep, hat⟩ := m.dictAt
 have hlen : kvs.length = vs.length := Paired.length rk
 refine PySem.W.kdl_call (PySem.W.kdl_dict (knd := zai X.prog X.w) (kvs := vs) (ep := ep) hS) (I.ok.hd hc) hat (by omega) fun h' tk acc c hk hD hacc => ?_
 refine ⟨.ref s.heap.objs.size, _, I.laid (t' := tk) (o := .lst (kvs.map fun p => kV p.1)) hk (Nat.le_refl _) ?_, rfl, q _ (I.hok.fresh (Nat.le_refl _))⟩
 refine ⟨by rw [List.length_map]; exact hz, acc.toList, c, zfz (P := X.prog) (w := X.w) rk (by rw [Array.length_toList]; exact hacc.1) (fun j v e => hacc.2 j v (by rw [← Array.getElem?_toList]; exact e)), ?_⟩
 rw [Array.toArray_toList]
 exact hD
end
theorem Un.laidN {fs ex : List Addr} {H : Hp} {h h' : Heap} {a : Addr} {o : HO} (k : ∀ b u, h.get? b = some u → h'.get? b = some u) (ha : h.get? a = none) (hn : H a = none) : Un fs ex H (upd H a o) h h' where
 keep := fun b u q _ _ _ => k b u q
 slot := fun b u q _ _ _ => ⟨u.slots, k b u q⟩
 free := fun b u q n _ => by
  have hb : b ≠ a := fun e => by rw [e, ha] at q; cases q
  rw [zaj hb]; exact n
 there := fun b u q _ => ⟨u, k b u q⟩
 tups := fun b xs q => zab q hn
 frzs := fun b u xs q => zab q hn
 tbls := fun b ps q => ⟨#[], by rw [zab q hn]; simp⟩
theorem Inv.laidN {X : Cx} {pins : List (Addr × Obj)} {σ : St} {H : Hp} {s : Shared} {h' : Heap} {a : Addr} {o : HO} {t' : Nat} (I : Inv X pins σ H s) (k : ∀ b u, s.heap.get? b = some u → h'.get? b = some u) (ha : s.heap.get? a = none)
  (new : zaT X.prog X.w (upd H a o) h' a o) : H a = none ∧ Inv X pins σ (upd H a o) { s with heap := h', toks := t' } := by
 have hn : H a = none := by
  cases q : H a with
  | none => rfl
  | some u =>
   obtain ⟨ob, e⟩ : ∃ ob, s.heap.get? a = some ob := by
    have x := I.hok a u q
    cases u with
    | lst xs => obtain ⟨_, _, _, _, e⟩ := x; exact ⟨_, e⟩
    | tup xs => obtain ⟨_, _, _, p⟩ := x; obtain ⟨_, e, _⟩ := p; exact ⟨_, e⟩
    | dK kvs => obtain ⟨_, _, _, _, o, _, _, e, _⟩ := x; exact ⟨_, e⟩
    | dT kvs => obtain ⟨_, _, _, _, o, _, _, e, _⟩ := x; exact ⟨_, e⟩
    | set S n => obtain ⟨o, _, _, _, e, _⟩ := x; exact ⟨_, e⟩
    | ins C dx fs => obtain ⟨_, _, _, e, _⟩ := x; exact ⟨_, e⟩
    | own y => exact x
    | xd fs => obtain ⟨_, ⟨_, _, _, e, _⟩, _⟩ := x; exact ⟨_, e⟩
    | rng lo hi => obtain ⟨_, _, _, e⟩ := x; exact ⟨_, e⟩
    | frz ob u => obtain ⟨e, _⟩ := x; exact ⟨_, e⟩
    | tbl ps => exact ⟨_, (show s.heap.get? a = some _ from x)⟩
    | met f y => exact ⟨_, (show s.heap.get? a = some _ from x)⟩
    | ext φ => obtain ⟨_, e, _⟩ := x; exact e
   rw [ha] at e; cases e
 refine ⟨hn, I.un (Un.laidN k ha hn) fun b u e => ?_⟩
 by_cases hb : b = a
 ·subst hb; rw [zaa] at e; cases e; exact new
 ·rw [zaj hb] at e
  exact (I.hok b u e).stay (fun c v _ q => k c v q) (fun c q => zab q hn) fun c xs q => zab q hn
theorem zc0 {h : Heap} {a : Addr} {vs : List Value} {out : Array Value} {n : Nat} (ho : h.get? a = some (seqObj "list" vs.toArray n)) :
  (∃ e, (sortedHeap h a vs out).get? a = some (seqObj "list" out e)) ∧ ∀ b o, b ≠ a → h.get? b = some o → (sortedHeap h a vs out).get? b = some o := by
 have ha : a < h.objs.size := Heap.lt_size ho
 unfold sortedHeap
 obtain ⟨e1, ho1⟩ : ∃ e1, (h.update a (Obj.mapSeq fun _ => #[])).get? a = some (seqObj "list" #[] e1) := ⟨_, get?_update_seq ho (fun _ => #[])⟩
 have ho2 := Heap.get?_push_of_some (seqObj "list" #[] 0) (Heap.get?_push_of_some (seqObj "tuple" vs.toArray 0) ho1)
 refine ⟨⟨_, get?_update_seq ho2 (fun _ => out)⟩, fun b o hb e => ?_⟩
 rw [Heap.get?_update_other _ _ (Ne.symm hb)]
 refine Heap.get?_push_of_some _ (Heap.get?_push_of_some _ ?_)
 rw [Heap.get?_update_other _ _ (Ne.symm hb)]
 exact e
section
variable {prog : Program} {w : World} {A : Around} {E : Value → Shared → Prop} {s : Shared} {T : String} {r d : Addr} {n : Nat} {P : Nat → Value → Prop} {OK : Heap → Prop} {Q : Value → Shared → Prop}
theorem ze1 (K : PySem.W.KdlSrc prog w T r d n P OK) (hh : A.handled = none) (hok : OK s.heap) (hn : n < 64) (hint : ∀ vs : List Value, vs.length = n → (∀ (j : Nat) (v : Value), vs[j]? = some v → P j v) → ∃ ns, IntsAre vs ns)
  (h : ∀ (D : Addr) (h' : Heap) (tk e : Nat) (vs : List Value) (ns ns' : List Int) (out : Array Value), (∀ b o, s.heap.get? b = some o → h'.get? b = some o) → s.heap.get? D = none → h'.get? D = some (seqObj "list" out e) →
   vs.length = n → (∀ (j : Nat) (v : Value), vs[j]? = some v → P j v) → IntsAre vs ns → IntsAre out.toList ns' → ns'.Perm ns → ns'.Pairwise (· ≤ ·) → Q (.ref D) { s with heap := h', toks := tk }) :
  wpAny (model prog w) A (call (.builtin "sorted") [.ref r]) Q E s := by
 refine Calls.call_function_entry PyProof.Rows.kind_sorted PyProof.Rows.plain_sorted PyProof.Rows.entry_sorted (PyProof.Rows.args_sorted1 _) ?_
 unfold Builtin.«sorted»
 refine wpAny_bind (m := checkCount "sorted" 1 1 _) (wpAny_pure (wpAny_bind ?_))
 refine PySem.W.kdu_collect (A := A.in1) K hh hok (by rw [sizeLine_eq]; omega) fun h1 tk acc hk hacc => ?_
 have hl : acc.toList.length = n := by rw [Array.length_toList]; exact hacc.1
 have hP : ∀ (j : Nat) (v : Value), acc.toList[j]? = some v → P j v := fun j v e => hacc.2 j v (by rw [← Array.getElem?_toList]; exact e)
 obtain ⟨ns, hI⟩ := hint acc.toList hl hP
 refine wpAny_bind (wpAny_newList ?_ (by rw [hl, sizeLine_eq]; omega))
 have hoL : (h1.push { cls := .type "list", data := .seq acc.toList.toArray }).get? h1.objs.size = some (seqObj "list" acc.toList.toArray 0) := Heap.get?_push_size _ rfl
 have hsz : s.heap.get? h1.objs.size = none := by
  cases q : s.heap.get? h1.objs.size with
  | none => rfl
  | some o => exact absurd (Heap.lt_size (hk _ _ q)) (Nat.lt_irrefl _)
 refine wpAny_bind (wpAny_holding (wpAny_call_entry slot_list_sort ⟨_, hoL, rfl⟩ entry_list_sort (list_sort_tree hoL hI (by rw [hl]; exact hn) fun out ns' i p st => ⟨_, rfl, ?_⟩) (args_list_sort _)))
 obtain ⟨⟨e, g1⟩, g2⟩ := zc0 (out := out) hoL
 refine wpAny_pure ⟨_, rfl, h _ _ _ e acc.toList ns ns' out (fun b o q => g2 b o ?_ (Heap.get?_push_of_some _ (hk b o q))) hsz g1 hl hP hI i p st⟩
 exact Nat.ne_of_lt (Heap.lt_size (hk b o q))
end
theorem intsAre_vals : ∀ {vs : List Value} {ns : List Int}, IntsAre vs ns → Vals (ns.map V.int) vs
 | _, _, .nil => .nil
 | _, _, .cons n t r => .cons ⟨t, rfl⟩ (intsAre_vals r)
theorem zdg {vs : List Value} {ns ms : List Int} (a : Vals (ns.map V.int) vs) (b : IntsAre vs ms) : ns = ms := by
 have := a.inj (intsAre_vals b)
 exact (List.map_inj_right (fun x y e => by injection e)).mp this
section
variable {X : Cx}
end
end L2
set_option Elab.async false
set_option linter.all false
set_option maxRecDepth 100000
namespace L2
open PySem PySem.Spec PyProof.Rows
abbrev bmVE : List Value := [.type "ValueError", .type "Exception", .type "BaseException", .type "object"]
def XCls (K : PySem.W.Frag) (C : Addr) : Prop := PySem.W.excIn K C bmVE "ValueError.__new__" = true
section
variable {X : Cx} {pins : List (Addr × Obj)} {σ : St} {H H' : Hp} {s s' : Shared}
end
section
variable {P : Program} {w : World} {K : PySem.W.Frag} {mg : Str → Option Value} {base : Heap} {N : List Str} {qual : Str} {scope : Scope} {f : Addr} {cd : Value} {A : Around} {outer : List Env} {s₀ : Shared} {H₀ : Hp} {E : XK}
end
section
variable {X : Cx}
/-- raise C(e, ..) -/
def ziD (C : Addr) (E : XK) (t : TA) : TS := fun _ σ H => t σ H fun vs H1 => vs.length ≤ sizeLine ∧ E (.ref C) none H1
end
def EX (C : Addr) (R : St → Hp → Prop) : St → XK := fun σ cls _ H' => cls = .ref C ∧ R σ H'
section
variable {X : Cx} {pins : List (Addr × Obj)} {σ : St} {H : Hp} {s : Shared}
end
section
variable {X : Cx} {k : Nat} {f C : Addr} {fd : FuncData} {ps : List Str} {sp : Sp} {dvs : List V} {ds : List Value} {E : St → XK} {x m : Str} {p pos apos : Pos} {e o : Expr} {es : List Expr} {ta : TE} {t : TA}
def ziy (C : Addr) (m : Str) (sp : Sp) (dvs : List V) (E : St → XK) (ta : TE) (t : TA) : TE := fun σ H Q => ta σ H fun x H1 => ∃ a dx fs, x = .ref a ∧ H1 a = some (.ins C dx fs) ∧ fs.lookup m = none ∧
 t σ H1 fun vs H2 => sp (x :: (vs ++ dvs)) H2 Q (E σ)
end
section
variable {X : Cx}
end
section
variable {P : Program} {w : World} {K : PySem.W.Frag} {mg : Str → Option Value} {base : Heap}
/-- a def that lets none out -/
theorem Fun.okC {CX : CXT} {x qual : Str} {st : Stmt} {f : Addr} {fd : FuncData} {N ps : List Str} {k : Nat} {sp : Sp} (F : Fun K x qual st f fd) (S : FnScope N ps (zas st)) (len : ∀ vs H Q E, sp vs H Q E → vs.length = ps.length)
  (hbody : ∀ (cdv : Value) (A : Around) (outer : List Env) (s : Shared) (H : Hp) (vs : List V) (Q : VK) (E : XK), Room k (A.deeper (envOfC qual (zas st) s.heap.objs.size f cdv)) → sp vs H Q E →
   ∃ t, PSs (cxOf CX P w K mg base N qual (zas st) f cdv A outer s H E).nox (zcj st) t ∧ t { nx := fun _ H' => Q .non H', rt := Q } (start N vs) H) : FnOk P w K mg base CX (k + 1) f fd ps sp := by
 obtain ⟨oc, od, kV, doc, pm, an, cdv, ct, osl, rfl, lk, hcd⟩ := F.ex
 refine fn_of lk hcd S len fun A outer s H vs Q E hr hsp => ?_
 obtain ⟨t, h, q⟩ := hbody cdv A outer s H vs Q E hr hsp
 exact ⟨t, h.nox, q⟩
end
end L2
set_option Elab.async false
set_option linter.all false
set_option maxRecDepth 100000
namespace L2
open PySem PySem.Spec PyProof.Rows
section
variable {X : Cx}
/-- f'text{int}' -/
def tFstr (te : TE) : TE := fun σ H Q => te σ H fun x H1 => ∃ i, x = .int i ∧ i.natAbs.log2 < 1920 ∧ ∀ z, Q (.str z) H1
end
theorem Inv.turnedL {X : Cx} {pins : List (Addr × Obj)} {σ : St} {H : Hp} {s : Shared} {h' : Heap} {t' : Nat} {ch : List Addr} (I : Inv X pins σ H s) (k : ∀ b o, b ∉ ch → s.heap.get? b = some o → h'.get? b = some o) (hf : ∀ b ∈ ch, FpOk X pins H b) :
  Inv X pins σ H { s with heap := h', toks := t' } := by
 have nit : ∀ b u, H b = some u → b ∉ ch := fun b u e z => by rw [(hf b z).1] at e; cases e
 have hL : X.env.locals ∉ ch := fun z => (hf _ z).2.1 rfl
 refine I.step (g' := s.gens) (d' := s.drawn) (ch := ch) (fun b hb => ⟨(hf b hb).2.2.2.1, (hf b hb).2.1, (hf b hb).2.2.2.2.1, (hf b hb).2.2.2.2.2⟩) (fun b o _ _ hc e _ => k b o hc e) (fun b o _ _ hc e _ => ⟨o.slots, k b o hc e⟩) (fun _ _ _ _ n => n)
  (fun b o hc e => ⟨o, k b o hc e⟩) (fun _ _ e => e) (fun _ _ _ e => e) (fun b ps e => ⟨#[], by rw [e]; simp⟩) (fun m hm => ?_) (fun b u e => ?_) I.bare
 ·obtain ⟨o, es, ep, ho, r⟩ := hm
  exact ⟨o, es, ep, k _ o hL ho, r⟩
 ·refine (I.hok b u e).stay (fun c v hc q => k c v ?_ q) (fun _ q => q) fun _ _ q => q
  rcases hc with z | z
  ·rw [z]; exact nit b u e
  ·exact nit c _ z
def Itz (K : PySem.W.Frag) (l1 l2 : Addr) : It :=
 ⟨fun i H => ∃ xs ys x y, SqL K H l1 xs ∧ SqL K H l2 ys ∧ xs[i]? = some x ∧ ys[i]? = some y,
  fun i H v H' => ∃ p x y, v = .ref p ∧ H p = none ∧ H' = upd H p (.tup [x, y]) ∧ (∀ xs, SqL K H l1 xs → xs[i]? = some x) ∧ ∀ ys, SqL K H l2 ys → ys[i]? = some y,
  fun i H => ∃ xs ys, SqL K H l1 xs ∧ SqL K H l2 ys ∧ (xs.length ≤ i ∨ ys.length ≤ i)⟩
structure ZipSt (z TI TO i1 i2 l1 l2 : Addr) (i : Nat) (h : Heap) : Prop where
 z : IsZip h z TI TO .none
 ti : IsPair h TI (.ref i1) (.ref i2)
 to : ∃ a b, IsPair h TO a b
 h1 : h.IsListIter i1 l1 i
 h2 : h.IsListIter i2 l2 i
theorem zgY {P : Program} {w : World} {K : PySem.W.Frag} {es : List Expr} {tk : Nat} {tpos : Pos} (z TI TO i1 i2 l1 l2 : Addr) (D : ZipApart z TI TO i1 i2 l1 l2) : Turn P w K (.Tuple es tk tpos) (Itz K l1 l2) [z, TI, TO, i1, i2] z (ZipSt z TI TO i1 i2 l1 l2) where
 mem := by simp
 obj := fun i h st b hb => by
  simp only [List.mem_cons, List.not_mem_nil, or_false] at hb
  rcases hb with rfl | rfl | rfl | rfl | rfl
  ·exact ⟨_, st.z, fun v e => by cases (show Data.fields _ = Data.cell v from e)⟩
  ·exact ⟨_, st.ti, fun v e => by cases (show Data.seq _ _ = Data.cell v from e)⟩
  ·obtain ⟨a, b, e⟩ := st.to
   exact ⟨_, e, fun v e => by cases (show Data.seq _ _ = Data.cell v from e)⟩
  ·obtain ⟨o, e, _, d⟩ := st.h1
   exact ⟨o, e, fun v z => by rw [d] at z; cases z⟩
  ·obtain ⟨o, e, _, d⟩ := st.h2
   exact ⟨o, e, fun v z => by rw [d] at z; cases z⟩
 keep := fun i h h' st k => by
  obtain ⟨a, b, e⟩ := st.to
  exact ⟨k z (by simp) _ st.z, k TI (by simp) _ st.ti, ⟨a, b, k TO (by simp) _ e⟩, st.h1.at fun o e => k i1 (by simp) o e, st.h2.at fun o e => k i2 (by simp) o e⟩
 item := by
  intro X hP hw hK hc i pins s σ H E I hf st hg
  subst hP hw hK
  obtain ⟨xs, ys, x, y, hq1, hq2, hx, hy⟩ := hg
  obtain ⟨us, r1, p1, z1⟩ := I.list hq1
  obtain ⟨vs, r2, p2, z2⟩ := I.list hq2
  obtain ⟨u, eu, ru⟩ := r1.get hx
  obtain ⟨v, ev, rv⟩ := r2.get hy
  obtain ⟨a, b, eTO⟩ := st.to
  refine wpAny_pyNext_zip_item D st.z st.ti eTO st.h1 st.h2 p1.isList p2.isList (x := u) (y := v) (by simpa using eu) (by simpa using ev) fun h' a1 a2 a3 a4 a5 a6 a7 => ?_
  refine ⟨_, rfl, wpAny_letOwnedTupleGo_zip a1 fun h2 b1 b2 => ?_⟩
  have hlt : ∀ c ∈ [z, TI, TO, i1, i2], c < s.heap.objs.size := fun c hc => by
   simp only [List.mem_cons, List.not_mem_nil, or_false] at hc
   rcases hc with rfl | rfl | rfl | rfl | rfl
   ·exact Heap.lt_size st.z
   ·exact Heap.lt_size st.ti
   ·exact Heap.lt_size eTO
   ·obtain ⟨o, e, _⟩ := st.h1; exact Heap.lt_size e
   ·obtain ⟨o, e, _⟩ := st.h2; exact Heap.lt_size e
  have kk : ∀ b o, b ∉ [z, TI, TO, i1, i2] → s.heap.get? b = some o → h2.get? b = some o := fun b o hb e => by
   simp only [List.mem_cons, List.not_mem_nil, or_false, not_or] at hb
   obtain ⟨c1, c2, c3, c4, c5⟩ := hb
   exact b2.extBut b o c1 (a7 b o c1 c3 c4 c5 e)
  have np : s.heap.objs.size ≠ z := Nat.ne_of_gt (hlt z (by simp))
  have gp : IsPair h2 s.heap.objs.size u v := b2.extBut _ _ np a5
  have I1 : Inv X pins σ H { s with heap := h2 } := I.turnedL (t' := s.toks) kk hf
  have hn : H s.heap.objs.size = none := I.hok.fresh (Nat.le_refl _)
  have nit : ∀ b u, H b = some u → b ∉ [z, TI, TO, i1, i2] := fun b u e w => by rw [(hf b w).1] at e; cases e
  have hL : X.env.locals ∉ [z, TI, TO, i1, i2] := fun w => (hf _ w).2.1 rfl
  have I2 : Inv X pins σ (upd H s.heap.objs.size (.tup [x, y])) { s with heap := h2 } := by
   refine I.step (g' := s.gens) (d' := s.drawn) (t' := s.toks) (ch := [z, TI, TO, i1, i2]) (fun b hb => ⟨(hf b hb).2.2.2.1, (hf b hb).2.1, (hf b hb).2.2.2.2.1, (hf b hb).2.2.2.2.2⟩) (fun b o _ _ hc e _ => kk b o hc e) (fun b o _ _ hc e _ => ⟨o.slots, kk b o hc e⟩)
    (fun b o _ e n => by rw [zaj (Nat.ne_of_lt (Heap.lt_size e))]; exact n) (fun b o hc e => ⟨o, kk b o hc e⟩) (fun _ _ e => zab e hn) (fun _ _ _ e => zab e hn) (fun b ps e => ⟨#[], by rw [zab e hn]; simp⟩) (fun m hm => ?_) (fun b w e => ?_) I.bare
   ·obtain ⟨o, es, ep, ho, r⟩ := hm
    exact ⟨o, es, ep, kk _ o hL ho, r⟩
   ·by_cases hb : b = s.heap.objs.size
    ·subst hb
     rw [zaa] at e
     cases e
     exact ⟨by rw [sizeLine_eq]; show 2 ≤ 16777216; decide, [u, v], .cons ru (.cons rv .nil), ⟨_, gp, rfl, _, rfl⟩⟩
    ·rw [zaj hb] at e
     refine (I.hok b w e).stay (fun c v hc q => kk c v ?_ q) (fun _ q => zab q hn) fun _ _ q => zab q hn
     rcases hc with t | t
     ·rw [t]; exact nit b w e
     ·exact nit c _ t
  refine ⟨.ref s.heap.objs.size, _, I2, rfl, ⟨_, x, y, rfl, hn, rfl, fun zs hz => by rw [I.list_inj hz hq1]; exact hx, fun zs hz => by rw [I.list_inj hz hq2]; exact hy⟩, ⟨b1, b2.extBut _ _ D.TIz (a7 _ _ D.TIz D.TITO D.TIi1 D.TIi2 st.ti), ⟨u, v, b2.extBut _ _ D.TOz a2⟩, a3.extBut b2.extBut D.i1z, a4.extBut b2.extBut D.i2z⟩, fun b hb => ?_⟩
  rw [zaj (Nat.ne_of_lt (hlt b hb))]
  exact (hf b hb).1
 done := by
  intro X hP hw hK hc i pins s σ H E I hf st hg
  subst hP hw hK
  obtain ⟨xs, ys, hq1, hq2, hor⟩ := hg
  obtain ⟨us, r1, p1, z1⟩ := I.list hq1
  obtain ⟨vs, r2, p2, z2⟩ := I.list hq2
  obtain ⟨a, b, eTO⟩ := st.to
  have l1' := r1.length
  have l2' := r2.length
  refine wpAny_pyNext_zip_end (I.ok.hd hc) D st.z st.ti eTO st.h1 st.h2 p1.isList p2.isList (by
   rcases hor with h | h
   ·exact .inl (by simp; omega)
   ·exact .inr (by simp; omega)) fun h' kk => ⟨rfl, I.turnedL (t' := s.toks) (ch := [z, TI, TO, i1, i2]) (fun b o hb e => ?_) hf⟩
  simp only [List.mem_cons, List.not_mem_nil, or_false, not_or] at hb
  exact kk b o hb.1 hb.2.2.1 hb.2.2.2.1 hb.2.2.2.2 e
 self := fun _ _ _ _ _ st h => wpAny_pyIter_zip st.z h
theorem zap (n a b : Nat) (h1 : a < n) (h2 : b < n) : ZipApart (n + 4) (n + 2) (n + 3) n (n + 1) a b :=
 ⟨by show @Ne Nat _ _; omega, by show @Ne Nat _ _; omega, by show @Ne Nat _ _; omega, by show @Ne Nat _ _; omega, by show @Ne Nat _ _; omega, by show @Ne Nat _ _; omega, by show @Ne Nat _ _; omega, by show @Ne Nat _ _; omega, by show @Ne Nat _ _; omega, by show @Ne Nat _ _; omega, by show @Ne Nat _ _; omega, by show @Ne Nat _ _; omega, by show @Ne Nat _ _; omega, by show @Ne Nat _ _; omega, by show @Ne Nat _ _; omega, by show @Ne Nat _ _; omega, by show @Ne Nat _ _; omega, by show @Ne Nat _ _; omega⟩
section
variable {X : Cx}
def iZip (K : PySem.W.Frag) (ta : TA) : TI := fun σ H R => ta σ H fun vs H1 => ∃ l1 l2, vs = [.ref l1, .ref l2] ∧ (∃ xs, SqL K H1 l1 xs) ∧ (∃ ys, SqL K H1 l2 ys) ∧ R (Itz K l1 l2) H1
theorem zhs {es : List Expr} {tk : Nat} {tpos : Pos} {a b : Expr} {ta : TA} {p pos : Pos} (hg : Gl X "zip") (hm : X.mg "zip" = none) (ha : PA X [a, b] ta) (hs : starEach [a, b] X.env = [(false, eval a X.env), (false, eval b X.env)] := by rfl) (hs2 : starEach [b] X.env = [(false, eval b X.env)] := by rfl) :
  PI X (.Tuple es tk tpos) (.Call (.Name "zip" p) [a, b] [] pos) (iZip X.K ta) := by
 intro pins s σ H R I h
 refine Call_ (zbV I hg hm boot_zip (PyProof.Rows.callWith_type1 (thn (ha pos pins s σ H _ I h) fun us s1 ⟨vs, H1, I1, r1, q1⟩ => ?_) (by rw [hs, hs2]) (by rw [hs2]; rfl)))
 obtain ⟨l1, l2, e, ⟨xs, hq1⟩, ⟨ys, hq2⟩, q⟩ := q1
 subst e
 obtain ⟨u1, u2, rfl, ru1, ru2⟩ := Vals.two r1
 cases ru1
 cases ru2
 obtain ⟨us, rv1, p1, z1⟩ := I1.list hq1
 obtain ⟨vs, rv2, p2, z2⟩ := I1.list hq2
 have hlt1 : l1 < s1.heap.objs.size := by obtain ⟨o, e, _⟩ := p1.isList; exact Heap.lt_size e
 have hlt2 : l2 < s1.heap.objs.size := by obtain ⟨o, e, _⟩ := p2.isList; exact Heap.lt_size e
 refine call_zip_2 p1.isList p2.isList fun h' g1 g2 g3 g4 g5 g6 g7 => ?_
 refine wpAny_pyIter_zip g1 ?_
 refine ⟨_, [s1.heap.objs.size + 4, s1.heap.objs.size + 2, s1.heap.objs.size + 3, s1.heap.objs.size, s1.heap.objs.size + 1], _, _, H1, rfl, I1.kept (t' := s1.toks) g7, zgY _ _ _ _ _ l1 l2 ?_, ⟨g1, g2, ⟨_, _, g3⟩, g4, g5⟩, fun b hb => ?_, q⟩
 ·exact zap _ _ _ hlt1 hlt2
 ·have hb2 : s1.heap.objs.size ≤ b := by
   simp only [List.mem_cons, List.not_mem_nil, or_false] at hb
   rcases hb with rfl | rfl | rfl | rfl | rfl <;> first | exact Nat.le_refl _ | exact Nat.le_add_right _ _
  exact I1.fpOk hb2 (I1.hok.fresh hb2)
end
end L2
set_option Elab.async false
set_option linter.all false
set_option maxRecDepth 100000
namespace L2
open PySem PySem.Spec PyProof.Rows
def keyOf : V → Option Key
 | .int i => some (.inl i)
 | .str z => some (.inr z)
 | _ => none
theorem zfH {i : Int} : keyOf (.int i) = some (.inl i) := rfl
theorem zfe {i : Str} : keyOf (.str i) = some (.inr i) := rfl
theorem zgt {y : V} {k : Key} (h : keyOf y = some k) : y = kV k := by
 cases y <;> first | (cases h; rfl) | (cases h)
def zg6 (td ty : TE) : TE := fun σ H Q => td σ H fun x H1 => ty σ H1 fun y H2 => ∃ d k kvs v, x = .ref d ∧ keyOf y = some k ∧ H2 d = some (.dK kvs) ∧ valV kvs k = some v ∧ Q v H2
def tDInF (ty td : TE) : TE := fun σ H Q => ty σ H fun y H1 => td σ H1 fun x H2 => ∃ d k kvs, x = .ref d ∧ keyOf y = some k ∧ H2 d = some (.dK kvs) ∧ Q (.bl (valV kvs k).isSome) H2
def zf8 (ty td : TE) : TE := fun σ H Q => ty σ H fun y H1 => td σ H1 fun x H2 => ∃ d k kvs, x = .ref d ∧ keyOf y = some k ∧ H2 d = some (.dK kvs) ∧ Q (.bl (!(valV kvs k).isSome)) H2
def zib (td ty tv : TE) : TS := fun D σ H => tv σ H fun v H1 => td σ H1 fun x H2 => ty σ H2 fun y H3 => ∃ d k kvs, x = .ref d ∧ keyOf y = some k ∧ H3 d = some (.dK kvs) ∧ kvs.length < sizeLine ∧ D.nx σ (upd H3 d (.dK (putK kvs k v)))
section
variable {X : Cx} {o i e value : Expr} {pos pos' tpos : Pos} {td ty tv : TE}
theorem zgQ (hu : X.A.units + 1 < cLine) (ho : PE X o td) (hi : PE X i ty) (hs : NoSl i) : PE X (.Subscript o i pos) (zg6 td ty) := by
 intro pins s σ H Q I h
 refine zdT PySem.F.slot_dict_getitem.lookup hs (thn (ho pins s σ H _ I h) fun u s1 ⟨x, H1, I1, rx, q1⟩ => thn (hi pins s1 σ H1 _ I1 q1) fun iv s2 ⟨y, H2, I2, ry, d, k, kvs, v, ex, ek, hd, hv, q2⟩ => ?_)
 subst ex
 cases zgt ek
 obtain rfl : u = Value.ref d := rx
 have g : DGet H2 d (kV k) (some v) := by rw [← hv]; exact DGet.k hd
 exact ⟨zci I2 g, zdo hu I2 g ry fun w' s3 I3 rw' => ⟨v, H2, I3, rw', q2⟩⟩
end
end L2
set_option Elab.async false
set_option linter.all false
set_option maxRecDepth 100000
namespace L2
open PySem PySem.Spec PyProof.Rows
theorem ziv {CX : CXT} {P : Program} {w : World} {K : PySem.W.Frag} {mg : Str → Option Value} {base : Heap} {N : List Str} {qual : Str} {scope : Scope} {f : Addr} {cd : Value} {A : Around} {outer : List Env} {s₀ : Shared} {H₀ : Hp} {E : XK} :
  (cxOf CX P w K mg base N qual scope f cd A outer s₀ H₀ E).K = K := rfl
structure Fr (M : Addr → Prop) (H H' : Hp) : Prop where
 keep : ∀ q o, H q = some o → ¬ M q → H' q = some o
 tups : ∀ q xs, H q = some (.tup xs) → H' q = some (.tup xs)
theorem Fr.trans {M : Addr → Prop} {H H1 H2 : Hp} (x : Fr M H H1) (y : Fr M H1 H2) : Fr M H H2 := ⟨fun q o h n => y.keep q o (x.keep q o h n) n, fun q xs h => y.tups q xs (x.tups q xs h)⟩
theorem Fr.of_same {M : Addr → Prop} {H H' : Hp} (s : Same H H') : Fr M H H' := ⟨fun q o h _ => s q o h, fun q xs h => s q _ h⟩
theorem Fr.laid {M : Addr → Prop} {H : Hp} {p : Addr} {u : HO} (hp : H p = none) : Fr M H (upd H p u) := .of_same (.laid hp)
theorem Fr.put {M : Addr → Prop} {H : Hp} {p : Addr} {u : HO} (hm : M p) (ht : ∀ xs, H p ≠ some (.tup xs)) : Fr M H (upd H p u) :=
 ⟨fun q o h n => by rw [zaj (fun e => n (by rw [e]; exact hm))]; exact h, fun q xs h => by rw [zaj (fun e => ht xs (by rw [← e]; exact h))]; exact h⟩
theorem for1 {ta : TA} {g : TG} {tb : TS} {D : Ends} {σ : St} {H H1 : Hp} (n : Int) (hr : ∀ Q, Q [.int n] H1 → ta σ H Q) (n0 : -(2 ^ 62) ≤ n) (n1 : n < 2 ^ 62) (Pv : Nat → St → Hp → Prop) (h0 : Pv 0 σ H1)
  (hs : ∀ i σ H, i < n.toNat → Pv i σ H → g (.int (0 + i)) σ H fun σ2 H2 => tb { D with nx := Pv (i + 1), ct := Pv (i + 1), bk := D.nx } σ2 H2) (hd : ∀ σ H, Pv n.toNat σ H → D.nx σ H) :
  tFor (zdF ta) g tb D σ H := hr _ ⟨n, rfl, n0, n1, zfs Pv h0 hs hd⟩
theorem forL {K : PySem.W.Frag} {tl : TE} {g : TG} {tb : TS} {D : Ends} {σ : St} {H H1 : Hp} (a : Addr) (xs : List V) (hr : ∀ Q, Q (.ref a) H1 → tl σ H Q) (Pv : Nat → St → Hp → Prop) (h0 : Pv 0 σ H1) (hl : ∀ i σ H, i ≤ xs.length → Pv i σ H → SqL K H a xs)
  (hs : ∀ i x σ H, xs[i]? = some x → Pv i σ H → g x σ H fun σ2 H2 => tb { D with nx := Pv (i + 1), ct := Pv (i + 1), bk := D.nx } σ2 H2) (hd : ∀ σ H, Pv xs.length σ H → D.nx σ H) :
  tFor (zeg K tl) g tb D σ H := hr _ ⟨a, rfl, ⟨xs, hl 0 σ H1 (Nat.zero_le _) h0⟩, zeq Pv h0 hl hs hd⟩
/-- the pair's tuple is new at each turn -/
theorem forZ {K : PySem.W.Frag} {ta : TA} {g : TG} {tb : TS} {D : Ends} {σ : St} {H H1 : Hp} (l1 l2 : Addr) (xs ys : List V) (hr : ∀ Q, Q [.ref l1, .ref l2] H1 → ta σ H Q) (Pv : Nat → St → Hp → Prop) (h0 : Pv 0 σ H1) (hn : xs.length = ys.length) (hl : ∀ i σ H, i ≤ xs.length → Pv i σ H → SqL K H l1 xs ∧ SqL K H l2 ys)
  (hs : ∀ i x y p σ H, xs[i]? = some x → ys[i]? = some y → Pv i σ H → H p = none → g (.ref p) σ (upd H p (.tup [x, y])) fun σ2 H2 => tb { D with nx := Pv (i + 1), ct := Pv (i + 1), bk := D.nx } σ2 H2) (hd : ∀ σ H, Pv xs.length σ H → D.nx σ H) :
  tFor (iZip K ta) g tb D σ H := by
 refine hr _ ⟨l1, l2, rfl, ⟨xs, (hl 0 σ H1 (Nat.zero_le _) h0).1⟩, ⟨ys, (hl 0 σ H1 (Nat.zero_le _) h0).2⟩, fun i m σ H => m = xs.length - i ∧ i ≤ xs.length ∧ Pv i σ H, ⟨xs.length, by simp, Nat.zero_le _, h0⟩, ?_⟩
 rintro i m σ H ⟨rfl, hi, p⟩
 obtain ⟨q1, q2⟩ := hl i σ H hi p
 by_cases hlt : i < xs.length
 ·refine .inr ⟨⟨xs, ys, xs[i], ys[i], q1, q2, by simp [hlt], by simp [hn ▸ hlt]⟩, Pv (i + 1), fun σ' H' p' => ⟨xs.length - (i + 1), by omega, rfl, hlt, p'⟩, fun v H' y => ?_⟩
  obtain ⟨b, x, y, rfl, hb, rfl, e1, e2⟩ := y
  exact hs i x y b σ _ (e1 _ q1) (e2 _ q2) p hb
 ·have e : i = xs.length := by omega
  subst e
  exact .inl ⟨⟨xs, ys, q1, q2, .inl (Nat.le_refl _)⟩, hd σ H p⟩
theorem zeD {cap : List (Option Nat)} {ta : TA} {g : TG} {tt : TT} {te : TE} {σ : St} {H H1 : Hp} {Q : VK} (n : Int) (hr : ∀ Q, Q [.int n] H1 → ta σ H Q) (n0 : -(2 ^ 62) ≤ n) (n1 : n < 2 ^ 62) (Pv : Addr → Nat → List V → Hp → Prop) (h0 : ∀ D, H1 D = none → Pv D 0 [] (upd H1 D (.lst [])))
  (hl : ∀ D, H1 D = none → ∀ i ys H, i ≤ n.toNat → Pv D i ys H → H D = some (.lst ys) ∧ ys.length ≤ i) (hz : n.toNat ≤ sizeLine)
  (hs : ∀ D, H1 D = none → ∀ i ys H, i < n.toNat → Pv D i ys H → g (.int (0 + i)) (zaM cap σ) H fun σ4 H4 => tt σ4 H4 fun b H5 => if b = true then te σ4 H5 fun y H6 => H6 D = some (.lst ys) ∧ Pv D (i + 1) (ys ++ [y]) (upd H6 D (.lst (ys ++ [y]))) else Pv D (i + 1) ys H5)
  (hd : ∀ D, H1 D = none → ∀ ys H, Pv D n.toNat ys H → Q (.ref D) H) : zcA cap (zdF ta) g tt te σ H Q := hr _ ⟨n, rfl, n0, n1, fun D hD => zeL (R := fun H => Q (.ref D) H) (Pv D) (h0 D hD) (hl D hD) hz (hs D hD) (hd D hD)⟩
theorem zdz {K : PySem.W.Frag} {cap : List (Option Nat)} {tl : TE} {g : TG} {tt : TT} {te : TE} {σ : St} {H H1 : Hp} {Q : VK} (a : Addr) (xs : List V) (hr : ∀ Q, Q (.ref a) H1 → tl σ H Q) (hq : SqL K H1 a xs) (Pv : Addr → Nat → List V → Hp → Prop) (h0 : ∀ D, H1 D = none → Pv D 0 [] (upd H1 D (.lst [])))
  (hl : ∀ D, H1 D = none → ∀ i ys H, i ≤ xs.length → Pv D i ys H → SqL K H a xs ∧ H D = some (.lst ys) ∧ ys.length ≤ i) (hz : xs.length ≤ sizeLine)
  (hs : ∀ D, H1 D = none → ∀ i x ys H, xs[i]? = some x → Pv D i ys H → g x (zaM cap σ) H fun σ4 H4 => tt σ4 H4 fun b H5 => if b = true then te σ4 H5 fun y H6 => H6 D = some (.lst ys) ∧ Pv D (i + 1) (ys ++ [y]) (upd H6 D (.lst (ys ++ [y]))) else Pv D (i + 1) ys H5)
  (hd : ∀ D, H1 D = none → ∀ ys H, Pv D xs.length ys H → Q (.ref D) H) : zcA cap (zeg K tl) g tt te σ H Q := hr _ ⟨a, rfl, ⟨xs, hq⟩, fun D hD => zdu (R := fun H => Q (.ref D) H) (Pv D) (h0 D hD) (hl D hD) hz (hs D hD) (hd D hD)⟩
theorem compT {K : PySem.W.Frag} {cap : List (Option Nat)} {tl : TE} {g : TG} {tt : TT} {te : TE} {σ : St} {H H1 : Hp} {Q : VK} (a : Addr) (xs : List V) (hr : ∀ Q, Q (.ref a) H1 → tl σ H Q) (hq : SqT K H1 a xs) (Pv : Addr → Nat → List V → Hp → Prop) (h0 : ∀ D, H1 D = none → Pv D 0 [] (upd H1 D (.lst [])))
  (hl : ∀ D, H1 D = none → ∀ i ys H, i ≤ xs.length → Pv D i ys H → SqT K H a xs ∧ H D = some (.lst ys) ∧ ys.length ≤ i) (hz : xs.length ≤ sizeLine)
  (hs : ∀ D, H1 D = none → ∀ i x ys H, xs[i]? = some x → Pv D i ys H → g x (zaM cap σ) H fun σ4 H4 => tt σ4 H4 fun b H5 => if b = true then te σ4 H5 fun y H6 => H6 D = some (.lst ys) ∧ Pv D (i + 1) (ys ++ [y]) (upd H6 D (.lst (ys ++ [y]))) else Pv D (i + 1) ys H5)
  (hd : ∀ D, H1 D = none → ∀ ys H, Pv D xs.length ys H → Q (.ref D) H) : zcA cap (iTup K tl) g tt te σ H Q := hr _ ⟨a, rfl, ⟨xs, hq⟩, fun D hD => zge (R := fun H => Q (.ref D) H) (Pv D) (h0 D hD) (hl D hD) hz (hs D hD) (hd D hD)⟩
theorem zfm {K : PySem.W.Frag} {cap : List (Option Nat)} {tl : TE} {g : TG} {tt : TT} {te : TE} {σ : St} {H : Hp} {Q : VK} (Pre : Addr → Hp → Prop) (hr : ∀ Q, (∀ a H1, Pre a H1 → Q (.ref a) H1) → tl σ H Q)
  (h : ∀ a H1, Pre a H1 → zcA cap (zeg K (tC (.ref a))) g tt te σ H1 Q) : zcA cap (zeg K tl) g tt te σ H Q := hr _ fun a H1 p => h a H1 p
theorem zfb {K : PySem.W.Frag} {tl : TE} {g : TG} {tb : TS} {D : Ends} {σ : St} {H : Hp} (Pre : Addr → Hp → Prop) (hr : ∀ Q, (∀ a H1, Pre a H1 → Q (.ref a) H1) → tl σ H Q)
  (h : ∀ a H1, Pre a H1 → tFor (zeg K (tC (.ref a))) g tb D σ H1) : tFor (zeg K tl) g tb D σ H := hr _ fun a H1 p => h a H1 p
theorem for1_ {ta : TA} {g : TG} {tb : TS} {D : Ends} {σ : St} {H : Hp} (Pre : Int → Hp → Prop) (hr : ∀ Q, (∀ n H1, Pre n H1 → Q [.int n] H1) → ta σ H Q)
  (h : ∀ n H1, Pre n H1 → tFor (zdF (zcD (tC (.int n)) tNil)) g tb D σ H1) : tFor (zdF ta) g tb D σ H := hr _ fun a H1 p => h a H1 p
theorem ziP {cap : List (Option Nat)} {ta : TA} {g : TG} {tt : TT} {te : TE} {σ : St} {H : Hp} {Q : VK} (Pre : Int → Hp → Prop) (hr : ∀ Q, (∀ n H1, Pre n H1 → Q [.int n] H1) → ta σ H Q)
  (h : ∀ n H1, Pre n H1 → zcA cap (zdF (zcD (tC (.int n)) tNil)) g tt te σ H1 Q) : zcA cap (zdF ta) g tt te σ H Q := hr _ fun a H1 p => h a H1 p
theorem zbA {K : PySem.W.Frag} {n : Nat} {t : TGs} {a : Addr} {xs : List V} {σ : St} {H : Hp} {Q : St → Hp → Prop} (h : H a = some (.tup xs)) (hl : xs.length = n) (q : t xs σ H Q) : gTup K n t (.ref a) σ H Q := ⟨a, xs, rfl, .of h, hl, q⟩
abbrev Th := Int × List Int × List Int
def thW (t : Th) : List Int := (16 * (t.2.1.length : Int) + t.2.2.length) :: (t.2.1 ++ t.2.2)
def thSz (t : Th) : Int := 1 + t.2.1.length + t.2.2.length
def zik (t : Th) (z : Int) : Option Int := if z < t.1 then none else (thW t)[(z - t.1).toNat]?
def wordAt (ts : List Th) (z : Int) : Option Int := ts.findSome? fun t => zik t z
def Lay : Int → List Th → Int → Prop
 | s, [], f => f = s
 | s, t :: r, f => t.1 = s ∧ Lay (s + thSz t) r f
theorem zaP {H : Hp} {p : Addr} {ys : List V} (h : H p = some (.lst ys)) : ∀ xs, H p ≠ some (.tup xs) := fun xs e => by rw [h] at e; cases e
theorem zdS {ms ns : List Int} (hp : ms.Perm ns) (hs : ms.Pairwise (· ≤ ·)) (hr : ns.Pairwise (· < ·)) : ms = ns :=
 List.Perm.eq_of_pairwise (le := (· ≤ ·)) (fun a b _ _ h1 h2 => Int.le_antisymm h1 h2) hs (hr.imp fun h => Int.le_of_lt h) hp
end L2
set_option Elab.async false
set_option linter.all false
set_option maxRecDepth 100000
namespace L2
open PySem PySem.Spec PyProof.Rows
def rEqE (neg : Bool) : R2 := fun x y H Q => ∃ l b xs, x = .ref l ∧ y = .ref b ∧ seqV H l = some xs ∧ zcY H l = some true ∧ seqV H b = some [] ∧ zcY H b = some true ∧ Q (.bl (if neg then !xs.isEmpty else xs.isEmpty)) H
theorem zdp {A : Around} {s : Shared} {us : List Value} (h : us.length = 0) (ws : List Value) :
  ∀ j (h1 : j < us.toArray.size) (h2 : j < ws.toArray.size), SeqAt.EqAt A s us.toArray[j] ws.toArray[j] ((fun _ => true) j) := by
 intro j h1 h2
 simp only [List.size_toArray] at h1
 omega
section
variable {X : Cx}
theorem zig (hu : X.A.units + 1 < cLine) : OpR X (compareOp .Eq) (rEqE false) := by
 intro pins s σ H x y v u Q I rx ry h
 obtain ⟨l, b, xs, rfl, rfl, h1, k1, h2, k2, q⟩ := h
 cases rx
 cases ry
 obtain ⟨us, r1, p1, z1⟩ := I.list (zbP (K := X.K) h1 k1)
 obtain ⟨ws, r2, p2, z2⟩ := I.list (zbP (K := X.K) h2 k2)
 have l1 := r1.length
 have l2 := r2.length
 cases xs with
 | nil =>
  refine SeqAt.eq_listAt p1.isList p2.isList (by simp at l1 l2 ⊢; omega) (by omega) (zdp (by simpa using l1.symm) ws) ⟨.bl _, H, I, rfl, ?_⟩
  have e : (List.range us.toArray.size).all (fun _ => true) = true := by simp
  rw [e]
  exact q
 | cons x xs =>
  refine SeqAt.eq_list_lengthsAt p1.isList p2.isList (by simp at l1 l2 ⊢; omega) (by omega) ⟨.bl _, H, I, rfl, ?_⟩
  exact q
theorem zg5 (hu : X.A.units + 1 < cLine) : OpR X (compareOp .NotEq) (rEqE true) := by
 intro pins s σ H x y v u Q I rx ry h
 obtain ⟨l, b, xs, rfl, rfl, h1, k1, h2, k2, q⟩ := h
 cases rx
 cases ry
 obtain ⟨us, r1, p1, z1⟩ := I.list (zbP (K := X.K) h1 k1)
 obtain ⟨ws, r2, p2, z2⟩ := I.list (zbP (K := X.K) h2 k2)
 have l1 := r1.length
 have l2 := r2.length
 cases xs with
 | nil =>
  refine SeqAt.RcNeAt.lists p1.isList p2.isList (by simp at l1 l2 ⊢; omega) (by omega) (zdp (by simpa using l1.symm) ws) _ _ _ _ ⟨.bl _, H, I, rfl, ?_⟩
  have e : (List.range us.toArray.size).all (fun _ => true) = true := by simp
  rw [e]
  exact q
 | cons x xs =>
  refine SeqAt.RcNeAt.lists_lengths p1.isList p2.isList (by simp at l1 l2 ⊢; omega) (by omega) _ _ _ _ ⟨.bl _, H, I, rfl, ?_⟩
  exact q
end
end L2
set_option Elab.async false
set_option linter.all false
set_option maxRecDepth 100000
namespace L2
open PySem PySem.Spec PyProof.Rows
section
variable {prog : Program} {w : World} {K : Type} [DecidableEq K] {knd : KeyKind prog w K} {A : Around} {E : Value → Shared → Prop} {s : Shared}
end
theorem forS {tl : TE} {g : TG} {tb : TS} {D : Ends} {σ : St} {H H1 : Hp} (z : Str) (hr : ∀ Q, Q (.str z) H1 → tl σ H Q) (ha : z.cps.all (· < 128) = true) (Pv : Nat → St → Hp → Prop) (h0 : Pv 0 σ H1)
  (hs : ∀ i c σ H, z.cps[i]? = some c → Pv i σ H → g (.str ⟨#[c]⟩) σ H fun σ2 H2 => tb { D with nx := Pv (i + 1), ct := Pv (i + 1), bk := D.nx } σ2 H2) (hd : ∀ σ H, Pv z.cps.size σ H → D.nx σ H) : tFor (iStr tl) g tb D σ H := by
 refine hr _ ⟨z, rfl, ha, fun i m σ H => m = z.cps.size - i ∧ i ≤ z.cps.size ∧ Pv i σ H, ⟨z.cps.size, by simp, Nat.zero_le _, h0⟩, ?_⟩
 rintro i m σ H ⟨rfl, hi, p⟩
 by_cases c : i < z.cps.size
 ·refine .inr ⟨c, Pv (i + 1), fun σ' H' p' => ⟨z.cps.size - (i + 1), by omega, rfl, c, p'⟩, fun x H' y => ?_⟩
  obtain ⟨rfl, c', e, rfl⟩ := y
  exact hs i c' σ _ e p
 ·have e : i = z.cps.size := by omega
  subst e
  exact .inl ⟨Nat.le_refl _, hd _ _ p⟩
end L2
set_option Elab.async false
set_option linter.all false
set_option maxRecDepth 100000
namespace L2
open PySem PySem.Spec PyProof.Rows
section
variable {prog : Program} {w : World} {A : Around} {E : Value → Shared → Prop} {s : Shared} {a₀ : Array Keyed}
end
section
variable {prog : Program} {w : World} {A : Around} {E : Value → Shared → Prop} {s : Shared} {T : String} {r d : Addr} {n : Nat} {P : Nat → Value → Prop} {OK : Heap → Prop} {Q : Value → Shared → Prop}
end
section
variable {X : Cx}
end
end L2
set_option Elab.async false
set_option linter.all false
set_option maxRecDepth 100000
namespace L2
open PySem PySem.Spec PyProof.Rows
def stepO (ord : List Int) (h : Int) : List Int := if h = 0 ∨ h ∈ ord then ord else ord ++ [h]
def layO (ord hs : List Int) : List Int := hs.foldl stepO ord
def thAt (ts : List Th) (z : Int) : Th := (ts.find? fun t => t.1 == z).getD (0, [], [])
def zh0 (ts : List Th) (z : Int) : List Int := (thAt ts z).2.1
def zhc (ts : List Th) (roots ord : List Int) : List Int := roots ++ ord.flatMap (zh0 ts)
structure Cart (ts : List Th) (roots ord : List Int) : Prop where
 fix : layO [] (zhc ts roots ord) = ord
 led : ∀ n, n < ord.length → ord.take (n + 1) <+: layO [] (zhc ts roots (ord.take n))
end L2
set_option Elab.async false
set_option linter.all false
set_option maxRecDepth 100000
namespace L2
open PySem PySem.Spec PyProof.Rows
def Ite (K : PySem.W.Frag) (l : Addr) : It :=
 ⟨fun i H => ∃ xs x, SqL K H l xs ∧ xs[i]? = some x,
  fun i H v H' => ∃ p x, v = .ref p ∧ H p = none ∧ H' = upd H p (.tup [.int i, x]) ∧ ∀ xs, SqL K H l xs → xs[i]? = some x,
  fun i H => ∃ xs, SqL K H l xs ∧ xs.length ≤ i⟩
structure EnSt (e it l : Addr) (i : Nat) (h : Heap) : Prop where
 e : ∃ old, IsEnum h e it i old
 h1 : h.IsListIter it l i
theorem ze9 {P : Program} {w : World} {K : PySem.W.Frag} {es : List Expr} {tk : Nat} {tpos : Pos} (e it l : Addr) (ne : e ≠ it) : Turn P w K (.Tuple es tk tpos) (Ite K l) [e, it] e (EnSt e it l) where
 mem := by simp
 obj := fun i h st b hb => by
  simp only [List.mem_cons, List.not_mem_nil, or_false] at hb
  rcases hb with rfl | rfl
  ·obtain ⟨old, g⟩ := st.e
   exact ⟨_, g, fun v z => by cases (show Data.fields _ = Data.cell v from z)⟩
  ·obtain ⟨o, g, _, d⟩ := st.h1
   exact ⟨o, g, fun v z => by rw [d] at z; cases z⟩
 keep := fun i h h' st k => by
  obtain ⟨old, g⟩ := st.e
  exact ⟨⟨old, k e (by simp) _ g⟩, st.h1.at fun o g => k it (by simp) o g⟩
 item := by
  intro X hP hw hK hc i pins s σ H E I hf st hg
  subst hP hw hK
  obtain ⟨xs, x, hq, hx⟩ := hg
  obtain ⟨us, r1, p1, z1⟩ := I.list hq
  obtain ⟨u, eu, ru⟩ := r1.get hx
  obtain ⟨old, ge⟩ := st.e
  refine wpAny_pyNext_enum_item ge st.h1 p1.isList (x := u) (by simpa using eu) ne fun h' a1 a2 a3 a4 a5 => ?_
  refine ⟨_, rfl, wpAny_letOwnedTupleGo_enum a1 fun h2 b1 b2 => ?_⟩
  have lt1 : e < s.heap.objs.size := Heap.lt_size ge
  have lt2 : it < s.heap.objs.size := by obtain ⟨o, g, _⟩ := st.h1; exact Heap.lt_size g
  have hlt : ∀ c ∈ [e, it], c < s.heap.objs.size := fun c hc => by
   simp only [List.mem_cons, List.not_mem_nil, or_false] at hc
   rcases hc with rfl | rfl
   ·exact lt1
   ·exact lt2
  have kk : ∀ b o, b ∉ [e, it] → s.heap.get? b = some o → h2.get? b = some o := fun b o hb g => by
   simp only [List.mem_cons, List.not_mem_nil, or_false, not_or] at hb
   exact b2.extBut b o hb.1 (a5 b o hb.1 hb.2 g)
  have gp := b2.extBut _ _ (Nat.ne_of_gt lt1) a3
  have hn : H s.heap.objs.size = none := I.hok.fresh (Nat.le_refl _)
  have nit : ∀ b u, H b = some u → b ∉ [e, it] := fun b u g w => by rw [(hf b w).1] at g; cases g
  have hL : X.env.locals ∉ [e, it] := fun w => (hf _ w).2.1 rfl
  have I2 : Inv X pins σ (upd H s.heap.objs.size (.tup [.int i, x])) { s with heap := h2, toks := s.toks + 1 } := by
   refine I.step (g' := s.gens) (d' := s.drawn) (t' := s.toks + 1) (ch := [e, it]) (fun b hb => ⟨(hf b hb).2.2.2.1, (hf b hb).2.1, (hf b hb).2.2.2.2.1, (hf b hb).2.2.2.2.2⟩) (fun b o _ _ hc g _ => kk b o hc g) (fun b o _ _ hc g _ => ⟨o.slots, kk b o hc g⟩)
    (fun b o _ g n => by rw [zaj (Nat.ne_of_lt (Heap.lt_size g))]; exact n) (fun b o hc g => ⟨o, kk b o hc g⟩) (fun _ _ g => zab g hn) (fun _ _ _ g => zab g hn) (fun b ps g => ⟨#[], by rw [zab g hn]; simp⟩) (fun m hm => ?_) (fun b w g => ?_) I.bare
   ·obtain ⟨o, es, ep, ho, r⟩ := hm
    exact ⟨o, es, ep, kk _ o hL ho, r⟩
   ·by_cases hb : b = s.heap.objs.size
    ·subst hb
     rw [zaa] at g
     cases g
     exact ⟨by rw [sizeLine_eq]; show 2 ≤ 16777216; decide, [.int i s.toks, u], .cons ⟨_, rfl⟩ (.cons ru .nil), ⟨_, gp, rfl, _, rfl⟩⟩
    ·rw [zaj hb] at g
     refine (I.hok b w g).stay (fun c v hc q => kk c v ?_ q) (fun _ q => zab q hn) fun _ _ q => zab q hn
     rcases hc with t | t
     ·rw [t]; exact nit b w g
     ·exact nit c _ t
  refine ⟨.ref s.heap.objs.size, _, I2, rfl, ⟨_, x, rfl, hn, rfl, fun zs hz => by rw [I.list_inj hz hq]; exact hx⟩, ⟨⟨u, by have := b1; simpa using this⟩, a2.extBut b2.extBut ne.symm⟩, fun b hb => ?_⟩
  rw [zaj (Nat.ne_of_lt (hlt b hb))]
  exact (hf b hb).1
 done := by
  intro X hP hw hK hc i pins s σ H E I hf st hg
  subst hP hw hK
  obtain ⟨xs, hq, hor⟩ := hg
  obtain ⟨us, r1, p1, z1⟩ := I.list hq
  obtain ⟨old, ge⟩ := st.e
  have ln := r1.length
  refine wpAny_pyNext_enum_end (I.ok.hd hc) ge st.h1 p1.isList (by simp; omega) fun h' kk => ⟨rfl, I.turnedL (t' := s.toks) (ch := [e, it]) (fun b o hb g => ?_) hf⟩
  simp only [List.mem_cons, List.not_mem_nil, or_false, not_or] at hb
  exact kk b o hb.2 g
 self := fun _ _ _ _ _ st h => by
  obtain ⟨old, ge⟩ := st.e
  exact wpAny_pyIter_enum ge h
section
variable {X : Cx}
def zid (K : PySem.W.Frag) (ta : TA) : TI := fun σ H R => ta σ H fun vs H1 => ∃ l, vs = [.ref l] ∧ (∃ xs, SqL K H1 l xs) ∧ R (Ite K l) H1
theorem zhC {es : List Expr} {tk : Nat} {tpos : Pos} {a : Expr} {ta : TA} {p pos : Pos} (hg : Gl X "enumerate") (hm : X.mg "enumerate" = none) (ha : PA X [a] ta) (hs : starEach [a] X.env = [(false, eval a X.env)] := by rfl) (hs2 : starEach [] X.env = [] := by rfl) :
  PI X (.Tuple es tk tpos) (.Call (.Name "enumerate" p) [a] [] pos) (zid X.K ta) := by
 intro pins s σ H R I h
 refine Call_ (zbV I hg hm boot_enumerate (PyProof.Rows.callWith_type1 (thn (ha pos pins s σ H _ I h) fun us s1 ⟨vs, H1, I1, r1, q1⟩ => ?_) (by rw [hs, hs2]) (by rw [hs2]; rfl)))
 obtain ⟨l, rfl, ⟨xs, hq⟩, q⟩ := q1
 obtain ⟨u1, rfl, ru1⟩ := zct r1
 cases ru1
 obtain ⟨us, rv, p1, z1⟩ := I1.list hq
 refine call_enumerate_list p1.isList fun h2 g1 g2 g3 g4 => wpAny_pyIter_enum g1 ?_
 refine ⟨_, [s1.heap.objs.size + 1, s1.heap.objs.size], _, _, H1, rfl, I1.kept (t' := s1.toks) g4, ze9 _ _ l (Nat.ne_of_gt (Nat.lt_succ_self _)), ⟨⟨_, g1⟩, g2⟩, fun b hb => ?_, q⟩
 have hb2 : s1.heap.objs.size ≤ b := by
  simp only [List.mem_cons, List.not_mem_nil, or_false] at hb
  rcases hb with rfl | rfl
  ·exact Nat.le_add_right _ _
  ·exact Nat.le_refl _
 exact I1.fpOk hb2 (I1.hok.fresh hb2)
end
theorem forE {K : PySem.W.Frag} {ta : TA} {g : TG} {tb : TS} {D : Ends} {σ : St} {H H1 : Hp} (l : Addr) (xs : List V) (hr : ∀ Q, Q [.ref l] H1 → ta σ H Q) (Pv : Nat → St → Hp → Prop) (h0 : Pv 0 σ H1) (hl : ∀ i σ H, i ≤ xs.length → Pv i σ H → SqL K H l xs)
  (hs : ∀ i x p σ H, xs[i]? = some x → Pv i σ H → H p = none → g (.ref p) σ (upd H p (.tup [.int i, x])) fun σ2 H2 => tb { D with nx := Pv (i + 1), ct := Pv (i + 1), bk := D.nx } σ2 H2) (hd : ∀ σ H, Pv xs.length σ H → D.nx σ H) : tFor (zid K ta) g tb D σ H := by
 refine hr _ ⟨l, rfl, ⟨xs, hl 0 σ H1 (Nat.zero_le _) h0⟩, fun i m σ H => m = xs.length - i ∧ i ≤ xs.length ∧ Pv i σ H, ⟨xs.length, by simp, Nat.zero_le _, h0⟩, ?_⟩
 rintro i m σ H ⟨rfl, hi, p⟩
 have q := hl i σ H hi p
 by_cases c : i < xs.length
 ·refine .inr ⟨⟨xs, xs[i], q, List.getElem?_eq_getElem c⟩, Pv (i + 1), fun σ' H' p' => ⟨xs.length - (i + 1), by omega, rfl, c, p'⟩, fun x H' y => ?_⟩
  obtain ⟨pp, x', rfl, hn, rfl, hx⟩ := y
  exact hs i x' pp σ H (hx xs q) p hn
 ·have e : i = xs.length := by omega
  subst e
  exact .inl ⟨⟨xs, q, Nat.le_refl _⟩, hd _ _ p⟩
end L2
set_option Elab.async false
set_option linter.all false
set_option maxRecDepth 100000
namespace PySem
namespace F
theorem owner_set_iterator : Manifest.owners.lookup (String.ofList ['r', 'o', 't', 'a', 'r', 'e', 't', 'i', '_', 't', 'e', 's'].reverse) = some Manifest.sig_set_iterator := by kernel_rfl
theorem slot_set_iterator_next : Slot "set_iterator" "__next__" "set_iterator.__next__" :=
 .of (owner := "set_iterator") (n := "__next__") (by rw [typeLookup_type, builtinLookup_eq_fast]; kernel_rfl) (by decide +kernel) (by decide +kernel) (by decide +kernel)
  (by first | exact .inl (by decide +kernel) | exact .inr (by decide +kernel)) (by rw [isSubtype_type]; kernel_rfl)
theorem slot_set_iterator_iter : Slot "set_iterator" "__iter__" "set_iterator.__iter__" :=
 .of (owner := "set_iterator") (n := "__iter__") (by rw [typeLookup_type, builtinLookup_eq_fast]; kernel_rfl) (by decide +kernel) (by decide +kernel) (by decide +kernel)
  (by first | exact .inl (by decide +kernel) | exact .inr (by decide +kernel)) (by rw [isSubtype_type]; kernel_rfl)
theorem entry_set_iterator_next : entryFor table "set_iterator.__next__" = some Builtin.«set_iterator.__next__» := entryFor_of_tree (by kernel_rfl)
theorem entry_set_iterator_iter : entryFor table "set_iterator.__iter__" = some Builtin.«dict_keyiterator.__iter__» :=
 entryFor_alias (id' := "dict_keyiterator.__iter__") (by kernel_rfl) rfl (by decide +kernel) (by kernel_rfl)
theorem entry_set_iter : entryFor table "set.__iter__" = some Builtin.«frozenset.__iter__» :=
 entryFor_alias (id' := "frozenset.__iter__") (by kernel_rfl) rfl (by decide +kernel) (by kernel_rfl)
theorem args_set_iterator_next_1 (a : Value) : argsOk "set_iterator.__next__" ⟨[a], []⟩ := by
 unfold argsOk; rw [signature?_of (id := "set_iterator.__next__") (n := ['_', '_', 't', 'x', 'e', 'n', '_', '_']) (o := ['r', 'o', 't', 'a', 'r', 'e', 't', 'i', '_', 't', 'e', 's']) (by kernel_rfl) owner_set_iterator]; kernel_rfl
theorem args_set_iterator_iter_1 (a : Value) : argsOk "set_iterator.__iter__" ⟨[a], []⟩ := by
 unfold argsOk; rw [signature?_of (id := "set_iterator.__iter__") (n := ['_', '_', 'r', 'e', 't', 'i', '_', '_']) (o := ['r', 'o', 't', 'a', 'r', 'e', 't', 'i', '_', 't', 'e', 's']) (by kernel_rfl) owner_set_iterator]; kernel_rfl
end F
/-- what a walk of a set finds at its place i, and where it stands then -/
structure SetWalked (w : World) (a : Addr) (es : Array (Int × Value)) (ep : Nat) (t : SetTable) : Prop where
 fits : t.fits es.size = true
 plain : t.plain = true
 led : t.led = !w.params.followText "set-order"
 rise : ∀ i j, i < j → j < es.size → t.place.getD i 0 < t.place.getD j 0
def zbm (t : SetTable) (i : Nat) : Nat := if i = 0 then 0 else t.place.getD (i - 1) 0 + 1
def Heap.IsSetIter (h : Heap) (it a : Addr) (sl i n ep : Nat) : Prop :=
 h.get? it = some { cls := .type "set_iterator", data := .fields #[.int sl 0, .int i 0, .ref a, .int n 0, .int ep 0] }
theorem zbH (xs : Array Nat) (j p : Nat) (h1 : ∀ i, i < p → xs.getD i j < j) (h2 : ∀ i, p ≤ i → i < xs.size → ¬ xs.getD i j < j) :
  ∀ (fuel lo hi : Nat), lo ≤ p → p ≤ hi → hi ≤ xs.size → hi - lo ≤ fuel → SetTable.below.go xs j fuel lo hi = p
 | 0, lo, hi, a, b, c, d => by unfold SetTable.below.go; omega
 | fuel + 1, lo, hi, a, b, c, d => by
  unfold SetTable.below.go
  by_cases e : lo < hi
  ·rw [if_pos e]
   dsimp only
   by_cases f : xs.getD ((lo + hi) / 2) j < j
   ·rw [if_pos f]
    have : (lo + hi) / 2 < p := by
     by_cases g : (lo + hi) / 2 < p
     ·exact g
     ·exact absurd f (h2 _ (by omega) (by omega))
    exact zbH xs j p h1 h2 fuel _ _ (by omega) b c (by omega)
   ·rw [if_neg f]
    have : p ≤ (lo + hi) / 2 := by
     by_cases g : (lo + hi) / 2 < p
     ·exact absurd (h1 _ g) f
     ·omega
    exact zbH xs j p h1 h2 fuel _ _ a this (by omega) (by omega)
  ·rw [if_neg e]; omega
theorem zgN {t : SetTable} {n i : Nat} (hn : t.place.size = n) (hr : ∀ i j, i < j → j < n → t.place.getD i 0 < t.place.getD j 0) (hi : i ≤ n) : SetTable.below t.place (zbm t i) = i := by
 have gd : ∀ k d, k < n → t.place.getD k d = t.place.getD k 0 := fun k d h => by
  simp only [Array.getD_eq_getD_getElem?, Array.getElem?_eq_getElem (show k < t.place.size by omega), Option.getD_some]
 refine zbH _ _ i (fun k hk => ?_) (fun k hk hk2 => ?_) _ _ _ (Nat.zero_le _) (by omega) (Nat.le_refl _) (by omega)
 ·rw [gd k _ (by omega)]
  unfold zbm
  rw [if_neg (by omega)]
  by_cases c : k = i - 1
  ·rw [c]; omega
  ·have := hr k (i - 1) (by omega) (by omega); omega
 ·rw [gd k _ (by omega)]
  unfold zbm
  by_cases c : i = 0
  ·rw [if_pos c]; omega
  ·rw [if_neg c]
   have := hr (i - 1) k (by omega) (by omega)
   omega
end PySem
namespace PySem
section
variable {prog : Program} {w : World} {A : Around} {E : Value → Shared → Prop} {s : Shared}
/-- the order in which a set is walked -/
def zaZ (w : World) (a : Addr) (es : Array (Int × Value)) (ep : Nat) : Array (Int × Value) := if w.params.followText "set-order" then pickOrder (w.params.setOrder a ep) es else es
theorem zb2 {a : Addr} {es : Array (Int × Value)} {ep : Nat} {t : SetTable} {Q : Value → Shared → Prop} (ho : s.heap.get? a = some { cls := .type "set", data := .set es ep t }) (hw : SetWalked w a es ep t)
  (hQ : Q (.ref s.heap.objs.size) { s with heap := s.heap.push { cls := .type "set_iterator", data := .fields #[.int 0 0, .int 0 0, .ref a, .int es.size 0, .int ep 0] } }) :
  wpAny (model prog w) A (pyIter (.ref a)) Q E s := by
 have hT : s.TypeIs (.ref a) "set" := ⟨_, ho, rfl⟩
 refine wpAny_pyIter_slot hT F.slot_set_iter (wpAny_call_entry F.slot_set_iter hT F.entry_set_iter ?_ (F.args_set_iter_1 _))
 unfold Builtin.«frozenset.__iter__» Builtin.Frozenset.slot0 slotArgs
 simp only [List.isEmpty_nil, Bool.not_true, Bool.false_eq_true, ↓reduceIte, bind_assoc, List.length_nil, bne_self_eq_false]
 unfold Builtin.Frozenset.addrOf Builtin.Frozenset.sizeOf
 refine wpAny_bind (wpAny_pure ?_)
 try dsimp only
 refine wpAny_bind (wpAny_pure ?_)
 refine wpAny_bind (wpAny_bind (wpAny_setEntries_of ho rfl hw.fits (wpAny_pure ?_)))
 refine wpAny_bind ?_
 unfold setDrawn
 refine wpAny_bind (wpAny_setState_of ho rfl hw.fits ?_)
 dsimp only
 unfold setsByText
 refine wpAny_bind (wpAny_bind (wpAny_askSetting (wpAny_pure ?_)))
 refine wpAny_pure ?_
 rw [if_neg (by
  show ¬ (!_ && (!t.plain && _)) = true
  rw [hw.plain]
  simp)]
 refine wpAny_bind (wpAny_pure ?_)
 refine wpAny_bind (wpAny_setEpoch_of ho rfl hw.fits ?_)
 unfold newFields
 refine wpAny_bind (wpAny_newObj_type (wpAny_pure ⟨_, rfl, "set_iterator", _, ⟨_, Heap.get?_push_size _ rfl, rfl⟩, F.slot_set_iterator_next.lookup, ?_⟩))
 exact hQ
theorem Heap.IsSetIter.typeIs {it a sl i n ep} (x : s.heap.IsSetIter it a sl i n ep) : s.TypeIs (.ref it) "set_iterator" := ⟨_, x, rfl⟩
theorem zbt {it a : Addr} {sl i n ep : Nat} {Q : Value → Shared → Prop} (hit : s.heap.IsSetIter it a sl i n ep) (h : Q (.ref it) s) : wpAny (model prog w) A (pyIter (.ref it)) Q E s := by
 refine wpAny_pyIter_slot hit.typeIs F.slot_set_iterator_iter (wpAny_call_entry F.slot_set_iterator_iter hit.typeIs F.entry_set_iterator_iter ?_ (F.args_set_iterator_iter_1 _))
 show wpAny _ _ (ret (.ref it)) _ _ s
 exact wpAny_pure ⟨_, rfl, "set_iterator", _, hit.typeIs, F.slot_set_iterator_next.lookup, h⟩
/-- where a walk stands at place i -/
def zbp (w : World) (t : SetTable) (sl i : Nat) : Prop := w.params.followText "set-order" = true ∨ sl = zbm t i
theorem zbM {a : Addr} {es : Array (Int × Value)} {ep sl i : Nat} {t : SetTable} {Q : Option (Value × Nat) → Shared → Prop} (ho : s.heap.get? a = some { cls := .type "set", data := .set es ep t }) (hw : SetWalked w a es ep t)
  (hs : zbp w t sl i) (hi : i ≤ es.size) (h1 : ∀ x, (zaZ w a es ep)[i]? = some x → ∀ sl', zbp w t sl' (i + 1) → Q (some (x.2, sl')) s) (h2 : (zaZ w a es ep)[i]? = none → Q none s) :
  wpAny (model prog w) A (setNext a sl i ep) Q E s := by
 unfold setNext setsByText
 refine wpAny_bind (wpAny_setState_of ho rfl hw.fits ?_)
 dsimp only
 refine wpAny_bind (wpAny_bind (wpAny_askSetting (wpAny_pure ?_)))
 cases ht : w.params.followText "set-order" with
 | true =>
  rw [show (model prog w).w.params.followText "set-order" = true from ht]
  rw [if_pos rfl]
  rw [if_neg (by simp)]
  unfold setWalk setsByText
  refine wpAny_bind (wpAny_bind (wpAny_setState_of ho rfl hw.fits ?_))
  dsimp only
  refine wpAny_bind (wpAny_bind (wpAny_askSetting (wpAny_pure ?_)))
  rw [show (model prog w).w.params.followText "set-order" = true from ht]
  rw [if_pos rfl]
  refine wpAny_bind (wpAny_askSetting ?_)
  refine wpAny_pure (wpAny_pure ?_)
  have eo : zaZ w a es ep = pickOrder (w.params.setOrder a ep) es := by unfold zaZ; rw [if_pos ht]
  rw [eo] at h1 h2
  show Q (((pickOrder (w.params.setOrder a ep) es)[i]?).map fun e => (e.2, sl)) s
  cases e : (pickOrder (w.params.setOrder a ep) es)[i]? with
  | none => exact h2 e
  | some x => exact h1 x e sl (.inl ht)
 | false =>
  rw [show (model prog w).w.params.followText "set-order" = false from ht]
  rw [if_neg (by simp)]
  rw [if_neg (by
   show ¬ (!t.plain && _) = true
   rw [hw.plain]
   simp)]
  have hl : t.led = true := by rw [hw.led, ht]; rfl
  have eo : zaZ w a es ep = es := by unfold zaZ; rw [if_neg (by rw [ht]; simp)]
  rw [eo] at h1 h2
  have hsz : t.place.size = es.size := by have := hw.fits; simp only [SetTable.fits, Bool.and_eq_true, beq_iff_eq] at this; exact this.1
  have hst : sl = zbm t i := by rcases hs with z | z; (· rw [ht] at z; cases z); exact z
  rw [hst, zgN hsz hw.rise hi]
  refine wpAny_bind (show wpAny (model prog w) A (if (!t.led && !es.isEmpty) = true then unsupported "set:maker-not-led" else pure ()) _ E s from ?_)
  rw [hl, if_neg (by simp)]
  refine wpAny_pure (wpAny_pure ?_)
  by_cases c : i < es.size
  ·have e1 : es[i]? = some es[i] := Array.getElem?_eq_getElem c
   have e2 : t.place[i]? = some (t.place[i]'(by omega)) := Array.getElem?_eq_getElem (by omega)
   rw [e1, e2]
   refine h1 _ e1 _ (.inr ?_)
   unfold zbm
   rw [if_neg (by omega), Nat.add_sub_cancel]
   simp [Array.getD_eq_getD_getElem?, e2]
  ·have e1 : es[i]? = none := Array.getElem?_eq_none (by omega)
   rw [e1]
   exact h2 e1
theorem zbi {it a : Addr} {es : Array (Int × Value)} {ep sl i : Nat} {t : SetTable} {x : Int × Value} {Q : Option Value → Shared → Prop} (hit : s.heap.IsSetIter it a sl i es.size ep)
  (ho : s.heap.get? a = some { cls := .type "set", data := .set es ep t }) (hw : SetWalked w a es ep t) (hs : zbp w t sl i) (hi : i ≤ es.size) (hx : (zaZ w a es ep)[i]? = some x)
  (hQ : ∀ h' sl', zbp w t sl' (i + 1) → h'.IsSetIter it a sl' (i + 1) es.size ep → Heap.SameBut it s.heap h' → Q (some x.2) { s with heap := h' }) :
  wpAny (model prog w) A (pyNext (.ref it)) Q E s := by
 unfold pyNext
 refine wpAny_bind (wpAny_attempt (wpAny_callSpecial?_slot (name := Str.ofString "__next__") hit.typeIs F.slot_set_iterator_next
  (wpAny_call_entry F.slot_set_iterator_next hit.typeIs F.entry_set_iterator_next ?_ (F.args_set_iterator_next_1 _))))
 unfold Builtin.«set_iterator.__next__» slotArgs
 simp only [List.isEmpty_nil, Bool.not_true, Bool.false_eq_true, ↓reduceIte, bind_assoc, List.length_nil, bne_self_eq_false]
 refine wpAny_bind (wpAny_pure ?_)
 refine wpAny_bind (wpAny_fieldsOf hit rfl ?_)
 dsimp only
 refine wpAny_bind (wpAny_setEntries_of ho rfl hw.fits ?_)
 rw [if_neg (by simp)]
 simp only [Int.toNat_natCast]
 refine wpAny_bind (zbM ho hw hs hi (fun y hy sl' hs' => ?_) (fun h => by rw [hx] at h; cases h))
 rw [hx] at hy
 cases hy
 dsimp only
 refine wpAny_bind (wpAny_setField (vs := #[.int sl 0, .int i 0, .ref a, .int es.size 0, .int ep 0]) hit rfl (by simp) ?_)
 have g1 := Heap.get?_update_self (Obj.mapFields (·.setIfInBounds 0 (rawInt ((sl' : Nat) : Int)))) hit rfl
 refine wpAny_bind (wpAny_setField (vs := #[.int sl' 0, .int i 0, .ref a, .int es.size 0, .int ep 0]) g1 rfl (by simp) ?_)
 have g2 := Heap.get?_update_self (Obj.mapFields (·.setIfInBounds 1 (rawInt (((i : Nat) : Int) + 1)))) g1 rfl
 refine wpAny_pure ⟨_, rfl, wpAny_pure (hQ _ sl' hs' ?_ ((Heap.SameBut.update ..).trans (Heap.SameBut.update ..)))⟩
 exact g2
theorem zbv {it a : Addr} {es : Array (Int × Value)} {ep sl i : Nat} {t : SetTable} {Q : Option Value → Shared → Prop} (hh : A.handled = none) (hit : s.heap.IsSetIter it a sl i es.size ep)
  (ho : s.heap.get? a = some { cls := .type "set", data := .set es ep t }) (hw : SetWalked w a es ep t) (hs : zbp w t sl i) (hi : i ≤ es.size) (hx : (zaZ w a es ep)[i]? = none)
  (hQ : ∀ h', Heap.ExtBut it s.heap h' → Q none { s with heap := h' }) :
  wpAny (model prog w) A (pyNext (.ref it)) Q E s := by
 unfold pyNext
 refine wpAny_bind (wpAny_attempt (wpAny_callSpecial?_slot (name := Str.ofString "__next__") hit.typeIs F.slot_set_iterator_next
  (wpAny_call_entry F.slot_set_iterator_next hit.typeIs F.entry_set_iterator_next ?_ (F.args_set_iterator_next_1 _))))
 unfold Builtin.«set_iterator.__next__» slotArgs
 simp only [List.isEmpty_nil, Bool.not_true, Bool.false_eq_true, ↓reduceIte, bind_assoc, List.length_nil, bne_self_eq_false]
 refine wpAny_bind (wpAny_pure ?_)
 refine wpAny_bind (wpAny_fieldsOf hit rfl ?_)
 dsimp only
 refine wpAny_bind (wpAny_setEntries_of ho rfl hw.fits ?_)
 rw [if_neg (by simp)]
 simp only [Int.toNat_natCast]
 refine wpAny_bind (zbM ho hw hs hi (fun y hy sl' hs' => by rw [hx] at hy; cases hy) (fun _ => ?_))
 dsimp only
 refine wpAny_bind (wpAny_setField (vs := #[.int sl 0, .int i 0, .ref a, .int es.size 0, .int ep 0]) hit rfl (by simp) ?_)
 show wpAny _ _ (newExc (.type "StopIteration") [] >>= _) _ _ _
 refine wpAny_bind ?_
 simp only [newExc, newTuple]
 refine wpAny_bind (wpAny_newObj_type ?_ (by size_fits))
 refine wpAny_bind (m := firstArgMember _ _) (wpAny_of_eq (a := Value.none) (by first | rfl | (simp only [firstArgMember]; rfl)) ?_)
 refine wpAny_newObj_type ?_ (by size_fits)
 simp only [raiseNew]
 refine wpAny_bind (wpAny_handled ?_)
 rw [show A.in1.handled = none from hh]
 refine wpAny_bind (wpAny_pure (wpAny_throw ?_))
 refine wpAny_bind (wpAny_isInstance (T := "StopIteration") (b := true) ⟨_, Heap.get?_push_size _ rfl, rfl⟩ isSubtype_stop ?_)
 exact wpAny_pure (hQ _ (((Heap.SameBut.update ..).extBut.push _).push _))
theorem zbK {α : Type} : ∀ {l : List α} {i : Nat} (h : i < l.length), (l[i] :: l.eraseIdx i).Perm l
 | x :: r, 0, _ => .refl _
 | x :: r, i + 1, h => by
  have h' : i < r.length := by simpa using h
  show (r[i] :: x :: r.eraseIdx i).Perm (x :: r)
  exact (List.Perm.swap ..).trans ((zbK h').cons _)
theorem zbY {α : Type} (next : Nat → Nat) : ∀ (fuel k : Nat) (left : List α) (out : Array α), left.length ≤ fuel → (pickOrder.go next fuel k left out).toList.Perm (out.toList ++ left)
 | 0, k, left, out, h => by
  have : left = [] := List.eq_nil_of_length_eq_zero (by omega)
  subst this
  unfold pickOrder.go
  simp
 | fuel + 1, k, left, out, h => by
  unfold pickOrder.go
  cases e : left[next k % left.length]? with
  | none =>
   have : left = [] := by
    cases left with
    | nil => rfl
    | cons x r =>
     have := Nat.mod_lt (next k) (show 0 < (x :: r).length by simp)
     rw [List.getElem?_eq_getElem this] at e; cases e
   subst this
   simp
  | some x =>
   obtain ⟨hl, hx⟩ := List.getElem?_eq_some_iff.mp e
   dsimp only
   refine (zbY next fuel (k + 1) _ _ (by rw [List.length_eraseIdx, if_pos hl]; omega)).trans ?_
   rw [Array.toList_push, List.append_assoc]
   refine List.Perm.append_left _ ?_
   have := (zbK hl)
   rw [hx] at this
   exact this
theorem zcl (w : World) (a : Addr) (es : Array (Int × Value)) (ep : Nat) : (zaZ w a es ep).toList.Perm es.toList := by
 unfold zaZ
 split
 ·have := zbY (w.params.setOrder a ep) es.size 0 es.toList #[] (by simp)
  simpa [pickOrder] using this
 ·exact .refl _
theorem zbB (w : World) (a : Addr) (es : Array (Int × Value)) (ep : Nat) : (zaZ w a es ep).size = es.size := by
 have := (zcl w a es ep).length_eq
 simpa using this
theorem Walks.setKeys (hh : A.handled = none) (I a : Addr) (hne : a ≠ I) {es : Array (Int × Value)} {ep : Nat} {t : SetTable} (hw : SetWalked w a es ep t) :
  Walks prog w A I [I, a] [I] es.size (fun i v => ∃ x, (zaZ w a es ep)[i]? = some x ∧ v = x.2) (fun i h => (∃ sl, zbp w t sl i ∧ h.IsSetIter I a sl i es.size ep) ∧ h.get? a = some { cls := .type "set", data := .set es ep t } ∧ i ≤ es.size) where
 sub := fun b hb => by simp at hb; simp [hb]
 frame := fun _ _ _ st hk => by
  obtain ⟨⟨sl, h1, h2⟩, h3, h4⟩ := st
  exact ⟨⟨sl, h1, hk I (by simp) _ h2⟩, hk a (by simp) _ h3, h4⟩
 item := fun i s Q E hi st hQ => by
  obtain ⟨⟨sl, h1, h2⟩, h3, h4⟩ := st
  obtain ⟨x, hx⟩ : ∃ p, (zaZ w a es ep)[i]? = some p := ⟨_, Array.getElem?_eq_getElem (by rw [zbB]; exact hi)⟩
  refine zbi h2 h3 hw h1 h4 hx fun h' sl' hs' hi' sb => ?_
  exact hQ _ h' s.toks ⟨x, hx, rfl⟩ ⟨⟨sl', hs', hi'⟩, sb.extBut a _ hne h3, hi⟩ fun b o hb e => sb.extBut b o (fun h => hb (by simp [h])) e
 done := fun s Q E st hQ => by
  obtain ⟨⟨sl, h1, h2⟩, h3, h4⟩ := st
  exact zbv hh h2 h3 hw h1 h4 (Array.getElem?_eq_none (by rw [zbB]; exact Nat.le_refl _)) fun h' he' => hQ h' s.toks fun b o hb e => he' b o (fun h => hb (by simp [h])) e
 self := fun _ _ _ _ st hQ => by
  obtain ⟨⟨sl, h1, h2⟩, h3, h4⟩ := st
  exact zbt h2 hQ
end
end PySem
namespace PySem
/-- the table after one, and after two -/
def zaU (x : Int) (led : Bool) : SetTable := ((SetTable.fresh 0 0 led).put (((SetTable.fresh 0 0 led).freeSlot x).getD (0, false)).1).1
def zbL (x y : Int) (led : Bool) : SetTable × Nat := (zaU x led).put (((zaU x led).freeSlot y).getD (0, false)).1
def zeP (x : Int) (led : Bool) : Bool := ((SetTable.fresh 0 0 led).freeSlot x).map (·.2) == some false && (zaU x led).fits 1 && (zaU x led).plain && ((zaU x led).led == led) && !(zaU x led).tooFull
def zeZ (x y : Int) (led : Bool) : Bool := ((zaU x led).freeSlot y).map (·.2) == some false && (zbL x y led).1.fits 2 && (zbL x y led).1.plain && ((zbL x y led).1.led == led) && !(zbL x y led).1.tooFull && decide ((zbL x y led).1.place.getD 0 0 < (zbL x y led).1.place.getD 1 0)
theorem one_ok : ∀ x : Nat, x < 48 → zeP x true = true ∧ zeP x false = true := by decide +kernel
theorem two_ok : ∀ x : Nat, x < 48 → ∀ y : Nat, y < 48 → x ≠ y → zeZ x y true = true ∧ zeZ x y false = true := by decide +kernel
theorem hash_small : ∀ x : Nat, x < 48 → hashInt x = x := by decide +kernel
end PySem
namespace PySem
section
variable {prog : Program} {w : World} {A : Around} {E : Value → Shared → Prop} {s : Shared}
theorem zcM {a : Addr} {es es' : Array (Int × Value)} {ep : Nat} {t t' : SetTable} {v : Int} {tk : Nat} {Q : Bool → Shared → Prop} (ho : s.heap.get? a = some { cls := .type "set", data := .set es ep t }) (hf : t.fits es.size = true)
  (hel : ElemsOf (intKind prog w) es.toList) (hb : es.size + 1 < scanBound) (hz : es'.size ≤ sizeLine) (hnew : List.findIdx? (fun e => (intKind prog w).is v e.2) es.toList = none) (hL : layNew t es (hashInt v) (.int v tk) = (es', t', false, false)) (hp : t'.plain = true) (hfull : t'.tooFull = false)
  (h : ∀ h', Heap.SameBut a s.heap h' → h'.get? a = some { cls := .type "set", data := .set es' (ep + 1) t' } → Q true { s with heap := h' }) :
  wpAny (model prog w) A (setAddHashed a (.int v tk) ((intKind prog w).hash v)) Q E s := by
 have hkey : (intKind prog w).is v (.int v tk) = true := by simp [intKind, Value.isInt]
 unfold setAddHashed setAddHashedIn
 refine wpAny_holding (wpAny_bind (wpAny_setState_of ho rfl hf ?_))
 dsimp only
 rw [byScan_of (knd := intKind prog w) rfl (by omega) hel]
 simp only [↓reduceIte]
 unfold setAddByScan
 refine wpAny_bind ?_
 refine wpAny_bind (wpAny_rule ?_)
 refine wpAny_bind (wpAny_setScan_of hkey ho rfl hf hel ?_)
 rw [hnew]
 dsimp only
 rw [show (intKind prog w).hash v = hashInt v from rfl, hL]
 dsimp only
 have hgw : ∀ {s₁ : Shared} {Q' : Unit → Shared → Prop}, Q' () s₁ → wpAny (model prog w) A (match false with | true => rule "set.scan.the-table-gave-way" | false => pure ()) Q' E s₁ := fun hq => wpAny_pure hq
 refine wpAny_bind (hgw ?_)
 rw [if_pos hp]
 rw [hashByValue_scannable 8 rfl]
 refine wpAny_bind (wpAny_pure ?_)
 rw [show plainKind (.int v tk) = true from rfl, if_pos rfl]
 refine wpAny_bind (wpAny_storeSet_of ho rfl ?_ hz)
 rw [hfull, if_neg (by simp)]
 refine wpAny_pure ?_
 dsimp only
 refine wpAny_pure (h _ (Heap.SameBut.update s.heap a (Obj.putSet es' t')) ?_)
 have := Heap.get?_update_self (Obj.putSet es' t') ho rfl
 exact this
theorem zeJ {a : Addr} {es : Array (Int × Value)} {ep j : Nat} {t : SetTable} {v : Int} {tk : Nat} {Q : Bool → Shared → Prop} (ho : s.heap.get? a = some { cls := .type "set", data := .set es ep t }) (hf : t.fits es.size = true)
  (hel : ElemsOf (intKind prog w) es.toList) (hb : es.size + 1 < scanBound) (hold : List.findIdx? (fun e => (intKind prog w).is v e.2) es.toList = some j)
  (h : Q false s) :
  wpAny (model prog w) A (setAddHashed a (.int v tk) ((intKind prog w).hash v)) Q E s := by
 have hkey : (intKind prog w).is v (.int v tk) = true := by simp [intKind, Value.isInt]
 unfold setAddHashed setAddHashedIn
 refine wpAny_holding (wpAny_bind (wpAny_setState_of ho rfl hf ?_))
 dsimp only
 rw [byScan_of (knd := intKind prog w) rfl (by omega) hel]
 simp only [↓reduceIte]
 unfold setAddByScan
 refine wpAny_bind ?_
 refine wpAny_bind (wpAny_rule ?_)
 refine wpAny_bind (wpAny_setScan_of hkey ho rfl hf hel ?_)
 rw [hold]
 dsimp only
 exact wpAny_pure (wpAny_pure h)
theorem zeG {x : Int} {u : Value} {led : Bool} (h : zeP x led = true) : layNew (.fresh 0 0 led) #[] x u = (#[(x, u)], zaU x led, false, false) := by
 simp only [zeP, Bool.and_eq_true, beq_iff_eq] at h
 obtain ⟨⟨⟨⟨h1, h2⟩, h3⟩, h4⟩, h5⟩ := h
 unfold layNew
 cases e : (SetTable.fresh 0 0 led).freeSlot x with
 | none => rw [e] at h1; cases h1
 | some p =>
  obtain ⟨sl, b⟩ := p
  rw [e] at h1
  cases (show b = false from Option.some.inj h1)
  have eo : zaU x led = ((SetTable.fresh 0 0 led).put sl).1 := by unfold zaU; rw [e]; rfl
  dsimp only
  rw [← eo]
  have ep : ((SetTable.fresh 0 0 led).put sl).2 = 0 := rfl
  rw [ep]
  have ei : SetTable.insertAt (#[] : Array (Int × Value)) 0 (x, u) = #[(x, u)] := rfl
  rw [ei]
  show (_, (zaU x led).orStandIn 1, false, !(zaU x led).fits 1) = _
  unfold SetTable.orStandIn
  rw [h2]; rfl
theorem zeS {x y : Int} {u v : Value} {led : Bool} (h : zeZ x y led = true) : ∃ es' : Array (Int × Value), layNew (zaU x led) #[(x, u)] y v = (es', (zbL x y led).1, false, false) ∧ es'.toList.Perm [(x, u), (y, v)] := by
 simp only [zeZ, Bool.and_eq_true, beq_iff_eq] at h
 obtain ⟨⟨⟨⟨⟨h1, h2⟩, h3⟩, h4⟩, h5⟩, h6⟩ := h
 have hp := layNew_perm (zaU x led) #[(x, u)] y v
 refine ⟨(layNew (zaU x led) #[(x, u)] y v).1, ?_, hp⟩
 have hs : (layNew (zaU x led) #[(x, u)] y v).1.size = 2 := by
  have := hp.length_eq
  simpa using this
 revert hs
 unfold layNew
 cases e : (zaU x led).freeSlot y with
 | none => rw [e] at h1; cases h1
 | some p =>
  obtain ⟨sl, b⟩ := p
  rw [e] at h1
  cases (show b = false from Option.some.inj h1)
  have eo : zbL x y led = (zaU x led).put sl := by unfold zbL; rw [e]; rfl
  dsimp only
  rw [← eo]
  intro hs
  rw [hs]
  unfold SetTable.orStandIn
  rw [h2]; rfl
end
end PySem
namespace PySem
section
variable {prog : Program} {w : World} {A : Around} {R : Result → Shared → Prop} {I : Addr} {fp wr : List Addr} {G : Array GenState → Array GenState → Prop} {n : Nat} {P : Nat → Value → Prop} {St : Nat → Shared → Prop}
theorem zgm (W : WalksS prog w A.in1 I fp wr G n P St) (S : Addr) (hSf : S ∉ fp) (val : Nat → Int) (hval : ∀ i v, P i v → ∃ t, v = .int (val i) t) (J : Nat → Heap → Prop)
  (hJ : ∀ i h h', J i h → (∀ o, h.get? S = some o → h'.get? S = some o) → J i h')
  (hadd : ∀ i (s : Shared) tk (Q : Bool → Shared → Prop) (E : Value → Shared → Prop), i < n → J i s.heap → (∀ b h', Heap.SameBut S s.heap h' → J (i + 1) h' → Q b { s with heap := h' }) → wpAny (model prog w) A.in1 (setAddHashed S (.int (val i) tk) ((intKind prog w).hash (val i))) Q E s) :
  ∀ (k i : Nat) (s : Shared), n - i = k → i ≤ n → St i s → J i s.heap →
   (∀ s', Moved (S :: wr) G s s' → J n s'.heap → R (.ok (.ret .none)) s') →
   codeAny (model prog w) A (.builtin "set.update.loop" ⟨[.ref S, .ref I], []⟩) R s := by
 have hSw : S ∉ wr := fun h => hSf (W.sub _ h)
 have hsub : ∀ b ∈ wr, b ∈ S :: wr := fun b hb => List.mem_cons_of_mem _ hb
 intro k
 induction k with
 | zero =>
  intro i s hk hi hst hS hR
  have hin : i = n := by omega
  subst hin
  refine codeAny_builtin PyProof.Rows.F.entry_set_update_loop ?_
  rw [Around.under_plainId PyProof.Rows.F.plain_set_update_loop _]
  show wpAny _ A.in1 (pyNext (.ref I) >>= _) _ _ s
  refine wpAny_bind (W.done s _ _ hst fun s' hm => ?_)
  show wpAny _ A.in1 (ret Value.none) _ _ s'
  exact wpAny_pure (hR s' (hm.mono hsub) (hJ _ _ _ hS fun o e => hm.heap S _ hSw e))
 | succ k ih =>
  intro i s hk hi hst hS hR
  have hlt : i < n := by omega
  refine codeAny_builtin PyProof.Rows.F.entry_set_update_loop ?_
  rw [Around.under_plainId PyProof.Rows.F.plain_set_update_loop _]
  show wpAny _ A.in1 (pyNext (.ref I) >>= _) _ _ s
  refine wpAny_bind (W.item i s _ _ hlt hst fun v s' hP hst' hm => ?_)
  obtain ⟨t, rfl⟩ := hval i v hP
  have hS' : J i s'.heap := hJ _ _ _ hS fun o e => hm.heap S _ hSw e
  show wpAny _ A.in1 (holding [Value.int (val i) t] (setAdd S (.int (val i) t)) >>= _) _ _ s'
  refine wpAny_bind (wpAny_holding ?_)
  unfold setAdd
  refine wpAny_holding ?_
  refine wpAny_bind ((intKind prog w).pyHash (k := val i) (intKind_is _ _ _ _) ?_)
  refine hadd i { s' with toks := s'.toks + 1 } t _ _ hlt hS' fun b h' hsb hSi => ?_
  refine wpAny_pure ⟨plainId_quiet PyProof.Rows.F.plain_set_update_loop _, ih (i + 1) _ (by omega) hlt (W.frame _ s' _ _ hst' (Nat.le_succ _) fun b hb o e => ?_) hSi fun s'' hm'' hS'' => ?_⟩
  ·rw [hsb.2 b (fun h : b = S => hSf (by rw [← h]; exact hb))]; exact e
  ·refine hR s'' (Moved.trans W.gtrans ((hm.mono hsub).then_heap (Nat.le_succ _) fun b o hb e => ?_) hm'') hS''
   rw [hsb.2 b (fun h : b = S => hb (by rw [h]; exact List.mem_cons_self))]; exact e
end
section
variable {prog : Program} {w : World} {A : Around} {E : Value → Shared → Prop} {s : Shared}
theorem zbw (a : Value) {Q₁ : Value → Shared → Prop}
  (h : Q₁ (.ref s.heap.objs.size) { s with heap := s.heap.push { cls := .type "set", dict := none, data := .set #[] 0 (.fresh 0 0 (!w.params.followText "set-order")) } }) :
  codeAny (model prog w) A (.call (.builtin "set.__new__") ⟨[.type "set", a], []⟩) (wants Q₁ E) s := by
 refine codeAny_of_tree ?_
 show wpAny _ A.in1 (do checkBuiltinCall "set.__new__" ⟨[.type "set", a], []⟩; again (.builtin "set.__new__" ⟨[.type "set", a], []⟩)) _ _ s
 refine wpAny_bind (wpAny_of_eq (F.newCall_set_1 a) (wpAny_pure ⟨plainId_quiet F.plain_set_new _, codeAny_builtin F.entry_set_new ?_⟩))
 rw [Around.under_plainId F.plain_set_new _]
 unfold Builtin.«set.__new__» Builtin.Frozenset.newClass
 have hsub := sub_set_self
 obtain ⟨hp, g, d, tk, os⟩ := s
 dsimp only
 wp_walk
 refine wpAny_askSetting (wpAny_pure ?_)
 dsimp only
 simp only [newObj]
 refine wpAny_bind (wpAny_alloc (wpAny_pure ?_))
 exact wpAny_pure h
set_option maxHeartbeats 3200000 in
theorem zed {l : Addr} {items : Array Value} (val : Nat → Int) (J : Nat → Heap → Prop) {Q : Value → Shared → Prop}
  (hh : A.handled = none) (hl : s.heap.IsList l items) (hval : ∀ (i : Nat) (v : Value), items[i]? = some v → ∃ t, v = .int (val i) t)
  (h0 : J 0 (s.heap.push { cls := .type "set", dict := none, data := .set #[] 0 (.fresh 0 0 (!w.params.followText "set-order")) }))
  (hJ : ∀ i h h', J i h → (∀ o, h.get? s.heap.objs.size = some o → h'.get? s.heap.objs.size = some o) → J i h')
  (hadd : ∀ i (A : Around) (s1 : Shared) tk (Q : Bool → Shared → Prop) (E : Value → Shared → Prop), i < items.size → J i s1.heap → (∀ b h', Heap.SameBut s.heap.objs.size s1.heap h' → J (i + 1) h' → Q b { s1 with heap := h' }) → wpAny (model prog w) A (setAddHashed s.heap.objs.size (.int (val i) tk) ((intKind prog w).hash (val i))) Q E s1)
  (h : ∀ (h' : Heap) (tk : Nat), J items.size h' → (∀ b o, b < s.heap.objs.size → s.heap.get? b = some o → h'.get? b = some o) → Q (.ref s.heap.objs.size) { s with heap := h', toks := tk }) :
  wpAny (model prog w) A (call (.type "set") [.ref l]) Q E s := by
 obtain ⟨c, tl, hmro⟩ := F.called_set.mro
 have hmade := F.called_set.made
 have hsub := F.called_set.sub
 refine wpAny_call (codeAny_of_tree ?_)
 show wpAny _ _ (callAny (.type "set") _) _ _ _
 refine wpAny_pure ⟨Code.quiet_builtin _ (by decide +kernel), codeAny_builtin F.entry_type_call ?_⟩
 rw [Around.under_plain (weight_type_call_type "set" [.ref l] []) rfl]
 have h1 := F.called_set.notType
 have h2 := F.called_set.canCreate
 have hct := F.typeCall_set_1 (.ref l)
 repeat (any_goals (first | assumption | wp_step))
 refine codeAny_mono (zbw (.ref l) (E := E) (Q₁ := fun obj s₁ => obj = .ref s.heap.objs.size ∧ s₁ = { s with heap := s.heap.push { cls := .type "set", dict := none, data := .set #[] 0 (.fresh 0 0 (!w.params.followText "set-order")) } }) ⟨rfl, rfl⟩) fun r s₁ hr => ?_
 revert h0
 generalize (!w.params.followText "set-order") = led at hr
 intro h0
 cases r with
 | error e => exact hr
 | ok fl =>
  cases fl with
  | ret obj =>
   obtain ⟨rfl, rfl⟩ := hr
   have hS : (s.heap.push { cls := .type "set", dict := none, data := .set #[] 0 (.fresh 0 0 led) }).get? s.heap.objs.size = some { cls := .type "set", dict := none, data := .set #[] 0 (.fresh 0 0 led) } := Heap.get?_push_size _ rfl
   have hT : Shared.TypeIs { s with heap := s.heap.push { cls := .type "set", dict := none, data := .set #[] 0 (.fresh 0 0 led) } } (.ref s.heap.objs.size) "set" := ⟨_, hS, rfl⟩
   have hli := F.called_set.init.lookup
   have hbi := F.called_set.init.bind (.ref s.heap.objs.size)
   repeat (any_goals (first | assumption | wp_step))
   refine codeAny_mono (codeAny_call_builtin (R := wants (fun r s₂ => r = .none ∧ ∃ h' tk, s₂ = { s with heap := h', toks := tk } ∧ J items.size h' ∧
     (∀ b o, b < s.heap.objs.size → s.heap.get? b = some o → h'.get? b = some o)) E) F.called_set.init.plain F.entry_set_init (check_set_init_1 hT ?_)) fun r₂ s₂ hr₂ => ?_
   ·obtain ⟨ol, hol, hcl, nl, hdl⟩ := hl
    obtain ⟨ocls, odict, odata, oslots⟩ := ol
    simp only at hcl hdl
    subst hcl; subst hdl
    have hol' : (s.heap.push { cls := .type "set", dict := none, data := .set #[] 0 (.fresh 0 0 led) }).get? l = some { cls := .type "list", dict := odict, data := .seq items nl, slots := oslots } := Heap.get?_push_of_some _ hol
    have hsls := F.sub_list_set
    have hslf := F.sub_list_frozenset
    have hne : (Value.type "list" == Value.type "dict") = false := by decide
    have hl1 : (s.heap.push { cls := .type "set", dict := none, data := .set #[] 0 (.fresh 0 0 led) }).IsList l items := ⟨_, hol', rfl, nl, rfl⟩
    unfold Builtin.«set.__init__» noKeywords Builtin.Frozenset.updateFrom
    generalize hPI : pyIter = PI
    wp_walk
    subst hPI
    refine wpAny_pyIter_list hl1 ?_
    refine wpAny_bind (wpAny_runValue ?_)
    have hlS : l < s.heap.objs.size := Heap.lt_size hol
    have hh3 : A.in1.in1.in1.handled = none := by simp [hh]
    have hneI : l ≠ (s.heap.push { cls := .type "set", dict := none, data := .set #[] 0 (.fresh 0 0 led) }).objs.size := by
     rw [Heap.size_push]; exact Nat.ne_of_lt (Nat.lt_succ_of_lt hlS)
    have hSf : s.heap.objs.size ∉ [(s.heap.push { cls := .type "set", dict := none, data := .set #[] 0 (.fresh 0 0 led) }).objs.size, l] := by
     rw [Heap.size_push]; simp only [List.mem_cons, List.mem_singleton, List.not_mem_nil, or_false, not_or]
     exact ⟨Nat.ne_of_lt (Nat.lt_succ_self _), Nat.ne_of_gt hlS⟩
    refine zgm ((Walks.list hh3 _ l hneI items).toS) s.heap.objs.size hSf val hval J hJ (fun i s1 tk Q E hi j k => hadd i _ s1 tk Q E hi j k) (items.size - 0) 0 _ (by omega) (Nat.zero_le _)
     ⟨⟨_, Heap.get?_push_size _ rfl, rfl, rfl⟩, (hl1.push _)⟩ (hJ _ _ _ h0 fun o e => Heap.get?_push_of_some _ e) ?hR
    case hR =>
     intro s' hm hS'
     obtain ⟨h', g', d', tk', os'⟩ := s'
     have eg : g' = s.gens := hm.gens
     have ed : d' = s.drawn := hm.drawn
     have eo : os' = s.os := hm.os
     subst eg; subst ed; subst eo
     show wpAny _ _ _ _ _ _
     refine wpAny_pure ?_
     show wpAny _ _ (ret Value.none) _ _ _
     refine wpAny_pure ⟨rfl, h', tk', rfl, hS', fun b o hb e => ?_⟩
     have hb1 : b ≠ s.heap.objs.size := Nat.ne_of_lt hb
     have hb2 : b ≠ (s.heap.push { cls := .type "set", dict := none, data := .set #[] 0 (.fresh 0 0 led) }).objs.size := by
      rw [Heap.size_push]; exact Nat.ne_of_lt (Nat.lt_succ_of_lt hb)
     exact hm.heap b o (by simp only [List.mem_cons, List.mem_singleton, List.not_mem_nil, or_false, not_or]; exact ⟨hb1, hb2⟩) (Heap.get?_push_of_some _ (Heap.get?_push_of_some _ e))
   ·cases r₂ with
    | error e => exact hr₂
    | ok fl₂ =>
     cases fl₂ with
     | ret r =>
      obtain ⟨rfl, h', tk, rfl, hS', hk'⟩ := hr₂
      repeat (any_goals (first | assumption | wp_step))
      exact h _ _ hS' hk'
     | _ => exact hr₂.elim
  | _ => exact hr.elim
end
end PySem
namespace PySem.W
section
variable {prog : Program} {w : World} {A : Around} {E : Value → Shared → Prop} {s : Shared} {r : Addr} {Q : Bool → Shared → Prop}
theorem zdw (hT : s.TypeIs (.ref r) "set") (h : Q false s) : wpAny (model prog w) A (Builtin.List.listLengthHint (.ref r)) Q E s := by
 unfold Builtin.List.listLengthHint
 refine wpAny_bind (wpAny_specialOf hT PySem.F.slot_set_len.lookup ?_)
 generalize hid : ("set.__len__" : String) = id0
 wp_delta
 rw [show splitId id0 = some ("set", "__len__") from by subst hid; decide +kernel]
 subst hid
 refine wpAny_bind (wpAny_isInstance (T := "set") (b := true) hT (by rw [isSubtype_type]; kernel_rfl) ?_)
 refine wpAny_ite_split (fun hab => absurd hab (by decide)) (fun _ => ?_)
 refine wpAny_ite_split (fun _ => ?_) (fun hab => absurd (by decide +kernel) hab)
 refine wpAny_bind (wpAny_typeOf hT ?_)
 exact wpAny_pure h
end
theorem kdl_set {prog : Program} {w : World} {a : Addr} {es : Array (Int × Value)} {ep : Nat} {t : SetTable} (hw : SetWalked w a es ep t) :
  KdlSrc prog w "set" a a es.size (fun i v => ∃ x, (zaZ w a es ep)[i]? = some x ∧ v = x.2) (fun h => h.get? a = some { cls := .type "set", data := .set es ep t }) where
 type := fun _ hm => ⟨_, hm, rfl⟩
 there := fun _ hm => ⟨Heap.lt_size hm, Heap.lt_size hm⟩
 keep := fun _ _ hm hk => hk a (.inl rfl) _ hm
 notList := by decide
 notTuple := by decide
 hint := fun _ _ _ _ hm hq => zdw ⟨_, hm, rfl⟩ hq
 iter := fun _ _ hh hm => ⟨_, _, (fun _ _ hq => zb2 hm hw hq), Walks.setKeys hh _ a (Nat.ne_of_lt (Heap.lt_size hm)) hw, ⟨⟨0, .inr rfl, Heap.get?_push_size _ rfl⟩, Heap.get?_push_of_some _ hm, Nat.zero_le _⟩⟩
end PySem.W
set_option Elab.async false
set_option linter.all false
set_option maxRecDepth 100000
namespace L2
open PySem PySem.Spec PyProof.Rows
/-- a set of ints at a that holds just ns -/
def SetO (w : World) (a : Addr) (ns : List Int) : HO := .ext fun h => ∃ es ep t ms, h.get? a = some { cls := .type "set", data := .set es ep t } ∧ SetWalked w a es ep t ∧ IntsAre (es.toList.map (·.2)) ms ∧ ms.Perm ns
theorem intsAre_perm : ∀ {vs us : List Value} {ns : List Int}, us.Perm vs → IntsAre vs ns → ∃ ms, IntsAre us ms ∧ ms.Perm ns := by
 intro vs us ns p
 induction p generalizing ns with
 | nil => intro h; exact ⟨ns, h, .refl _⟩
 | cons x _ ih =>
  intro h
  cases h with
  | cons n t r =>
   obtain ⟨ms, h1, h2⟩ := ih r
   exact ⟨n :: ms, .cons n t h1, h2.cons _⟩
 | swap x y l =>
  intro h
  cases h with
  | cons n t r =>
   cases r with
   | cons m u r => exact ⟨m :: n :: _, .cons m u (.cons n t r), .swap ..⟩
 | trans _ _ ih1 ih2 =>
  intro h
  obtain ⟨ms, h1, h2⟩ := ih2 h
  obtain ⟨ms', h3, h4⟩ := ih1 h1
  exact ⟨ms', h3, h4.trans h2⟩
section
variable {X : Cx}
/-- sorted(a set) -/
theorem zbh {w : World} (hw : X.w = w) (hc : X.calm = true) : zbr X (.builtin "sorted") (fun xs H Q => ∃ a ns, xs = [.ref a] ∧ H a = some (SetO w a ns) ∧ ns.length < 64 ∧
  ∀ (l : Addr) (ns' : List Int), H l = none → ns'.Perm ns → ns'.Pairwise (· ≤ ·) → Q (.ref l) (upd H l (.lst (ns'.map V.int)))) := by
 subst hw
 intro pins s σ H xs us Q I r h
 obtain ⟨a, ns, rfl, ha, hlt, q⟩ := h
 obtain ⟨u, rfl, ru⟩ := zct r
 cases ru
 obtain ⟨⟨es, ep, t, ms, hg, hw, hI, hp⟩, _, _⟩ := I.hok a _ ha
 have hlen : es.size = ns.length := by
  have := IntsAre.length hI
  rw [List.length_map, Array.length_toList, hp.length_eq] at this
  exact this
 have hvals : ∀ vs : List Value, vs.length = es.size → (∀ (j : Nat) (v : Value), vs[j]? = some v → ∃ x, (zaZ X.w a es ep)[j]? = some x ∧ v = x.2) → vs.Perm (es.toList.map (·.2)) := fun vs h1 h2 => by
  have e : vs = (zaZ X.w a es ep).toList.map (·.2) := by
   refine List.ext_getElem? fun j => ?_
   by_cases c : j < vs.length
   ·obtain ⟨x, e1, e2⟩ := h2 j _ (List.getElem?_eq_getElem c)
    rw [List.getElem?_eq_getElem c, List.getElem?_map, Array.getElem?_toList, e1, e2]; rfl
   ·rw [List.getElem?_eq_none (by omega), List.getElem?_eq_none (by rw [List.length_map, Array.length_toList, zbB]; omega)]
  rw [e]
  exact (zcl X.w a es ep).map _
 refine ze1 (PySem.W.kdl_set hw) (I.ok.hd hc) hg (by omega) (fun vs h1 h2 => ?_) fun D h' tk e vs ms1 ns' out hk hD ho h1 h2 hI1 hO hp1 hs => ?_
 ·obtain ⟨ms', h3, _⟩ := intsAre_perm (hvals vs h1 h2) hI
  exact ⟨ms', h3⟩
 ·obtain ⟨ms', h3, h4⟩ := intsAre_perm (hvals vs h1 h2) hI
  have em : ms' = ms1 := zdg (intsAre_vals h3) hI1
  subst em
  have pp := (hp1.trans h4).trans hp
  have hz' : (ns'.map V.int).length ≤ sizeLine := by rw [List.length_map, pp.length_eq, sizeLine_eq]; omega
  obtain ⟨hn, I'⟩ := I.laidN (t' := tk) (o := .lst (ns'.map V.int)) hk hD ⟨hz', out.toList, e, intsAre_vals hO, by rw [Array.toArray_toList]; exact ho⟩
  exact ⟨.ref D, _, I', rfl, q D ns' hn pp hs⟩
def zb1 (x y : Int) : List Int := if x = y then [x] else [x, y]
/-- set of a list of two small ints -/
theorem zbX {w : World} (hw : X.w = w) (hc : X.calm = true) : zbr X (.type "set") (fun xs H Q => ∃ l x y, xs = [.ref l] ∧ H l = some (.lst [.int x, .int y]) ∧ 0 ≤ x ∧ x < 48 ∧ 0 ≤ y ∧ y < 48 ∧
  ∀ a : Addr, H a = none → Q (.ref a) (upd H a (SetO w a (zb1 x y)))) := by
 subst hw
 intro pins s σ H xs us Q I r h
 obtain ⟨l, x, y, rfl, hl, x0, x1, y0, y1, q⟩ := h
 obtain ⟨u, rfl, ru⟩ := zct r
 cases ru
 obtain ⟨its, rv, p, hz⟩ := I.list (.of hl)
 obtain ⟨ux, uy, rfl, rx, ry⟩ := ziR rv
 obtain ⟨tx, rfl⟩ := rx
 obtain ⟨ty, rfl⟩ := ry
 obtain ⟨xN, rfl⟩ := Int.eq_ofNat_of_zero_le x0
 obtain ⟨yN, rfl⟩ := Int.eq_ofNat_of_zero_le y0
 have xl : xN < 48 := by omega
 have yl : yN < 48 := by omega
 have hx := hash_small xN xl
 have hy := hash_small yN yl
 have o1 : zeP xN (!X.w.params.followText "set-order") = true := by
  cases (!X.w.params.followText "set-order")
  ·exact (one_ok xN xl).2
  ·exact (one_ok xN xl).1
 have o2 : xN ≠ yN → zeZ xN yN (!X.w.params.followText "set-order") = true := fun ne => by
  cases (!X.w.params.followText "set-order")
  ·exact (two_ok xN xl yN yl ne).2
  ·exact (two_ok xN xl yN yl ne).1
 generalize hled : (!X.w.params.followText "set-order") = led at o1 o2
 have b1 := o1
 simp only [zeP, Bool.and_eq_true, beq_iff_eq, Bool.not_eq_true'] at b1
 obtain ⟨⟨⟨⟨_, f1⟩, p1⟩, d1⟩, u1⟩ := b1
 have kOf : ∀ (n t : Nat), n < 48 → ElemsOf (intKind X.prog X.w) [((n : Int), Value.int n t)] := fun n t hn e he => by
  rw [List.mem_singleton.mp he]
  exact ⟨⟨(n : Int), by simp [intKind, Value.isInt], (hash_small n hn).symm⟩, rfl⟩
 have len0 : ([Value.int xN tx, Value.int yN ty].toArray).size = 2 := rfl
 refine zed (items := [Value.int xN tx, Value.int yN ty].toArray) (fun i => if i = 0 then (xN : Int) else yN)
  (fun i h => ∃ es ep t, h.get? s.heap.objs.size = some { cls := .type "set", data := .set es ep t } ∧ (i = 0 → es = #[] ∧ t = .fresh 0 0 led) ∧ (i = 1 → (∃ t1, es = #[((xN : Int), Value.int xN t1)]) ∧ t = zaU xN led) ∧ (i = 2 → SetWalked X.w s.heap.objs.size es ep t ∧ ∃ ms, IntsAre (es.toList.map (·.2)) ms ∧ ms.Perm (zb1 xN yN)))
  (I.ok.hd hc) p.isList (fun i v hv => ?_) ⟨_, _, _, Heap.get?_push_size _ rfl, fun _ => ⟨rfl, by rw [hled]⟩, fun z => by omega, fun z => by omega⟩ (fun i h h' j k => ?_) (fun i A s1 tk Q E hi j k => ?_) fun h' tk j hk => ?_
 ·match i, hv with
  | 0, hv => simp at hv; exact ⟨tx, by rw [← hv]; rfl⟩
  | 1, hv => simp at hv; exact ⟨ty, by rw [← hv]; rfl⟩
  | n + 2, hv => simp at hv
 ·obtain ⟨es, ep, t, h1, h2⟩ := j
  exact ⟨es, ep, t, k _ h1, h2⟩
 ·obtain ⟨es, ep, t, h1, h2, h3, h4⟩ := j
  match i, hi with
  | 0, _ =>
   obtain ⟨rfl, rfl⟩ := h2 rfl
   show wpAny _ _ (setAddHashed _ (.int (xN : Int) tk) ((intKind X.prog X.w).hash (xN : Int))) _ _ _
   refine zcM h1 rfl (fun e he => by simp at he) (by decide) (es' := #[((xN : Int), Value.int xN tk)]) (by rw [sizeLine_eq]; simp) rfl (by rw [hx]; exact zeG o1) p1 u1 fun h' sb g => k _ h' sb ⟨_, _, _, g, fun z => by omega, fun _ => ⟨⟨tk, rfl⟩, rfl⟩, fun z => by omega⟩
  | 1, _ =>
   obtain ⟨⟨t1, rfl⟩, rfl⟩ := h3 rfl
   show wpAny _ _ (setAddHashed _ (.int (yN : Int) tk) ((intKind X.prog X.w).hash (yN : Int))) _ _ _
   by_cases c : xN = yN
   ·subst c
    refine zeJ (j := 0) h1 f1 (kOf xN t1 xl) (by simp [scanBound]) (by simp [intKind, Value.isInt]) ?_
    refine k _ s1.heap (Heap.SameBut.refl _ _) ⟨_, _, _, h1, fun z => by omega, fun z => by omega, fun _ => ⟨⟨f1, p1, by rw [d1, hled], fun i j hij hj => by simp at hj; omega⟩, [(xN : Int)], .cons _ _ .nil, ?_⟩⟩
    unfold zb1
    rw [if_pos rfl]
   ·have ok2 := o2 c
    obtain ⟨es', hL, hp⟩ := zeS (x := (xN : Int)) (y := (yN : Int)) (u := Value.int xN t1) (v := Value.int yN tk) ok2
    have b2 := ok2
    simp only [zeZ, Bool.and_eq_true, beq_iff_eq, Bool.not_eq_true', decide_eq_true_eq] at b2
    obtain ⟨⟨⟨⟨⟨_, f2⟩, p2⟩, d2⟩, u2⟩, r2⟩ := b2
    have sz : es'.size = 2 := by have := hp.length_eq; simpa using this
    refine zcM h1 f1 (kOf xN t1 xl) (by simp [scanBound]) (by rw [sz, sizeLine_eq]; decide) ?_ (by rw [hy]; exact hL) p2 u2 fun h' sb g => k _ h' sb ⟨_, _, _, g, fun z => by omega, fun z => by omega, fun _ => ⟨⟨by rw [sz]; exact f2, p2, by rw [d2, hled], fun i j hij hj => ?_⟩, ?_⟩⟩
    ·have c' : ¬ (xN : Int) = yN := by omega
     have c2 : ¬ xN = yN := c
     simp [intKind, Value.isInt, c', c2]
    ·have e1 : i = 0 := by omega
     have e2 : j = 1 := by omega
     rw [e1, e2]; exact r2
    ·obtain ⟨ms, g1, g2⟩ := intsAre_perm (vs := [Value.int xN t1, Value.int yN tk]) (us := es'.toList.map (·.2)) (by simpa using hp.map (·.2)) (.cons (xN : Int) t1 (.cons (yN : Int) tk .nil))
     refine ⟨ms, g1, ?_⟩
     unfold zb1
     rw [if_neg (by omega)]
     exact g2
  | n + 2, h => exact absurd h (by rw [len0]; omega)
 ·obtain ⟨es, ep, t, h1, _, _, h4⟩ := j
  obtain ⟨w1, ms, h5, h6⟩ := h4 rfl
  refine ⟨.ref s.heap.objs.size, _, I.laid (t' := tk) (o := SetO X.w s.heap.objs.size (zb1 xN yN)) (fun b u e => hk b u (Heap.lt_size e) e) (Nat.le_refl _) ?_, rfl, q _ (I.hok.fresh (Nat.le_refl _))⟩
  exact ⟨⟨es, ep, t, ms, h1, w1, h5, h6⟩, ⟨_, h1⟩, fun ha hb ⟨es, ep, t, ms, h1, r⟩ k => ⟨es, ep, t, ms, k _ h1, r⟩⟩
end
end L2
set_option Elab.async false
set_option linter.all false
set_option maxRecDepth 100000
namespace L2
open PySem PySem.Spec PyProof.Rows
inductive RepD (H : Hp) : V → PyData → Prop
 | non : RepD H .non .none
 | bl (b : Bool) : RepD H (.bl b) (.bool b)
 | int (i : Int) : RepD H (.int i) (.int i)
 | str (x : Str) : RepD H (.str x) (.str x)
 | lst {p : Addr} {vs : List V} {ds : List PyData} : H p = some (.lst vs) → vs.length = ds.length → (∀ (i : Nat) (v : V) (d : PyData), vs[i]? = some v → ds[i]? = some d → RepD H v d) → RepD H (.ref p) (.list ds)
 | tup {p : Addr} {vs : List V} {ds : List PyData} : H p = some (.tup vs) → vs.length = ds.length → (∀ (i : Nat) (v : V) (d : PyData), vs[i]? = some v → ds[i]? = some d → RepD H v d) → RepD H (.ref p) (.tuple ds)
theorem zdm {h : Heap} : ∀ {vs : List V} {its : List Value} {ds : List PyData}, Vals vs its → vs.length = ds.length → (∀ (i : Nat) (v : V) (d : PyData) (u : Value), vs[i]? = some v → ds[i]? = some d → RelV v u → ∃ as, Reads h u d as) → ∃ as, ReadsAll h its ds as
 | [], _, [], .nil, _, _ => ⟨_, .nil⟩
 | [], _, _ :: _, .nil, l, _ => by simp at l
 | v :: vs, u :: its, [], .cons _ _, l, _ => by simp at l
 | v :: vs, u :: its, d :: ds, .cons r t, l, k => by
  obtain ⟨as, h1⟩ := k 0 v d u rfl rfl r
  obtain ⟨bs, h2⟩ := zdm t (by simpa using l) fun i v d u a b c => k (i + 1) v d u (by simpa using a) (by simpa using b) c
  exact ⟨_, .cons h1 h2⟩
theorem RepD.reads {P : Program} {w : World} {H : Hp} {h : Heap} (hok : HOk P w H h) {v : V} {d : PyData} (r : RepD H v d) : ∀ {u : Value}, RelV v u → ∃ as, Reads h u d as := by
 induction r with
 | non => intro u e; cases e; exact ⟨_, .none⟩
 | bl b => intro u e; cases e; exact ⟨_, .bool b⟩
 | int i => intro u e; obtain ⟨t, rfl⟩ := e; exact ⟨_, .int i t⟩
 | str x => intro u e; obtain ⟨t, rfl⟩ := e; exact ⟨_, .str x t⟩
 | @lst p vs ds hp l _ ih =>
  intro u e
  cases e
  obtain ⟨_, its, n, rv, g⟩ := hok p _ hp
  obtain ⟨as, ra⟩ := zdm (h := h) rv l fun i v d u a b c => ih i v d a b c
  exact ⟨_, .list g rfl rfl ra⟩
 | @tup p vs ds hp l _ ih =>
  intro u e
  cases e
  obtain ⟨_, its, rv, g⟩ := hok p _ hp
  obtain ⟨o, g1, g2, n, g3⟩ := g
  obtain ⟨as, ra⟩ := zdm (h := h) rv l fun i v d u a b c => ih i v d a b c
  exact ⟨_, .tuple g1 g2 g3 ra⟩
def rEqP (neg : Bool) : R2 := fun x y H Q => ∃ dx dy, RepD H x dx ∧ RepD H y dy ∧ SeqAt.shaped dx = true ∧ SeqAt.shaped dy = true ∧ Q (.bl (if neg then !PyData.eqv dx dy else PyData.eqv dx dy)) H
section
variable {X : Cx}
theorem ziH (hu : X.A.units + 64 < cLine) : OpR X (compareOp .Eq) (rEqP false) := by
 intro pins s σ H x y v u Q I rx ry h
 obtain ⟨dx, dy, r1, r2, s1, s2, q⟩ := h
 obtain ⟨as, q1⟩ := r1.reads I.hok rx
 obtain ⟨bs, q2⟩ := r2.reads I.hok ry
 exact SeqAt.compareEq_shaped q1 q2 s1 s2 hu ⟨.bl _, H, I, rfl, q⟩
end
section
variable {X : Cx} {K : PySem.W.Frag}
theorem zc8 (hk : X.K = K) : zbr X (.type "list") (fun xs H Q => ∃ p ys, xs = [.ref p] ∧ (SqL K H p ys ∨ SqT K H p ys) ∧ ∀ l, H l = none → Q (.ref l) (upd H l (.lst ys))) := by subst hk; exact call_list_of
end
end L2
set_option Elab.async false
set_option linter.all false
set_option maxRecDepth 100000
namespace L2
open PySem PySem.Spec PyProof.Rows
structure KDct (K : PySem.W.Frag) (a : Addr) (D : List (Str × V)) : Prop where
 lo : (a == sysModules) = false
 at_ : ∃ o es ep, K.lookup a = some o ∧ o.ExactDict ∧ o.data = .dict es ep ∧ KTD.Rows RelV es.toList D
inductive KRp (K : PySem.W.Frag) : V → PyData → Prop
 | non : KRp K .non .none
 | bl (b : Bool) : KRp K (.bl b) (.bool b)
 | int (i : Int) : KRp K (.int i) (.int i)
 | str (x : Str) : KRp K (.str x) (.str x)
 | tup {a : Addr} {xs : List V} {ds : List PyData} : (∀ H, SqT K H a xs) → xs.length = ds.length → (∀ (i : Nat) (x : V) (d : PyData), xs[i]? = some x → ds[i]? = some d → KRp K x d) → KRp K (.ref a) (.tuple ds)
 | dct {a : Addr} {D : List (Str × V)} {ds : List (PyData × PyData)} : KDct K a D → D.length = ds.length → (∀ (i : Nat) (p : Str × V) (q : PyData × PyData), D[i]? = some p → ds[i]? = some q → q.1 = .str p.1) → (∀ (i : Nat) (p : Str × V) (q : PyData × PyData), D[i]? = some p → ds[i]? = some q → KRp K p.2 q.2) → KRp K (.ref a) (.dict ds)
def zfl (f : Value → Option PyData) : List Value → Option (List PyData)
 | [] => some []
 | v :: r => match f v, zfl f r with
  | some d, some ds => some (d :: ds)
  | _, _ => none
def rdEs (f : Value → Option PyData) : List DictEntry → Option (List (PyData × PyData))
 | [] => some []
 | e :: r => match e.key, f e.val, rdEs f r with
  | .str x _, some d, some ds => some ((.str x, d) :: ds)
  | _, _, _ => none
def rdK (K : PySem.W.Frag) : Nat → Value → Option PyData
 | 0, _ => none
 | n + 1, .none => some .none
 | n + 1, .bool b => some (.bool b)
 | n + 1, .int i _ => some (.int i)
 | n + 1, .str x _ => some (.str x)
 | n + 1, .ref a => match K.lookup a with
  | some ⟨.type "tuple", _, .seq its _, _⟩ => if its.size ≤ 1000 then (zfl (rdK K n) its.toList).map .tuple else none
  | some ⟨.type "dict", none, .dict es _, sl⟩ => if (a == sysModules) = false ∧ sl.size = 0 then (rdEs (rdK K n) es.toList).map .dict else none
  | _ => none
 | _, _ => none
theorem zfA {K : PySem.W.Frag} {n : Nat} (ih : ∀ {v : Value} {d : PyData}, rdK K n v = some d → ∃ x, RelV x v ∧ KRp K x d) : ∀ {vs : List Value} {ds : List PyData}, zfl (rdK K n) vs = some ds → ∃ xs, Vals xs vs ∧ xs.length = ds.length ∧ ∀ (i : Nat) (x : V) (d : PyData), xs[i]? = some x → ds[i]? = some d → KRp K x d
 | [], ds, h => by cases h; exact ⟨[], .nil, rfl, fun i x d e => by simp at e⟩
 | v :: r, ds, h => by
  unfold zfl at h
  split at h
  ·rename_i d ds' h1 h2
   cases h
   obtain ⟨x, r1, k1⟩ := ih h1
   obtain ⟨xs, r2, l2, k2⟩ := zfA ih h2
   refine ⟨x :: xs, .cons r1 r2, by rw [List.length_cons, List.length_cons, l2], fun i x' d' e1 e2 => ?_⟩
   cases i with
   | zero => cases e1; cases e2; exact k1
   | succ i => exact k2 i x' d' (by simpa using e1) (by simpa using e2)
  ·cases h
theorem zfP {K : PySem.W.Frag} {n : Nat} (ih : ∀ {v : Value} {d : PyData}, rdK K n v = some d → ∃ x, RelV x v ∧ KRp K x d) : ∀ {es : List DictEntry} {ds : List (PyData × PyData)}, rdEs (rdK K n) es = some ds → ∃ D : List (Str × V), KTD.Rows RelV es D ∧ D.length = ds.length ∧ ∀ (i : Nat) (p : Str × V) (q : PyData × PyData), D[i]? = some p → ds[i]? = some q → q.1 = .str p.1 ∧ KRp K p.2 q.2
 | [], ds, h => by cases h; exact ⟨[], .nil, rfl, fun i x d e => by simp at e⟩
 | e :: r, ds, h => by
  unfold rdEs at h
  split at h
  ·rename_i x t d ds' hk h1 h2
   cases h
   obtain ⟨y, r1, k1⟩ := ih h1
   obtain ⟨D, r2, l2, k2⟩ := zfP ih h2
   refine ⟨(x, y) :: D, .cons hk r1 r2, by rw [List.length_cons, List.length_cons, l2], fun i p q e1 e2 => ?_⟩
   cases i with
   | zero => cases e1; cases e2; exact ⟨rfl, k1⟩
   | succ i => exact k2 i p q (by simpa using e1) (by simpa using e2)
  ·cases h
theorem zfN {K : PySem.W.Frag} : ∀ {n : Nat} {v : Value} {d : PyData}, rdK K n v = some d → ∃ x, RelV x v ∧ KRp K x d
 | 0, _, _, h => by unfold rdK at h; cases h
 | n + 1, v, d, h => by
  unfold rdK at h
  split at h
  ·rename_i e; cases e
  ·cases h; exact ⟨.non, rfl, .non⟩
  ·cases h; exact ⟨.bl _, rfl, .bl _⟩
  ·cases h; exact ⟨.int _, ⟨_, rfl⟩, .int _⟩
  ·cases h; exact ⟨.str _, ⟨_, rfl⟩, .str _⟩
  ·rename_i m a e
   cases e
   refine ⟨.ref a, rfl, ?_⟩
   split at h
   ·rename_i dd its nn sl hk
    split at h
    ·rename_i hz
     cases hh : zfl (rdK K n) its.toList with
     | none => rw [hh] at h; cases h
     | some ds =>
      rw [hh] at h
      cases h
      obtain ⟨xs, r, l, k⟩ := zfA (fun h => zfN h) hh
      exact .tup (fun H => .inr ⟨_, its, nn, hk, rfl, rfl, by rw [sizeLine_eq]; omega, r⟩) l k
    ·cases h
   ·rename_i es ep sl hk
    split at h
    ·rename_i hc
     cases hh : rdEs (rdK K n) es.toList with
     | none => rw [hh] at h; cases h
     | some ds =>
      rw [hh] at h
      cases h
      obtain ⟨D, r, l, k⟩ := zfP (fun h => zfN h) hh
      exact .dct ⟨hc.1, _, es, ep, hk, ⟨rfl, rfl, by simpa using hc.2⟩, rfl, r⟩ l (fun i p q h1 h2 => (k i p q h1 h2).1) fun i p q h1 h2 => (k i p q h1 h2).2
    ·cases h
   ·cases h
  ·cases h
theorem zfZ {K : PySem.W.Frag} {n : Nat} {a : Addr} {d : PyData} (h : rdK K n (.ref a) = some d) : KRp K (.ref a) d := by
 obtain ⟨x, r, k⟩ := zfN h
 cases x with
 | ref b => cases (show Value.ref a = Value.ref b from r); exact k
 | int i => obtain ⟨t, e⟩ := r; cases e
 | str i => obtain ⟨t, e⟩ := r; cases e
 | byt i => obtain ⟨t, e⟩ := r; cases e
 | flt i => obtain ⟨t, e⟩ := r; cases e
 | non => cases r
 | bl b => cases r
 | ty n => cases r
section
variable {prog : Program} {w : World} {A : Around} {E : Value → Shared → Prop} {s : Shared} {a : Addr} {D : List (Str × V)} {k : Str} {tk : Tok}
def zgc (h : Heap) (a : Addr) (D : List (Str × V)) : Prop := KTD.TabOf RelV h a D
theorem zgc.typeIs (T : zgc s.heap a D) : s.TypeIs (.ref a) "dict" := let ⟨_, o, _, _, ho, hc, _⟩ := T; ⟨o, ho, hc.1⟩
theorem zgU {Q : Option Value → Shared → Prop} (T : zgc s.heap a D) (h1 : ∀ x v, KTD.datumAt k D = some x → RelV x v → Q (some v) { s with toks := s.toks + 1 }) (h2 : KTD.datumAt k D = none → Q none { s with toks := s.toks + 1 }) :
  wpAny (model prog w) A (dictGet a (.str k tk)) Q E s := by
 obtain ⟨_, o, es, ep, ho, hc, hd, hr⟩ := T
 unfold dictGet
 try with_reducible refine wpAny_holding ?_
 refine wpAny_bind (wpAny_pyHash_str (wpAny_bind (KTD.kt_dictFind_strs (s := { s with toks := s.toks + 1 }) ho hd (by obtain ⟨l⟩ := es; simpa using hr.exact) ?_)))
 have hq : Q (findBy (fun k v => v.isStr k) es k) { s with toks := s.toks + 1 } := by
  have hf : findBy (fun k v => v.isStr k) es k = (es.toList.find? fun e => e.key.isStr k).map (·.val) := by
   obtain ⟨l⟩ := es
   simp [findBy]
  rw [hf]
  cases hat : KTD.datumAt k D with
  | some d => obtain ⟨v, hv, hfl⟩ := hr.find_some hat; rw [hv]; exact h1 d v hat hfl
  | none => rw [hr.find_none hat]; exact h2 hat
 rw [findBy_of_findIdx?] at hq
 cases hi : es.findIdx? fun e => e.key.isStr k with
 | none => rw [hi] at hq; exact wpAny_pure hq
 | some i => rw [hi] at hq; exact wpAny_bind (wpAny_dictEntries (s := { s with toks := s.toks + 1 }) ho hd (wpAny_pure hq))
end
theorem KDct.here {X : Cx} {pins : List (Addr × Obj)} {σ : St} {H : Hp} {s : Shared} {a : Addr} {D : List (Str × V)} (I : Inv X pins σ H s) (g : KDct X.K a D) : zgc s.heap a D := by
 obtain ⟨lo, o, es, ep, hk, hc, hd, hr⟩ := g
 exact ⟨lo, o, es, ep, I.kIn a o hk, hc, hd, hr⟩
/-- D[y], D of the text's top -/
def tKGet (K : PySem.W.Frag) (td ty : TE) : TE := fun σ H Q => td σ H fun x H1 => ty σ H1 fun y H2 => ∃ a D k v, x = .ref a ∧ y = .str k ∧ KDct K a D ∧ KTD.datumAt k D = some v ∧ Q v H2
section
variable {X : Cx} {o i e : Expr} {pos apos cpos : Pos} {td ty : TE} {K : PySem.W.Frag}
theorem zhR (hk : X.K = K) (ho : PE X o td) (hi : PE X i ty) (hs : NoSl i) : PE X (.Subscript o i pos) (tKGet K td ty) := by
 subst hk
 intro pins s σ H Q I h
 refine zdT PySem.F.slot_dict_getitem.lookup hs (thn (ho pins s σ H _ I h) fun u s1 ⟨x, H1, I1, rx, q1⟩ => thn (hi pins s1 σ H1 _ I1 q1) fun iv s2 ⟨y, H2, I2, ry, a, D, k, v, ex, ey, g, hv, q2⟩ => ?_)
 subst ex ey
 obtain rfl : u = Value.ref a := rx
 obtain ⟨tk, rfl⟩ := ry
 have T := g.here I2
 refine ⟨T.typeIs, ?_⟩
 unfold getItem
 try with_reducible refine wpAny_holding ?_
 refine wpAny_bind (wpAny_sequenceKey T.typeIs (by decide) ?_)
 refine wpAny_bind (wpAny_callSpecial?_slot (name := Str.ofString "__getitem__") T.typeIs slot_dict_getitem
  (wpAny_call_entry slot_dict_getitem T.typeIs entry_dict_getitem ?_ (args_dict_getitem _ _)))
 show wpAny _ _ (dictGet a (.str k tk) >>= _) _ _ _
 refine wpAny_bind (zgU T (fun x v' ha hv' => ?_) fun hn => ?_)
 ·rw [hv] at ha
  cases ha
  exact wpAny_pure ⟨v', rfl, wpAny_pure ⟨v, H2, I2.tok _, hv', q2⟩⟩
 ·rw [hv] at hn; cases hn
end
def zgn (i j : Int) : Prop := i.natAbs < 2 ^ 1000 ∧ j.natAbs < 2 ^ 1000
theorem zbO {i : Int} (h : i.natAbs < 2 ^ 1000) : Builtin.Int.intBits i ≤ 1000 := by
 unfold Builtin.Int.intBits
 split
 ·omega
 ·rename_i c
  have c' : i.natAbs ≠ 0 := by intro e; exact c (by simpa using Int.natAbs_eq_zero.mp e)
  have := (Nat.log2_lt c').mpr h
  omega
theorem zgn.ok {i j : Int} (h : zgn i j) : IntMulOk i j := by
 have h1 := zbO h.1
 have h2 := zbO h.2
 unfold IntMulOk
 have : Builtin.Int.intTooBig ((Builtin.Int.intBits i : Int) + (Builtin.Int.intBits j : Int)) = false := by
  unfold Builtin.Int.intTooBig
  have hb : (2000 : Int) ≤ bitsLine := by decide
  simp
  omega
 rw [this]; simp
theorem ze6 {X : Cx} : OpR X (binaryOp .Mult) (rI zgn fun i j => .int (i * j)) := opI fun _ _ _ _ _ _ _ hc q => mul_int q hc.ok
end L2
set_option Elab.async false
set_option linter.all false
set_option maxRecDepth 100000
namespace L2
open PySem PySem.Spec PyProof.Rows
section
variable {X : Cx}
theorem zaz {H1 H : Hp} {D : Addr} {u : HO} (S : Same H1 H) (hD : H1 D = none) : Same H1 (upd H D u) := fun q o h => by
 rw [zaj (fun e => by rw [e, hD] at h; cases h)]
 exact S q o h
theorem zeo {β : Type} (f : Nat → Option β) (i : Nat) : (List.range (i + 1)).filterMap f = (List.range i).filterMap f ++ (f i).toList := by
 rw [List.range_succ, List.filterMap_append]
 cases e : f i <;> simp [e]
theorem ziB {cap : List (Option Nat)} {ta : TA} {g : TG} {tt : TT} {te : TE} {σ : St} {H H1 : Hp} {Q : VK} (n : Int) (f : Nat → Option V) (hr : ∀ Q, Q [.int n] H1 → ta σ H Q) (n0 : -(2 ^ 62) ≤ n) (n1 : n < 2 ^ 62) (hz : n.toNat ≤ sizeLine)
  (hs : ∀ i H (R : V → Hp → Prop) (N : Hp → Prop), i < n.toNat → Same H1 H → (∀ y H', f i = some y → Same H H' → R y H') → (f i = none → ∀ H', Same H H' → N H') → g (.int (0 + i)) (zaM cap σ) H fun σ4 H4 => tt σ4 H4 fun b H5 => if b = true then te σ4 H5 R else N H5)
  (hd : ∀ D H', H1 D = none → Same H1 H' → H' D = some (.lst ((List.range n.toNat).filterMap f)) → Q (.ref D) H') : zcA cap (zdF ta) g tt te σ H Q := by
 refine zeD n hr n0 n1 (fun D i ys H2 => Same H1 H2 ∧ H2 D = some (.lst ys) ∧ ys = (List.range i).filterMap f) (fun D hD => ⟨zaz (fun _ _ h => h) hD, zaa, rfl⟩) ?_ hz ?_ ?_
 ·rintro D hD i ys H2 hi ⟨S, h2, e⟩
  refine ⟨h2, ?_⟩
  rw [e]
  exact Nat.le_trans (List.length_filterMap_le _ _) (by rw [List.length_range]; omega)
 ·rintro D hD i ys H2 hi ⟨S, h2, e⟩
  refine hs i H2 _ _ hi S (fun y H' ey S2 => ⟨S2 _ _ h2, zaz (fun q o h => S2 _ _ (S _ _ h)) hD, zaa, ?_⟩) (fun ey H' S2 => ⟨fun q o h => S2 _ _ (S _ _ h), S2 _ _ h2, ?_⟩)
  ·rw [zeo f i, ey, e]; rfl
  ·rw [zeo f i, ey, e]; simp
 ·rintro D hD ys H2 ⟨S, h2, e⟩
  refine hd D H2 hD S ?_
  rw [h2, e]
end
end L2
set_option Elab.async false
set_option linter.all false
set_option maxRecDepth 100000
namespace L2
open PySem PySem.Spec PyProof.Rows
section
variable {X : Cx}
end
end L2
set_option Elab.async false
set_option linter.all false
set_option maxRecDepth 100000
namespace L2
open PySem PySem.Spec PyProof.Rows
section
variable {X : Cx} {es : List Expr} {t te : TA} {s : Str} {i : Int} {j : Nat} {p : Pos}
theorem zaq (h : PA X es t) : PA X (.Constant (.str s) j p :: es) (zcD (tC (.str s)) t) := zad zak h rfl
theorem zan (h : PA X es t) : PA X (.Constant (.int i) j p :: es) (zcD (tC (.int i)) t) := zad zaf h rfl
theorem zac {x : Str} {te : TE} (h1 : PE X (.Name x p) te) (h : PA X es t) : PA X (.Name x p :: es) (zcD te t) := zad h1 h rfl
end
theorem zef {X : Cx} {i : Nat} {x : Str} {es : List Expr} {t : TA} {pos pos' p : Pos} (hN : X.N.Nodup) (hi : X.N[i]? = some x) (hx : Loc X.env.scope x) (he : PA X es t) (hf : X.fn x = true ∨ X.env.scope.names.lookup x = some .local := by first | exact .inl rfl | exact .inr rfl | assumption) :
  PS X (.Assign [.Name x pos'] (.List es p) pos) (tAsg (tLst t) (za2 i)) := zaC hN hi hx (zaA he) rfl hf
section
variable {X : Cx} {e : Expr} {te : TE} {p p1 p2 pos cpos : Pos} {j : Nat} {K : PySem.W.Frag}
end
end L2
set_option Elab.async false
set_option linter.all false
set_option maxRecDepth 100000
namespace L2
open PySem PySem.Spec PyProof.Rows
section
variable {prog : Program} {w : World} {A : Around}
end
section
variable {X : Cx} {e : Expr} {te : TE} {p p1 p2 p3 p4 pos : Pos} {j : Nat} {K : PySem.W.Frag}
end
section
variable {X : Cx}
end
end L2
set_option Elab.async false
set_option linter.all false
set_option maxRecDepth 100000
namespace L2
open PySem PySem.Spec PyProof.Rows
theorem za8 {M : Model} {A : Around} {E : Value → Shared → Prop} {s : Shared} {a : Addr} {Q : Option Obj → Shared → Prop} (h : Q (s.heap.get? a) s) : wpAny M A (loadIfAlive a) Q E s := by
 intro Γ p hb
 show Sem.wp M Γ (Sem.loadIfAlive a Sem.pure) _ _ p s
 rw [Sem.wp_loadIfAlive]
 exact h
section
variable {prog : Program} {w : World} {A : Around}
/-- what zip makes, over two sources whose iterators are oI, oJ -/
theorem zhP {E : Value → Shared → Prop} {s : Shared} {Q : Value → Shared → Prop} {a b : Value} {oI oJ : Obj} (fI : oI.isFreed = false) (fJ : oJ.isFreed = false)
  (ha : ∀ (A : Around) (E : Value → Shared → Prop) (Q : Value → Shared → Prop), Q (.ref s.heap.objs.size) { s with heap := s.heap.push oI } → wpAny (model prog w) A (pyIter a) Q E s)
  (hb : ∀ (A : Around) (E : Value → Shared → Prop) (Q : Value → Shared → Prop), Q (.ref (s.heap.push oI).objs.size) { s with heap := (s.heap.push oI).push oJ } → wpAny (model prog w) A (pyIter b) Q E { s with heap := s.heap.push oI })
  (h : ∀ (i j ti to z : Addr) (h' : Heap), i = s.heap.objs.size → j = (s.heap.push oI).objs.size → (∀ c o, s.heap.get? c = some o → h'.get? c = some o) → h'.get? i = some oI → h'.get? j = some oJ → s.heap.get? i = none → s.heap.get? j = none → s.heap.get? ti = none → s.heap.get? to = none → s.heap.get? z = none → IsPair h' ti (.ref i) (.ref j) → IsPair h' to .none .none → IsZip h' z ti to .none → [i, j, ti, to, z].Nodup → Q (.ref z) { s with heap := h' }) :
  wpAny (model prog w) A (call (.type "zip") [a, b]) Q E s := by
 refine callType_newIn (newId := "zip.__new__") (S := fun A R s' => s' = s ∧ ∀ z h', (∃ o, Heap.get? h' z = some o ∧ o.cls = .type "zip") → Q (.ref z) { s with heap := h' } → R (.ok (.ret (.ref z))) { s with heap := h' }) PySem.F.called_zip (by decide) (by rfl) (PySem.F.newCall_zip_2 _ _) (fun obj => by rfl) PySem.F.entry_zip_new (fun A R s' hS => ?_) ?_
 ·obtain ⟨rfl, hR⟩ := hS
  refine wpAny_bind ?_
  refine wpAny_bind (m := isType (.type "zip")) (wpAny_pure (a := true) ?_)
  refine wpAny_bind (m := isSubtype (.type "zip") (.type "zip")) ?_
  rw [PySem.F.called_zip.sub]
  refine wpAny_pure (wpAny_pure ?_)
  refine wpAny_bind (m := Builtin.SmallTypes.iterAll [a, b]) ?_
  refine wpAny_bind ?_
  refine wpAny_bind ?_
  refine wpAny_bind (wpAny_holding (ha _ _ _ (wpAny_pure ?_)))
  refine wpAny_bind ?_
  refine wpAny_bind (wpAny_holding (hb _ _ _ (wpAny_pure ?_)))
  refine wpAny_pure (wpAny_pure ?_)
  refine wpAny_bind (wpAny_newTuple ?_ (by simp [sizeLine_eq]))
  refine wpAny_bind (wpAny_newTuple ?_ (by simp [sizeLine_eq]))
  refine wpAny_bind ?_
  refine wpAny_bind (m := alloc _) (wpAny_alloc (wpAny_pure (wpAny_pure ?_)))
  obtain ⟨h1, e1⟩ : ∃ h1, h1 = s'.heap.push oI := ⟨_, rfl⟩
  obtain ⟨h2, e2⟩ : ∃ h2, h2 = h1.push oJ := ⟨_, rfl⟩
  obtain ⟨h3, e3⟩ : ∃ h3, h3 = h2.push { cls := .type "tuple", data := .seq #[.ref s'.heap.objs.size, .ref h1.objs.size] } := ⟨_, rfl⟩
  obtain ⟨h4, e4⟩ : ∃ h4, h4 = h3.push { cls := .type "tuple", data := .seq #[.none, .none] } := ⟨_, rfl⟩
  obtain ⟨h5, e5⟩ : ∃ h5, h5 = h4.push { cls := .type "zip", data := .fields #[.none, .bool false, .bool false, .ref h2.objs.size, .ref h3.objs.size] } := ⟨_, rfl⟩
  have k1 : ∀ c o, s'.heap.get? c = some o → h1.get? c = some o := fun c o q => by rw [e1]; exact Heap.get?_push_of_some _ q
  have k2 : ∀ c o, h1.get? c = some o → h2.get? c = some o := fun c o q => by rw [e2]; exact Heap.get?_push_of_some _ q
  have k3 : ∀ c o, h2.get? c = some o → h3.get? c = some o := fun c o q => by rw [e3]; exact Heap.get?_push_of_some _ q
  have k4 : ∀ c o, h3.get? c = some o → h4.get? c = some o := fun c o q => by rw [e4]; exact Heap.get?_push_of_some _ q
  have k5 : ∀ c o, h4.get? c = some o → h5.get? c = some o := fun c o q => by rw [e5]; exact Heap.get?_push_of_some _ q
  have g1 : h1.get? s'.heap.objs.size = some oI := by rw [e1]; exact Heap.get?_push_size _ fI
  have g2 : h2.get? h1.objs.size = some oJ := by rw [e2]; exact Heap.get?_push_size _ fJ
  have g3 : h3.get? h2.objs.size = some { cls := .type "tuple", data := .seq #[.ref s'.heap.objs.size, .ref h1.objs.size] } := by rw [e3]; exact Heap.get?_push_size _ rfl
  have g4 : h4.get? h3.objs.size = some { cls := .type "tuple", data := .seq #[.none, .none] } := by rw [e4]; exact Heap.get?_push_size _ rfl
  have g5 : h5.get? h4.objs.size = some { cls := .type "zip", data := .fields #[.none, .bool false, .bool false, .ref h2.objs.size, .ref h3.objs.size] } := by rw [e5]; exact Heap.get?_push_size _ rfl
  have l1 := Heap.lt_size g1
  have l2 := Heap.lt_size g2
  have l3 := Heap.lt_size g3
  have l4 := Heap.lt_size g4
  have no : ∀ c, s'.heap.objs.size ≤ c → s'.heap.get? c = none := fun c hc => by
   cases q : s'.heap.get? c with
   | none => rfl
   | some o => exact absurd (Nat.lt_of_lt_of_le (Heap.lt_size q) hc) (Nat.lt_irrefl _)
  have fin5 : R (.ok (.ret (.ref h4.objs.size))) { s' with heap := h5 } := by
   refine hR _ _ ⟨_, g5, rfl⟩ (h s'.heap.objs.size h1.objs.size h2.objs.size h3.objs.size h4.objs.size h5 rfl (by rw [e1]) (fun c o q => k5 _ _ (k4 _ _ (k3 _ _ (k2 _ _ (k1 _ _ q))))) (k5 _ _ (k4 _ _ (k3 _ _ (k2 _ _ g1)))) (k5 _ _ (k4 _ _ (k3 _ _ g2))) (no _ (Nat.le_refl _)) (no _ (Nat.le_of_lt l1)) (no _ (Nat.le_of_lt (Nat.lt_trans l1 l2))) (no _ (Nat.le_of_lt (Nat.lt_trans l1 (Nat.lt_trans l2 l3)))) (no _ (Nat.le_of_lt (Nat.lt_trans l1 (Nat.lt_trans l2 (Nat.lt_trans l3 l4))))) (k5 _ _ (k4 _ _ g3)) (k5 _ _ g4) g5 ?_)
   have l1' : s'.heap.objs.size < h1.objs.size := l1
   have l2' : h1.objs.size < h2.objs.size := l2
   have l3' : h2.objs.size < h3.objs.size := l3
   have l4' : h3.objs.size < h4.objs.size := l4
   simp only [List.nodup_cons, List.mem_cons, List.not_mem_nil, or_false, not_false_eq_true, List.nodup_nil, and_true, not_or]
   refine ⟨⟨?_, ?_, ?_, ?_⟩, ⟨?_, ?_, ?_⟩, ⟨?_, ?_⟩, ?_⟩ <;> intro z <;> have z' : (_ : Nat) = _ := z <;> omega
  subst e5
  subst e4
  subst e3
  subst e2
  subst e1
  exact fin5
 ·refine ⟨rfl, fun z h' ⟨o, e1, e2⟩ hq => ⟨⟨o, e1, e2⟩, hq⟩⟩
/-- an iterator that a zip draws from: P tells its items -/
structure NxSrc (prog : Program) (w : World) (I d : Addr) (n : Nat) (P : Nat → Value → Prop) (St : Nat → Heap → Prop) : Prop where
 item : ∀ (A : Around) (E : Value → Shared → Prop) (s : Shared) (Q : Value → Shared → Prop) (i : Nat), i < n → St i s.heap → (∀ v h' tk, P i v → St (i + 1) h' → Heap.SameBut I s.heap h' → Q v { s with heap := h', toks := tk }) → wpAny (model prog w) A (Builtin.SmallTypes.nextOf (.ref I)) Q E s
 done : ∀ (A : Around) (E : Value → Shared → Prop) (s : Shared) (Q : Value → Shared → Prop), A.handled = none → St n s.heap → (∀ h' e, Heap.ExtBut I s.heap h' → (∃ o, h'.get? e = some o ∧ o.cls = .type "StopIteration") → E (.ref e) { s with heap := h' }) → wpAny (model prog w) A (Builtin.SmallTypes.nextOf (.ref I)) Q E s
 there : ∀ (i : Nat) (h : Heap), St i h → ∃ o, h.get? I = some o
 frame : ∀ (i : Nat) (h h' : Heap), St i h → (∀ b o, b = I ∨ b = d → h.get? b = some o → h'.get? b = some o) → St i h'
/-- z as it stands: its owned tuple is free, or lies in the heap -/
def ZAt (h : Heap) (z ti to : Addr) : Prop := ∃ (f0 : Value) (f1 : Bool), h.get? z = some { cls := .type "zip", data := .fields #[f0, .bool f1, .bool false, .ref ti, .ref to] } ∧ (f0 = .none ∨ ∃ (a : Addr) (o : Obj), f0 = rawInt a ∧ h.get? a = some o)
set_option maxHeartbeats 2000000 in
theorem zgH {E : Value → Shared → Prop} {s : Shared} {Q : Option Value → Shared → Prop} {z ti to i j d1 d2 : Addr} {a b : Value} {n k : Nat} {P1 P2 : Nat → Value → Prop} {S1 S2 : Nat → Heap → Prop}
  (N1 : NxSrc prog w i d1 n P1 S1) (N2 : NxSrc prog w j d2 n P2 S2) (ap : [i, j, ti, to, z].Nodup) (n1 : d1 ∉ [j, to, z]) (n2 : d2 ∉ [i, to, z])
  (hz : ZAt s.heap z ti to) (ht : IsPair s.heap ti (.ref i) (.ref j)) (ho : IsPair s.heap to a b) (kn : k < n) (h1 : S1 k s.heap) (h2 : S2 k s.heap)
  (h : ∀ (r : Addr) (v u a' b' : Value) (h' : Heap) (tk : Nat), P1 k v → P2 k u → s.heap.get? r = none → IsPair h' r v u → ZAt h' z ti to → IsPair h' to a' b' → S1 (k + 1) h' → S2 (k + 1) h' → (∀ c o, c ∉ [z, to, i, j] → s.heap.get? c = some o → h'.get? c = some o) → Q (some (.ref r)) { s with heap := h', toks := tk }) :
  wpAny (model prog w) A (pyNext (.ref z)) Q E s := by
 obtain ⟨f0, f1, ez, hf⟩ := hz
 refine wpAny_bind (wpAny_attempt ?_)
 refine wpAny_callSpecial?_slot (T := "zip") ⟨_, ez, rfl⟩ PySem.F.slot_zip_next ?_
 refine wpAny_call_entry PySem.F.slot_zip_next ⟨_, ez, rfl⟩ PySem.F.entry_zip_next ?_ (PySem.F.args_zip_next_1 _)
 refine wpAny_bind (m := slotArgs "__next__" 0 _) (wpAny_pure (a := (Value.ref z, [])) ?_)
 refine wpAny_bind (wpAny_field ez rfl rfl ?_)
 refine wpAny_bind (wpAny_field ez rfl rfl ?_)
 refine wpAny_bind (m := seqItems? (.ref ti)) (wpAny_bind (wpAny_load ht (wpAny_pure ?_)))
 simp only [List.nodup_cons, List.mem_cons, List.not_mem_nil, or_false, not_or, not_false_eq_true, List.nodup_nil, and_true] at ap n1 n2
 obtain ⟨⟨nij, niti, nito, niz⟩, ⟨njti, njto, njz⟩, ⟨ntito, ntiz⟩, ntoz⟩ := ap
 obtain ⟨m1, m2, m3⟩ := n1
 obtain ⟨p1, p2, p3⟩ := n2
 rcases hf with rfl | ⟨aa, oo, rfl, ha⟩
 ·refine wpAny_bind (m := Builtin.SmallTypes.ownedTupleIsFree (.ref z)) (wpAny_bind (wpAny_field ez rfl rfl (wpAny_pure ?_)))
  refine wpAny_bind (wpAny_rule ?_)
  refine wpAny_bind (wpAny_field ez rfl rfl ?_)
  refine wpAny_bind (wpAny_setField ez rfl (by simp) ?_)
  have kA : ∀ c, c ≠ z → (s.heap.update z (Obj.mapFields fun x => x.setIfInBounds 0 Value.ellipsis)).get? c = s.heap.get? c := fun c hc => Heap.get?_update_other _ _ (Ne.symm hc)
  have zA : (s.heap.update z (Obj.mapFields fun x => x.setIfInBounds 0 Value.ellipsis)).get? z = some { cls := .type "zip", data := .fields #[.ellipsis, .bool f1, .bool false, .ref ti, .ref to] } := Heap.get?_update_self _ ez rfl
  have szA : (s.heap.update z (Obj.mapFields fun x => x.setIfInBounds 0 Value.ellipsis)).objs.size = s.heap.objs.size := Heap.size_update _ _ _
  revert kA zA szA
  generalize s.heap.update z (Obj.mapFields fun x => x.setIfInBounds 0 Value.ellipsis) = hA
  intro kA zA szA
  have s1A : S1 k hA := N1.frame k s.heap hA h1 fun b o hb q => by
   rw [kA b (by rcases hb with rfl | rfl; exact niz; exact m3)]; exact q
  have s2A : S2 k hA := N2.frame k s.heap hA h2 fun b o hb q => by
   rw [kA b (by rcases hb with rfl | rfl; exact njz; exact p3)]; exact q
  have oA : IsPair hA to a b := by show hA.get? to = _; rw [kA to ntoz]; exact ho
  refine wpAny_bind ?_
  refine wpAny_bind ?_
  refine wpAny_bind (wpAny_onRaise ?_)
  refine wpAny_bind (N1.item _ _ _ _ k kn s1A fun v hB tk pv s1B sb => wpAny_pure ?_)
  have oB : IsPair hB to a b := by show hB.get? to = _; rw [sb.2 to (Ne.symm nito)]; exact oA
  have zB := (sb.2 z (Ne.symm niz)).trans zA
  have s2B : S2 k hB := N2.frame k hA hB s2A fun b o hb q => by
   rw [sb.2 b (by rcases hb with rfl | rfl; exact Ne.symm nij; exact p1)]; exact q
  refine wpAny_bind (m := seqItems? (.ref to)) (wpAny_bind (wpAny_load oB (wpAny_pure ?_)))
  refine wpAny_bind (wpAny_updateSeq oB rfl ?_ (by simp [sizeLine_eq]) (by simp [sizeLine_eq]))
  refine wpAny_bind (wpAny_letGo (wpAny_pure ?_))
  have kC : ∀ c, c ≠ to → (hB.update to (Obj.mapSeq fun x => x.setIfInBounds 0 v)).get? c = hB.get? c := fun c hc => Heap.get?_update_other _ _ (Ne.symm hc)
  have oC : IsPair (hB.update to (Obj.mapSeq fun x => x.setIfInBounds 0 v)) to v b := get?_update_seq (c := "tuple") (n := 0) oB (fun x => x.setIfInBounds 0 v)
  have szC : (hB.update to (Obj.mapSeq fun x => x.setIfInBounds 0 v)).objs.size = hB.objs.size := Heap.size_update _ _ _
  dsimp only
  revert kC oC szC
  generalize hB.update to (Obj.mapSeq fun x => x.setIfInBounds 0 v) = hC
  intro kC oC szC
  have s1C : S1 (k + 1) hC := N1.frame _ hB hC s1B fun b o hb q => by
   rw [kC b (by rcases hb with rfl | rfl; exact nito; exact m2)]; exact q
  have s2C : S2 k hC := N2.frame _ hB hC s2B fun b o hb q => by
   rw [kC b (by rcases hb with rfl | rfl; exact njto; exact p2)]; exact q
  have zC := (kC z (Ne.symm ntoz)).trans zB
  refine wpAny_bind ?_
  refine wpAny_bind (wpAny_onRaise ?_)
  refine wpAny_bind (N2.item _ _ _ _ k kn s2C fun u hD tk2 pu s2D sd => wpAny_pure ?_)
  have oD : IsPair hD to v b := by show hD.get? to = _; rw [sd.2 to (Ne.symm njto)]; exact oC
  have zD := (sd.2 z (Ne.symm njz)).trans zC
  have s1D : S1 (k + 1) hD := N1.frame _ hC hD s1C fun b o hb q => by
   rw [sd.2 b (by rcases hb with rfl | rfl; exact nij; exact m1)]; exact q
  refine wpAny_bind (m := seqItems? (.ref to)) (wpAny_bind (wpAny_load oD (wpAny_pure ?_)))
  refine wpAny_bind (wpAny_updateSeq oD rfl ?_ (by simp [sizeLine_eq]) (by simp [sizeLine_eq]))
  refine wpAny_bind (wpAny_letGo (wpAny_pure ?_))
  have kE : ∀ c, c ≠ to → (hD.update to (Obj.mapSeq fun x => x.setIfInBounds 1 u)).get? c = hD.get? c := fun c hc => Heap.get?_update_other _ _ (Ne.symm hc)
  have oE : IsPair (hD.update to (Obj.mapSeq fun x => x.setIfInBounds 1 u)) to v u := get?_update_seq (c := "tuple") (n := 0) oD (fun x => x.setIfInBounds 1 u)
  have szE : (hD.update to (Obj.mapSeq fun x => x.setIfInBounds 1 u)).objs.size = hD.objs.size := Heap.size_update _ _ _
  dsimp only
  revert kE oE szE
  generalize hD.update to (Obj.mapSeq fun x => x.setIfInBounds 1 u) = hE
  intro kE oE szE
  have zE := (kE z (Ne.symm ntoz)).trans zD
  refine wpAny_pure ?_
  refine wpAny_bind (m := seqItems? (.ref to)) (wpAny_bind (wpAny_load oE (wpAny_pure ?_)))
  refine wpAny_bind (wpAny_newTuple ?_ (by simp [sizeLine_eq]))
  obtain ⟨hF, eF⟩ : ∃ hF, hF = hE.push { cls := .type "tuple", data := .seq #[v, u] } := ⟨_, rfl⟩
  have kF : ∀ c o, hE.get? c = some o → hF.get? c = some o := fun c o q => by rw [eF]; exact Heap.get?_push_of_some _ q
  have rF : hF.get? hE.objs.size = some { cls := .type "tuple", data := .seq #[v, u] } := by rw [eF]; exact Heap.get?_push_size _ rfl
  show wpAny _ _ _ _ _ { s with heap := hE.push { cls := .type "tuple", data := .seq #[v, u] }, toks := tk2 }
  rw [← eF]
  have zF := kF _ _ zE
  refine wpAny_bind (m := Builtin.SmallTypes.ownedTupleHandOut (.ref z) (.ref hE.objs.size)) (wpAny_bind (wpAny_setField zF rfl (by simp) ?_))
  have zG : (hF.update z (Obj.mapFields fun x => x.setIfInBounds 0 (rawInt hE.objs.size))).get? z = some { cls := .type "zip", data := .fields #[rawInt hE.objs.size, .bool f1, .bool false, .ref ti, .ref to] } := Heap.get?_update_self _ zF rfl
  have kG : ∀ c, c ≠ z → (hF.update z (Obj.mapFields fun x => x.setIfInBounds 0 (rawInt hE.objs.size))).get? c = hF.get? c := fun c hc => Heap.get?_update_other _ _ (Ne.symm hc)
  dsimp only
  revert zG kG
  generalize hF.update z (Obj.mapFields fun x => x.setIfInBounds 0 (rawInt hE.objs.size)) = hG
  intro zG kG
  refine wpAny_setField zG rfl (by simp) ?_
  have zK : (hG.update z (Obj.mapFields fun x => x.setIfInBounds 1 (.bool false))).get? z = some { cls := .type "zip", data := .fields #[rawInt hE.objs.size, .bool false, .bool false, .ref ti, .ref to] } := Heap.get?_update_self _ zG rfl
  have kK : ∀ c, c ≠ z → (hG.update z (Obj.mapFields fun x => x.setIfInBounds 1 (.bool false))).get? c = hG.get? c := fun c hc => Heap.get?_update_other _ _ (Ne.symm hc)
  dsimp only
  revert zK kK
  generalize hG.update z (Obj.mapFields fun x => x.setIfInBounds 1 (.bool false)) = hK
  intro zK kK
  have nrz : hE.objs.size ≠ z := fun e => by
   have := Heap.lt_size zE
   rw [← e] at this
   exact Nat.lt_irrefl _ this
  have rK : hK.get? hE.objs.size = some { cls := .type "tuple", data := .seq #[v, u] } := by rw [kK _ nrz, kG _ nrz]; exact rF
  refine wpAny_pure ⟨_, rfl, wpAny_pure ?_⟩
  have kAll : ∀ c o, c ≠ z → hE.get? c = some o → hK.get? c = some o := fun c o hc q => by rw [kK c hc, kG c hc]; exact kF c o q
  have sz0 : hE.objs.size = s.heap.objs.size := by rw [szE, sd.1, szC, sb.1, szA]
  refine h hE.objs.size v u v u hK tk2 pv pu ?_ rK ⟨_, false, zK, .inr ⟨hE.objs.size, _, rfl, rK⟩⟩ (kAll to _ (ntoz) oE) ?_ ?_ ?_
  ·rw [sz0]
   cases q : s.heap.get? s.heap.objs.size with
   | none => rfl
   | some o => exact absurd (Heap.lt_size q) (Nat.lt_irrefl _)
  ·refine N1.frame _ hD hK s1D fun b o hb q => kAll b o ?_ ?_
   ·rcases hb with rfl | rfl
    ·exact niz
    ·exact m3
   ·rw [kE b (by rcases hb with rfl | rfl; exact nito; exact m2)]; exact q
  ·refine N2.frame _ hD hK s2D fun b o hb q => kAll b o ?_ ?_
   ·rcases hb with rfl | rfl
    ·exact njz
    ·exact p3
   ·rw [kE b (by rcases hb with rfl | rfl; exact njto; exact p2)]; exact q
  ·intro c o hc q
   simp only [List.mem_cons, List.not_mem_nil, or_false, not_or] at hc
   refine kAll c o hc.1 ?_
   rw [kE c hc.2.1, sd.2 c hc.2.2.2, kC c hc.2.1, sb.2 c hc.2.2.1, kA c hc.1]
   exact q
 ·refine wpAny_bind (m := Builtin.SmallTypes.ownedTupleIsFree (.ref z)) (wpAny_bind (wpAny_field ez rfl rfl ?_))
  refine wpAny_bind (za8 ?_)
  rw [show ((aa : Int)).toNat = aa from rfl, ha]
  refine wpAny_bind (m := field (.ref z) 1) (wpAny_field ez rfl rfl ?_)
  cases f1 with
  | true =>
   refine wpAny_pure ?_
   have zA : s.heap.get? z = some { cls := .type "zip", data := .fields #[rawInt aa, .bool true, .bool false, .ref ti, .ref to] } := ez
   have kA : ∀ c, c ≠ z → s.heap.get? c = s.heap.get? c := fun _ _ => rfl
   have szA : s.heap.objs.size = s.heap.objs.size := rfl
   have s1A := h1
   have s2A := h2
   refine wpAny_bind ?_
   refine wpAny_bind ?_
   refine wpAny_bind (wpAny_holding ?_)
   refine wpAny_bind (N1.item _ _ _ _ k kn s1A fun v hB tk pv s1B sb => wpAny_pure (wpAny_pure ?_))
   have s2B : S2 k hB := N2.frame k _ hB s2A fun b o hb q => by
    rw [sb.2 b (by rcases hb with rfl | rfl; exact Ne.symm nij; exact p1)]; exact q
   refine wpAny_bind ?_
   refine wpAny_bind (wpAny_holding ?_)
   refine wpAny_bind (N2.item _ _ _ _ k kn s2B fun u hD tk2 pu s2D sd => wpAny_pure (wpAny_pure ?_))
   have s1D : S1 (k + 1) hD := N1.frame _ hB hD s1B fun b o hb q => by
    rw [sd.2 b (by rcases hb with rfl | rfl; exact nij; exact m1)]; exact q
   refine wpAny_pure ?_
   refine wpAny_bind (wpAny_newTuple ?_ (by simp [sizeLine_eq]))
   refine wpAny_pure ⟨_, rfl, wpAny_pure ?_⟩
   have kD : ∀ c, c ≠ z → c ≠ i → c ≠ j → hD.get? c = s.heap.get? c := fun c h1 h2 h3 => (sd.2 c h3).trans ((sb.2 c h2).trans (kA c h1))
   have zD := (sd.2 z (Ne.symm njz)).trans ((sb.2 z (Ne.symm niz)).trans zA)
   have szD : hD.objs.size = s.heap.objs.size := sd.1.trans (sb.1.trans szA)
   obtain ⟨hF, eF⟩ : ∃ hF, hF = hD.push { cls := .type "tuple", data := .seq #[v, u] } := ⟨_, rfl⟩
   have kF : ∀ c o, hD.get? c = some o → hF.get? c = some o := fun c o q => by rw [eF]; exact Heap.get?_push_of_some _ q
   have rF : hF.get? hD.objs.size = some { cls := .type "tuple", data := .seq #[v, u] } := by rw [eF]; exact Heap.get?_push_size _ rfl
   have aD : ∃ o, hD.get? aa = some o := by
    by_cases e1 : aa = z
    ·rw [e1]; exact ⟨_, zD⟩
    ·by_cases e2 : aa = i
     ·rw [e2, sd.2 i nij]; exact N1.there _ _ s1B
     ·by_cases e3 : aa = j
      ·rw [e3]; exact N2.there _ _ s2D
      ·exact ⟨oo, by rw [kD aa e1 e2 e3]; exact ha⟩
   obtain ⟨o2, ho2⟩ := aD
   show Q _ { s with heap := hD.push { cls := .type "tuple", data := .seq #[v, u] }, toks := tk2 }
   rw [← eF]
   refine h hD.objs.size v u a b hF tk2 pv pu ?_ rF ⟨_, _, kF _ _ zD, .inr ⟨aa, o2, rfl, kF _ _ ho2⟩⟩ ?_ ?_ ?_ ?_
   ·rw [szD]
    cases q : s.heap.get? s.heap.objs.size with
    | none => rfl
    | some o => exact absurd (Heap.lt_size q) (Nat.lt_irrefl _)
   ·exact kF _ _ (by rw [kD to ntoz (Ne.symm nito) (Ne.symm njto)]; exact ho)
   ·exact N1.frame _ hD hF s1D fun b o _ q => kF b o q
   ·exact N2.frame _ hD hF s2D fun b o _ q => kF b o q
   ·intro c o hc q
    simp only [List.mem_cons, List.not_mem_nil, or_false, not_or] at hc
    exact kF c o (by rw [kD c hc.1 hc.2.2.1 hc.2.2.2]; exact q)
  | false =>
   refine wpAny_bind (wpAny_setField ez rfl (by simp) (wpAny_pure ?_))
   have kA : ∀ c, c ≠ z → (s.heap.update z (Obj.mapFields fun x => x.setIfInBounds 1 (.bool true))).get? c = s.heap.get? c := fun c hc => Heap.get?_update_other _ _ (Ne.symm hc)
   have zA : (s.heap.update z (Obj.mapFields fun x => x.setIfInBounds 1 (.bool true))).get? z = some { cls := .type "zip", data := .fields #[rawInt aa, .bool true, .bool false, .ref ti, .ref to] } := Heap.get?_update_self _ ez rfl
   have szA : (s.heap.update z (Obj.mapFields fun x => x.setIfInBounds 1 (.bool true))).objs.size = s.heap.objs.size := Heap.size_update _ _ _
   dsimp only
   revert kA zA szA
   generalize s.heap.update z (Obj.mapFields fun x => x.setIfInBounds 1 (.bool true)) = hA
   intro kA zA szA
   have s1A : S1 k hA := N1.frame k s.heap hA h1 fun b o hb q => by
    rw [kA b (by rcases hb with rfl | rfl; exact niz; exact m3)]; exact q
   have s2A : S2 k hA := N2.frame k s.heap hA h2 fun b o hb q => by
    rw [kA b (by rcases hb with rfl | rfl; exact njz; exact p3)]; exact q
   refine wpAny_bind ?_
   refine wpAny_bind ?_
   refine wpAny_bind (wpAny_holding ?_)
   refine wpAny_bind (N1.item _ _ _ _ k kn s1A fun v hB tk pv s1B sb => wpAny_pure (wpAny_pure ?_))
   have s2B : S2 k hB := N2.frame k _ hB s2A fun b o hb q => by
    rw [sb.2 b (by rcases hb with rfl | rfl; exact Ne.symm nij; exact p1)]; exact q
   refine wpAny_bind ?_
   refine wpAny_bind (wpAny_holding ?_)
   refine wpAny_bind (N2.item _ _ _ _ k kn s2B fun u hD tk2 pu s2D sd => wpAny_pure (wpAny_pure ?_))
   have s1D : S1 (k + 1) hD := N1.frame _ hB hD s1B fun b o hb q => by
    rw [sd.2 b (by rcases hb with rfl | rfl; exact nij; exact m1)]; exact q
   refine wpAny_pure ?_
   refine wpAny_bind (wpAny_newTuple ?_ (by simp [sizeLine_eq]))
   refine wpAny_pure ⟨_, rfl, wpAny_pure ?_⟩
   have kD : ∀ c, c ≠ z → c ≠ i → c ≠ j → hD.get? c = s.heap.get? c := fun c h1 h2 h3 => (sd.2 c h3).trans ((sb.2 c h2).trans (kA c h1))
   have zD := (sd.2 z (Ne.symm njz)).trans ((sb.2 z (Ne.symm niz)).trans zA)
   have szD : hD.objs.size = s.heap.objs.size := sd.1.trans (sb.1.trans szA)
   obtain ⟨hF, eF⟩ : ∃ hF, hF = hD.push { cls := .type "tuple", data := .seq #[v, u] } := ⟨_, rfl⟩
   have kF : ∀ c o, hD.get? c = some o → hF.get? c = some o := fun c o q => by rw [eF]; exact Heap.get?_push_of_some _ q
   have rF : hF.get? hD.objs.size = some { cls := .type "tuple", data := .seq #[v, u] } := by rw [eF]; exact Heap.get?_push_size _ rfl
   have aD : ∃ o, hD.get? aa = some o := by
    by_cases e1 : aa = z
    ·rw [e1]; exact ⟨_, zD⟩
    ·by_cases e2 : aa = i
     ·rw [e2, sd.2 i nij]; exact N1.there _ _ s1B
     ·by_cases e3 : aa = j
      ·rw [e3]; exact N2.there _ _ s2D
      ·exact ⟨oo, by rw [kD aa e1 e2 e3]; exact ha⟩
   obtain ⟨o2, ho2⟩ := aD
   show Q _ { s with heap := hD.push { cls := .type "tuple", data := .seq #[v, u] }, toks := tk2 }
   rw [← eF]
   refine h hD.objs.size v u a b hF tk2 pv pu ?_ rF ⟨_, _, kF _ _ zD, .inr ⟨aa, o2, rfl, kF _ _ ho2⟩⟩ ?_ ?_ ?_ ?_
   ·rw [szD]
    cases q : s.heap.get? s.heap.objs.size with
    | none => rfl
    | some o => exact absurd (Heap.lt_size q) (Nat.lt_irrefl _)
   ·exact kF _ _ (by rw [kD to ntoz (Ne.symm nito) (Ne.symm njto)]; exact ho)
   ·exact N1.frame _ hD hF s1D fun b o _ q => kF b o q
   ·exact N2.frame _ hD hF s2D fun b o _ q => kF b o q
   ·intro c o hc q
    simp only [List.mem_cons, List.not_mem_nil, or_false, not_or] at hc
    exact kF c o (by rw [kD c hc.1 hc.2.2.1 hc.2.2.2]; exact q)
theorem zce {E : Value → Shared → Prop} {s : Shared} {Q : Option Value → Shared → Prop} {e : Addr} (he : ∃ o, s.heap.get? e = some o ∧ o.cls = .type "StopIteration") (q : Q none s) :
  wpAny (model prog w) A (do
   let b ← isInstance (.ref e) (.type "StopIteration")
   if b = true then pure none else throw (.ref e)) Q E s := by
 refine wpAny_bind (wpAny_isInstance (T := "StopIteration") (b := true) he (by rfl) ?_)
 rw [if_pos rfl]
 exact wpAny_pure q
set_option maxHeartbeats 2000000 in
theorem zga {E : Value → Shared → Prop} {s : Shared} {Q : Option Value → Shared → Prop} {z ti to i j d1 : Addr} {n : Nat} {P1 : Nat → Value → Prop} {S1 : Nat → Heap → Prop} (hh : A.handled = none)
  (N1 : NxSrc prog w i d1 n P1 S1) (niz : i ≠ z) (m3 : d1 ≠ z)
  (hz : ZAt s.heap z ti to) (ht : IsPair s.heap ti (.ref i) (.ref j)) (h1 : S1 n s.heap)
  (h : ∀ (h' : Heap), (∀ c o, c ∉ [z, to, i, j] → s.heap.get? c = some o → h'.get? c = some o) → Q none { s with heap := h' }) :
  wpAny (model prog w) A (pyNext (.ref z)) Q E s := by
 obtain ⟨f0, f1, ez, hf⟩ := hz
 refine wpAny_bind (wpAny_attempt ?_)
 refine wpAny_callSpecial?_slot (T := "zip") ⟨_, ez, rfl⟩ PySem.F.slot_zip_next ?_
 refine wpAny_call_entry PySem.F.slot_zip_next ⟨_, ez, rfl⟩ PySem.F.entry_zip_next ?_ (PySem.F.args_zip_next_1 _)
 refine wpAny_bind (m := slotArgs "__next__" 0 _) (wpAny_pure (a := (Value.ref z, [])) ?_)
 refine wpAny_bind (wpAny_field ez rfl rfl ?_)
 refine wpAny_bind (wpAny_field ez rfl rfl ?_)
 refine wpAny_bind (m := seqItems? (.ref ti)) (wpAny_bind (wpAny_load ht (wpAny_pure ?_)))
 rcases hf with rfl | ⟨aa, oo, rfl, ha⟩
 ·refine wpAny_bind (m := Builtin.SmallTypes.ownedTupleIsFree (.ref z)) (wpAny_bind (wpAny_field ez rfl rfl (wpAny_pure ?_)))
  refine wpAny_bind (wpAny_rule ?_)
  refine wpAny_bind (wpAny_field ez rfl rfl ?_)
  refine wpAny_bind (wpAny_setField ez rfl (by simp) ?_)
  have kA : ∀ c, c ≠ z → (s.heap.update z (Obj.mapFields fun x => x.setIfInBounds 0 Value.ellipsis)).get? c = s.heap.get? c := fun c hc => Heap.get?_update_other _ _ (Ne.symm hc)
  have zA : (s.heap.update z (Obj.mapFields fun x => x.setIfInBounds 0 Value.ellipsis)).get? z = some { cls := .type "zip", data := .fields #[.ellipsis, .bool f1, .bool false, .ref ti, .ref to] } := Heap.get?_update_self _ ez rfl
  dsimp only
  revert kA zA
  generalize s.heap.update z (Obj.mapFields fun x => x.setIfInBounds 0 Value.ellipsis) = hA
  intro kA zA
  have s1A : S1 n hA := N1.frame n s.heap hA h1 fun b o hb q => by
   rw [kA b (by rcases hb with rfl | rfl; exact niz; exact m3)]; exact q
  refine wpAny_bind ?_
  refine wpAny_bind ?_
  refine wpAny_bind (wpAny_onRaise ?_)
  refine wpAny_bind (N1.done _ _ _ _ (show A.in1.handled = none from hh) s1A fun hB e he ⟨o, g, c⟩ => ?_)
  have zB := he z _ (Ne.symm niz) zA
  refine wpAny_setField zB rfl (by simp) ?_
  have kC : ∀ c, c ≠ z → (hB.update z (Obj.mapFields fun x => x.setIfInBounds 0 Value.none)).get? c = hB.get? c := fun c hc => Heap.get?_update_other _ _ (Ne.symm hc)
  have nez : e ≠ z := fun q => by rw [q, zB] at g; cases g; exact absurd (show Value.type "zip" = Value.type "StopIteration" from c) (by intro z; injection z with z; revert z; decide)
  dsimp only
  revert kC
  generalize hB.update z (Obj.mapFields fun x => x.setIfInBounds 0 Value.none) = hC
  intro kC
  refine zce ⟨o, by show hC.get? e = _; rw [kC e nez]; exact g, c⟩ (h hC fun c o hc q => ?_)
  simp only [List.mem_cons, List.not_mem_nil, or_false, not_or] at hc
  rw [kC c hc.1]
  exact he c o hc.2.2.1 (by rw [kA c hc.1]; exact q)
 ·refine wpAny_bind (m := Builtin.SmallTypes.ownedTupleIsFree (.ref z)) (wpAny_bind (wpAny_field ez rfl rfl ?_))
  refine wpAny_bind (za8 ?_)
  rw [show ((aa : Int)).toNat = aa from rfl, ha]
  refine wpAny_bind (m := field (.ref z) 1) (wpAny_field ez rfl rfl ?_)
  cases f1 with
  | true =>
   refine wpAny_pure ?_
   refine wpAny_bind ?_
   refine wpAny_bind ?_
   refine wpAny_bind (wpAny_holding ?_)
   refine wpAny_bind (N1.done _ _ _ _ (show A.in1.handled = none from hh) h1 fun hB e he ⟨o, g, c⟩ => ?_)
   refine zce ⟨o, g, c⟩ (h hB fun c o hc q => ?_)
   simp only [List.mem_cons, List.not_mem_nil, or_false, not_or] at hc
   exact he c o hc.2.2.1 q
  | false =>
   refine wpAny_bind (wpAny_setField ez rfl (by simp) (wpAny_pure ?_))
   have kA : ∀ c, c ≠ z → (s.heap.update z (Obj.mapFields fun x => x.setIfInBounds 1 (.bool true))).get? c = s.heap.get? c := fun c hc => Heap.get?_update_other _ _ (Ne.symm hc)
   dsimp only
   revert kA
   generalize s.heap.update z (Obj.mapFields fun x => x.setIfInBounds 1 (.bool true)) = hA
   intro kA
   have s1A : S1 n hA := N1.frame n s.heap hA h1 fun b o hb q => by
    rw [kA b (by rcases hb with rfl | rfl; exact niz; exact m3)]; exact q
   refine wpAny_bind ?_
   refine wpAny_bind ?_
   refine wpAny_bind (wpAny_holding ?_)
   refine wpAny_bind (N1.done _ _ _ _ (show A.in1.handled = none from hh) s1A fun hB e he ⟨o, g, c⟩ => ?_)
   refine zce ⟨o, g, c⟩ (h hB fun c o hc q => ?_)
   simp only [List.mem_cons, List.not_mem_nil, or_false, not_or] at hc
   exact he c o hc.2.2.1 (by rw [kA c hc.1]; exact q)
/-- the tuples that list(zip(..)) has made so far -/
structure Made (s0 h : Heap) (D : Addr) (P1 P2 : Nat → Value → Prop) (rs : List Addr) : Prop where
 at_ : ∀ (k : Nat) (r : Addr), rs[k]? = some r → s0.get? r = none ∧ r ≠ D ∧ ∃ v u, P1 k v ∧ P2 k u ∧ IsPair h r v u
 nd : rs.Nodup
set_option maxHeartbeats 2000000 in
theorem zeC {R : Result → Shared → Prop} {s : Shared} {s0 : Heap} {z ti to i j d1 d2 D : Addr} {n : Nat} {P1 P2 : Nat → Value → Prop} {S1 S2 : Nat → Heap → Prop} (hh : A.handled = none)
  (N1 : NxSrc prog w i d1 n P1 S1) (N2 : NxSrc prog w j d2 n P2 S2) (ap : [i, j, ti, to, z].Nodup) (n1 : d1 ∉ [j, to, z]) (n2 : d2 ∉ [i, to, z]) (nD : D ∉ [i, j, ti, to, z]) (nD1 : d1 ≠ D) (nD2 : d2 ≠ D) (hD0 : s0.get? D = none) (n1000 : n ≤ 1000)
  (fin : ∀ (rs : List Addr) (h' : Heap) (tk e : Nat), h'.get? D = some (seqObj "list" (rs.map Value.ref).toArray e) → rs.length = n → Made s0 h' D P1 P2 rs → (∀ c o, c ∉ [z, to, i, j] → s0.get? c = some o → h'.get? c = some o) → R (.ok (.ret .none)) { s with heap := h', toks := tk }) :
  ∀ (m k : Nat) (h : Heap) (tk e : Nat) (rs : List Addr) (a b : Value), n - k = m → k ≤ n → rs.length = k → h.get? D = some (seqObj "list" (rs.map Value.ref).toArray e) → Made s0 h D P1 P2 rs → (∀ r ∈ rs, r ∉ [z, to, i, j]) → ZAt h z ti to → IsPair h ti (.ref i) (.ref j) → IsPair h to a b → S1 k h → S2 k h → (∀ c o, c ∉ [z, to, i, j] → s0.get? c = some o → h.get? c = some o) →
   codeAny (model prog w) A (.builtin "list.extend.loop" { pos := [.ref D, .ref z, .none] }) R { s with heap := h, toks := tk } := by
 intro m
 induction m with
 | zero =>
  intro k h tk e rs a b hm kn lr hD M nr hz ht ho h1 h2 K
  have ek : k = n := by omega
  subst ek
  refine codeAny_builtin PySem.F.entry_extend_loop ?_
  have ap' := ap
  simp only [List.nodup_cons, List.mem_cons, List.not_mem_nil, or_false, not_or, not_false_eq_true, List.nodup_nil, and_true] at ap' n1 nD
  refine wpAny_bind (zga (show (A.under _).handled = none from hh) N1 ap'.1.2.2.2 n1.2.2 hz ht h1 fun h' k' => wpAny_pure ?_)
  refine fin rs h' tk e (k' D _ (by simp; exact ⟨nD.2.2.2.2, nD.2.2.2.1, nD.1, nD.2.1⟩) hD) lr ⟨fun q r hr => ?_, M.nd⟩ fun c o hc q => k' c o hc (K c o hc q)
  obtain ⟨g1, g2, v, u, g3, g4, g5⟩ := M.at_ q r hr
  exact ⟨g1, g2, v, u, g3, g4, k' r _ (nr r (List.mem_of_getElem? hr)) g5⟩
 | succ m ih =>
  intro k h tk e rs a b hm kn lr hD M nr hz ht ho h1 h2 K
  refine codeAny_builtin PySem.F.entry_extend_loop ?_
  have ap' := ap
  have nD' := nD
  simp only [List.nodup_cons, List.mem_cons, List.not_mem_nil, or_false, not_or, not_false_eq_true, List.nodup_nil, and_true] at ap' nD'
  refine wpAny_bind (zgH N1 N2 ap n1 n2 hz ht ho (by omega) h1 h2 fun r v u a' b' h' tk' pv pu hr hp hz' ho' s1' s2' k' => ?_)
  have dn : D ∉ [z, to, i, j] := by simp; exact ⟨nD'.2.2.2.2, nD'.2.2.2.1, nD'.1, nD'.2.1⟩
  have hD' := k' D _ dn hD
  have rn : r ∉ [z, to, i, j] := by
   simp only [List.mem_cons, List.not_mem_nil, or_false, not_or]
   obtain ⟨_, _, ez, _⟩ := hz
   obtain ⟨o1, e1⟩ := N1.there _ _ h1
   obtain ⟨o2, e2⟩ := N2.there _ _ h2
   have ho2 : h.get? to = _ := ho
   have hr2 : h.get? r = none := hr
   refine ⟨fun q => ?_, fun q => ?_, fun q => ?_, fun q => ?_⟩
   ·rw [q, ez] at hr2; cases hr2
   ·rw [q, ho2] at hr2; cases hr2
   ·rw [q, e1] at hr2; cases hr2
   ·rw [q, e2] at hr2; cases hr2
  have hr2 : h.get? r = none := hr
  have nrD : r ≠ D := fun q => by rw [q, hD] at hr2; cases hr2
  have r0 : s0.get? r = none := by
   cases q : s0.get? r with
   | none => rfl
   | some o => rw [K r o rn q] at hr2; cases hr2
  have ls : (rs.map Value.ref).toArray.size ≤ 1000 := by rw [List.size_toArray, List.length_map]; omega
  refine wpAny_bind (listUpdate_at hD' rfl ?_ (by rw [sizeLine_eq]; omega) (by rw [Array.size_push, sizeLine_eq]; omega))
  have gD := get?_update_seq (c := "list") hD' (fun x => x.push (.ref r))
  have kL : ∀ c, c ≠ D → (h'.update D (Obj.mapSeq fun x => x.push (.ref r))).get? c = h'.get? c := fun c hc => Heap.get?_update_other _ _ (Ne.symm hc)
  dsimp only
  revert gD kL
  generalize (if ((rs.map Value.ref).toArray.push (Value.ref r)).size == (rs.map Value.ref).toArray.size then e else e + 1) = e'
  generalize h'.update D (Obj.mapSeq fun x => x.push (.ref r)) = hL
  intro gD kL
  have gD2 : hL.get? D = some (seqObj "list" ((rs ++ [r]).map Value.ref).toArray e') := by
   rw [gD, List.map_append]
   simp
  refine wpAny_pure ⟨by first | rfl | with_unfolding_all rfl, ih (k + 1) hL tk' e' (rs ++ [r]) a' b' (by omega) (by omega) (by rw [List.length_append, lr]; rfl) gD2 ⟨fun q r' hr' => ?_, ?_⟩ (fun r' hr' => ?_) ?_ ?_ ?_ ?_ ?_ fun c o hc q => ?_⟩
  ·rcases Nat.lt_trichotomy q rs.length with c | c | c
   ·rw [List.getElem?_append_left c] at hr'
    obtain ⟨g1, g2, v, u, g3, g4, g5⟩ := M.at_ q r' hr'
    exact ⟨g1, g2, v, u, g3, g4, by show hL.get? r' = _; rw [kL r' g2]; exact k' r' _ (nr r' (List.mem_of_getElem? hr')) g5⟩
   ·rw [List.getElem?_append_right (by omega), c, Nat.sub_self] at hr'
    cases hr'
    exact ⟨r0, nrD, v, u, by rw [c, lr]; exact pv, by rw [c, lr]; exact pu, by show hL.get? r = _; rw [kL r nrD]; exact hp⟩
   ·rw [List.getElem?_eq_none (by simp; omega)] at hr'
    cases hr'
  ·rw [List.nodup_append]
   refine ⟨M.nd, by simp, fun a ha b hb e => ?_⟩
   rw [List.mem_singleton.mp hb] at e
   obtain ⟨q, hq⟩ := List.mem_iff_getElem?.mp ha
   obtain ⟨_, _, v, u, _, _, g5⟩ := M.at_ q a hq
   have g6 : h.get? a = _ := g5
   rw [e, hr2] at g6
   cases g6
  ·rcases List.mem_append.mp hr' with m' | m'
   ·exact nr r' m'
   ·rw [List.mem_singleton.mp m']; exact rn
  ·obtain ⟨f0, f1, ez, hf⟩ := hz'
   refine ⟨f0, f1, by rw [kL z (Ne.symm nD'.2.2.2.2)]; exact ez, ?_⟩
   rcases hf with e0 | ⟨aa, oo, e0, ha⟩
   ·exact .inl e0
   ·by_cases q : aa = D
    ·exact .inr ⟨aa, _, e0, by rw [q]; exact gD2⟩
    ·exact .inr ⟨aa, oo, e0, by rw [kL aa q]; exact ha⟩
  ·show hL.get? ti = _
   rw [kL ti (Ne.symm nD'.2.2.1)]
   exact k' ti _ (by simp; exact ⟨ap'.2.2.1.2, ap'.2.2.1.1, fun q => ap'.1.2.1 q.symm, fun q => ap'.2.1.1 q.symm⟩) ht
  ·show hL.get? to = _
   rw [kL to (Ne.symm nD'.2.2.2.1)]
   exact ho'
  ·exact N1.frame _ h' hL s1' fun b o hb q => by
    rw [kL b (by rcases hb with rfl | rfl; exact Ne.symm nD'.1; exact nD1)]; exact q
  ·exact N2.frame _ h' hL s2' fun b o hb q => by
    rw [kL b (by rcases hb with rfl | rfl; exact Ne.symm nD'.2.1; exact nD2)]; exact q
  ·have ncD : c ≠ D := fun z => by rw [z, hD0] at q; cases q
   rw [kL c ncD]
   exact k' c o hc (K c o hc q)
set_option maxHeartbeats 2000000 in
theorem zcW {E : Value → Shared → Prop} {Q : Value → Shared → Prop} {s : Shared} {z ti to i j d1 d2 : Addr} {n : Nat} {P1 P2 : Nat → Value → Prop} {S1 S2 : Nat → Heap → Prop} (hh : A.handled = none)
  (N1 : NxSrc prog w i d1 n P1 S1) (N2 : NxSrc prog w j d2 n P2 S2) (ap : [i, j, ti, to, z].Nodup) (n1 : d1 ∉ [j, to, z]) (n2 : d2 ∉ [i, to, z]) (t1 : d1 < s.heap.objs.size) (t2 : d2 < s.heap.objs.size) (n1000 : n ≤ 1000)
  (hz : IsZip s.heap z ti to .none) (ht : IsPair s.heap ti (.ref i) (.ref j)) (ho : IsPair s.heap to .none .none) (h1 : S1 0 s.heap) (h2 : S2 0 s.heap)
  (fin : ∀ (D : Addr) (rs : List Addr) (h' : Heap) (tk e : Nat), s.heap.get? D = none → h'.get? D = some (seqObj "list" (rs.map Value.ref).toArray e) → rs.length = n → Made s.heap h' D P1 P2 rs → (∀ c o, c ∉ [z, to, i, j] → s.heap.get? c = some o → h'.get? c = some o) → Q (.ref D) { s with heap := h', toks := tk }) :
  wpAny (model prog w) A (call (.type "list") [.ref z]) Q E s := by
 obtain ⟨D, eD⟩ : ∃ D, D = s.heap.objs.size := ⟨_, rfl⟩
 refine callType_codes (newId := "list.__new__") (initId := "list.__init__") (Q₁ := fun obj s1 => obj = .ref s.heap.objs.size ∧ s1 = { s with heap := s.heap.push { cls := .type "list", data := .seq #[] } }) PySem.F.called_list (by rfl) PySem.F.entry_list_init (code_list_new _ ⟨rfl, rfl⟩) (fun obj s1 hq => ?_)
 obtain ⟨rfl, rfl⟩ := hq
 rw [← eD]
 obtain ⟨h0, e0⟩ : ∃ h0, h0 = s.heap.push { cls := .type "list", data := .seq #[] } := ⟨_, rfl⟩
 have k0 : ∀ c o, s.heap.get? c = some o → h0.get? c = some o := fun c o q => by rw [e0]; exact Heap.get?_push_of_some _ q
 have gD : h0.get? D = some (seqObj "list" #[] 0) := by rw [e0, eD]; exact Heap.get?_push_size _ rfl
 rw [← e0]
 refine ⟨⟨_, gD, rfl⟩, PySem.F.args_list_init_2 _ _, ?_⟩
 have hz0 := k0 _ _ hz
 refine wpAny_bind (wpAny_listItems gD rfl ?_)
 refine wpAny_bind (PyProof.Rows.listUpdate_at gD rfl ?_ (by simp) (by simp))
 refine wpAny_bind (wpAny_letGo ?_)
 have gE := PyProof.Rows.get?_update_seq (c := "list") gD (fun x => #[])
 have kE : ∀ c, c ≠ D → (h0.update D (Obj.mapSeq fun x => #[])).get? c = h0.get? c := fun c hc => Heap.get?_update_other _ _ (Ne.symm hc)
 dsimp only
 revert gE kE
 generalize h0.update D (Obj.mapSeq fun x => #[]) = hE
 generalize (if (#[] : Array Value).size == (#[] : Array Value).size then 0 else 0 + 1) = e'
 intro gE kE
 have lt : ∀ c o, s.heap.get? c = some o → c ≠ D := fun c o q => by rw [eD]; exact Nat.ne_of_lt (Heap.lt_size q)
 have kS : ∀ c o, s.heap.get? c = some o → hE.get? c = some o := fun c o q => by rw [kE c (lt c o q)]; exact k0 c o q
 have zE := kS _ _ hz
 refine wpAny_bind (wpAny_typeOf (T := "zip") ⟨_, zE, rfl⟩ ?_)
 have nzD : D ≠ z := fun q => lt z _ hz q.symm
 rw [if_neg (by
  have e1 : Builtin.List.listSameRef (Value.ref D) (Value.ref z) = false := by
   unfold Builtin.List.listSameRef
   simpa using nzD
  rw [e1]
  decide)]
 refine wpAny_bind (wpAny_pyIter_zip zE ?_)
 refine wpAny_bind (wpAny_holding ?_)
 refine wpAny_bind (wpAny_specialOf (T := "zip") (r := none) ⟨_, zE, rfl⟩ (by rfl) ?_)
 refine wpAny_bind (wpAny_specialOf (T := "zip") (r := none) ⟨_, zE, rfl⟩ (by rfl) ?_)
 refine wpAny_pure ?_
 refine wpAny_bind (wpAny_rule ?_)
 refine wpAny_bind (m := Builtin.List.listTouch (.ref D)) (wpAny_bind (PyProof.Rows.listUpdate_at gE rfl ?_ (by simp) (by simp)))
 have gF := PyProof.Rows.get?_update_seq (c := "list") gE (fun x => x.push Value.none)
 have kF : ∀ c, c ≠ D → (hE.update D (Obj.mapSeq fun x => x.push Value.none)).get? c = hE.get? c := fun c hc => Heap.get?_update_other _ _ (Ne.symm hc)
 dsimp only
 revert gF kF
 generalize hE.update D (Obj.mapSeq fun x => x.push Value.none) = hF
 generalize (if ((#[] : Array Value).push Value.none).size == (#[] : Array Value).size then e' else e' + 1) = e2
 intro gF kF
 refine PyProof.Rows.listUpdate_at gF rfl ?_ (by simp [sizeLine_eq]) (by simp)
 have gG := PyProof.Rows.get?_update_seq (c := "list") gF (fun x => x.pop)
 have kG : ∀ c, c ≠ D → (hF.update D (Obj.mapSeq fun x => x.pop)).get? c = hF.get? c := fun c hc => Heap.get?_update_other _ _ (Ne.symm hc)
 dsimp only
 revert gG kG
 generalize hF.update D (Obj.mapSeq fun x => x.pop) = hG
 generalize (if ((#[] : Array Value).push Value.none).pop.size == ((#[] : Array Value).push Value.none).size then e2 else e2 + 1) = e3
 intro gG kG
 have gG2 : hG.get? D = some (seqObj "list" (([] : List Addr).map Value.ref).toArray e3) := by rw [gG]; simp
 have kH : ∀ c o, s.heap.get? c = some o → hG.get? c = some o := fun c o q => by rw [kG c (lt c o q), kF c (lt c o q)]; exact kS c o q
 obtain ⟨oi, ei⟩ := N1.there _ _ h1
 obtain ⟨oj, ej⟩ := N2.there _ _ h2
 refine wpAny_pure ⟨by first | rfl | with_unfolding_all rfl, ?_⟩
 refine zeC (A := A.in1) (s := s) (s0 := s.heap) (D := D) (show A.in1.handled = none from hh) N1 N2 ap n1 n2 ?_ (by rw [eD]; exact Nat.ne_of_lt t1) (by rw [eD]; exact Nat.ne_of_lt t2) ?_ n1000 (fun rs h' tk e g1 g2 g3 g4 => ⟨rfl, fin D rs h' tk e ?_ g1 g2 g3 g4⟩) n 0 hG s.toks e3 [] .none .none rfl (Nat.zero_le _) rfl gG2 ⟨(fun q r hr => by cases hr), List.nodup_nil⟩ (fun r hr => by cases hr) ⟨.none, false, kH _ _ hz, .inl rfl⟩ (kH _ _ ht) (kH _ _ ho) (N1.frame _ _ _ h1 fun b o _ q => kH b o q) (N2.frame _ _ _ h2 fun b o _ q => kH b o q) fun c o _ q => kH c o q
 ·simp only [List.mem_cons, List.not_mem_nil, or_false, not_or]
  exact ⟨fun q => lt i _ ei q.symm, fun q => lt j _ ej q.symm, fun q => lt ti _ ht q.symm, fun q => lt to _ ho q.symm, nzD⟩
 ·cases q : s.heap.get? D with
  | none => rfl
  | some o => exact absurd rfl (lt D o q)
 ·cases q : s.heap.get? D with
  | none => rfl
  | some o => exact absurd rfl (lt D o q)
theorem zeI {α : Type} {E : Value → Shared → Prop} {s : Shared} {Q : α → Shared → Prop} (hh : A.handled = none) (h : ∀ h' e, (∀ b o, s.heap.get? b = some o → Heap.get? h' b = some o) → (∃ o, Heap.get? h' e = some o ∧ o.cls = .type "StopIteration") → E (.ref e) { s with heap := h' }) : wpAny (model prog w) A (Builtin.SmallTypes.stopIteration (α := α)) Q E s := by
 refine wpAny_bind (m := newExc (.type "StopIteration") []) (wpAny_bind (wpAny_newTuple ?_ (by simp)))
 refine wpAny_bind (m := firstArgMember _ _) (wpAny_pure (a := Value.none) ?_)
 refine wpAny_bind (m := alloc _) (wpAny_alloc (wpAny_pure ?_))
 refine wpAny_raiseNew_none hh ?_
 refine h _ _ (fun b o q => Heap.get?_push_of_some _ (Heap.get?_push_of_some _ q)) ⟨_, Heap.get?_push_size _ rfl, rfl⟩
theorem zhF {I l : Addr} {its : Array Value} : NxSrc prog w I l its.size (fun k v => its[k]? = some v) (fun k h => h.IsListIter I l k ∧ h.IsList l its) where
 item := fun A E s Q i hi ⟨h1, h2⟩ h => wpAny_nextOf_list_item h1 h2 (Array.getElem?_eq_getElem hi) fun h' g1 g2 => h _ h' s.toks (Array.getElem?_eq_getElem hi) ⟨g1, by
  obtain ⟨o, e1, e2⟩ := h2
  refine ⟨o, ?_, e2⟩
  rw [g2.2 l (fun e => by
   obtain ⟨o', e3, e4, _⟩ := h1
   rw [e, e3] at e1
   cases e1
   rw [e4] at e2
   exact absurd e2.1 (by intro z; injection z with z; revert z; decide))]
  exact e1⟩ g2
 done := fun A E s Q hh ⟨h1, h2⟩ h => wpAny_nextOf_list_end hh h1 h2 (Array.getElem?_eq_none (Nat.le_refl _)) h
 there := fun i h ⟨⟨o, e, _⟩, _⟩ => ⟨o, e⟩
 frame := fun i h h' ⟨⟨o, e1, e2⟩, ⟨o', e3, e4⟩⟩ k => ⟨⟨o, k _ _ (.inl rfl) e1, e2⟩, ⟨o', k _ _ (.inr rfl) e3, e4⟩⟩
theorem zhi {I : Addr} {x : Str} {t : Tok} : NxSrc prog w I I x.cps.size (fun k v => ∃ c tk, x.cps[k]? = some c ∧ v = .str ⟨#[c]⟩ tk) (fun k h => h.IsStrIter I "str_ascii_iterator" x t k) where
 item := fun A E s Q i hi h1 h => wpAny_nextOf_ascii_item h1 (Array.getElem?_eq_getElem hi) fun h' g1 g2 => h _ h' _ ⟨_, _, Array.getElem?_eq_getElem hi, rfl⟩ g1 g2
 done := fun A E s Q hh h1 h => wpAny_nextOf_ascii_end hh h1 (Array.getElem?_eq_none (Nat.le_refl _)) h
 there := fun i h ⟨o, e, _⟩ => ⟨o, e⟩
 frame := fun i h h' ⟨o, e1, e2⟩ k => ⟨o, k _ _ (.inl rfl) e1, e2⟩
theorem zgW {I t : Addr} {its : Array Value} (nI : t ≠ I) : NxSrc prog w I t its.size (fun k v => its[k]? = some v) (fun k h => h.IsTupleIter I t k ∧ h.IsTuple t its) where
 item := fun A E s Q i hi ⟨h1, h2⟩ h => by
  obtain ⟨o, e1, e2, e3⟩ := id h1
  obtain ⟨o', e4, e5, n', e6⟩ := id h2
  refine wpAny_bind (wpAny_callSpecial?_slot (T := "tuple_iterator") ⟨o, e1, e2⟩ slot_tupleiter_next (wpAny_call_entry slot_tupleiter_next ⟨o, e1, e2⟩ entry_tupleiter_next ?_ (args_tupleiter_next _)))
  refine wpAny_bind (m := slotArgs "__next__" 0 _) (wpAny_pure (a := (Value.ref I, [])) ?_)
  refine wpAny_bind (wpAny_field e1 e3 rfl ?_)
  refine wpAny_bind (wpAny_field e1 e3 rfl ?_)
  refine wpAny_bind (m := seqItems? (.ref t)) (wpAny_bind (wpAny_load e4 ?_))
  rw [e6]
  refine wpAny_pure ?_
  show wpAny _ _ (match its[i]? with | some x => _ | none => _) _ _ _
  rw [Array.getElem?_eq_getElem hi]
  refine wpAny_bind (wpAny_setField e1 e3 (by simp) (wpAny_pure ⟨_, rfl, wpAny_pure ?_⟩))
  obtain ⟨cl, di, da, sl⟩ := o
  have e2' : cl = .type "tuple_iterator" := e2
  have e3' : da = .fields #[.ref t, .int (i : Int) 0] := e3
  subst e2' e3'
  have gI : (s.heap.update I (Obj.mapFields fun x => x.setIfInBounds 1 (rawInt ((i : Int) + 1)))).get? I = some ⟨.type "tuple_iterator", di, .fields #[.ref t, .int ((i + 1 : Nat) : Int) 0], sl⟩ := Heap.get?_update_self _ e1 rfl
  have kI : ∀ c, c ≠ I → (s.heap.update I (Obj.mapFields fun x => x.setIfInBounds 1 (rawInt ((i : Int) + 1)))).get? c = s.heap.get? c := fun c hc => Heap.get?_update_other _ _ (Ne.symm hc)
  refine h _ _ s.toks (Array.getElem?_eq_getElem hi) ⟨⟨_, gI, rfl, rfl⟩, ⟨o', by rw [kI t nI]; exact e4, e5, n', e6⟩⟩ ⟨Heap.size_update _ _ _, kI⟩
 done := fun A E s Q hh ⟨h1, h2⟩ h => by
  obtain ⟨o, e1, e2, e3⟩ := id h1
  obtain ⟨o', e4, e5, n', e6⟩ := id h2
  refine wpAny_bind (wpAny_callSpecial?_slot (T := "tuple_iterator") ⟨o, e1, e2⟩ slot_tupleiter_next (wpAny_call_entry slot_tupleiter_next ⟨o, e1, e2⟩ entry_tupleiter_next ?_ (args_tupleiter_next _)))
  refine wpAny_bind (m := slotArgs "__next__" 0 _) (wpAny_pure (a := (Value.ref I, [])) ?_)
  refine wpAny_bind (wpAny_field e1 e3 rfl ?_)
  refine wpAny_bind (wpAny_field e1 e3 rfl ?_)
  refine wpAny_bind (m := seqItems? (.ref t)) (wpAny_bind (wpAny_load e4 ?_))
  rw [e6]
  refine wpAny_pure ?_
  show wpAny _ _ (match its[its.size]? with | some x => _ | none => _) _ _ _
  rw [Array.getElem?_eq_none (Nat.le_refl _)]
  refine wpAny_bind (wpAny_rule ?_)
  refine wpAny_bind (wpAny_setField e1 e3 (by simp) ?_)
  have kI : ∀ c, c ≠ I → (s.heap.update I (Obj.mapFields fun x => x.setIfInBounds 0 Value.none)).get? c = s.heap.get? c := fun c hc => Heap.get?_update_other _ _ (Ne.symm hc)
  exact zeI (show A.in1.handled = none from hh) fun h' e k he => h h' e (fun b o hb q => k b o (by rw [kI b hb]; exact q)) he
 there := fun i h ⟨⟨o, e, _⟩, _⟩ => ⟨o, e⟩
 frame := fun i h h' ⟨⟨o, e1, e2⟩, ⟨o', e3, e4⟩⟩ k => ⟨⟨o, k _ _ (.inl rfl) e1, e2⟩, ⟨o', k _ _ (.inr rfl) e3, e4⟩⟩
end
end L2
set_option Elab.async false
set_option linter.all false
set_option maxRecDepth 100000
namespace L2
open PySem PySem.Spec PyProof.Rows
theorem Inv.many {X : Cx} {pins : List (Addr × Obj)} {σ : St} {H H' : Hp} {s : Shared} {h' : Heap} {t' : Nat} (I : Inv X pins σ H s) (k : ∀ b u, s.heap.get? b = some u → h'.get? b = some u)
  (old : ∀ b u, s.heap.get? b = some u → H' b = H b) (same : ∀ b o, H b = some o → H' b = some o) (ok : ∀ b o, H' b = some o → H b = none → zaT X.prog X.w H' h' b o) : Inv X pins σ H' { s with heap := h', toks := t' } := by
 refine I.un ⟨fun b u q _ _ _ => k b u q, fun b u q _ _ _ => ⟨u.slots, k b u q⟩, fun b u q n _ => by rw [old b u q]; exact n, fun b u q _ => ⟨u, k b u q⟩, fun b xs q => same _ _ q, fun b o u q => same _ _ q, fun b ps q => ⟨#[], by rw [same _ _ q]; simp⟩⟩ fun b u e => ?_
 cases hb : H b with
 | none => exact ok b u e hb
 | some o =>
  have := same b o hb
  rw [e] at this
  cases this
  exact (I.hok b u hb).stay (fun c v _ q => k c v q) (fun c q => same _ _ q) fun c xs q => same _ _ q
theorem Inv.free_of {X : Cx} {pins : List (Addr × Obj)} {σ : St} {H : Hp} {s : Shared} {a : Addr} (I : Inv X pins σ H s) (ha : s.heap.get? a = none) : H a = none := by
 cases q : H a with
 | none => rfl
 | some u =>
  obtain ⟨ob, e⟩ : ∃ ob, s.heap.get? a = some ob := by
   have x := I.hok a u q
   cases u with
   | lst xs => obtain ⟨_, _, _, _, e⟩ := x; exact ⟨_, e⟩
   | tup xs => obtain ⟨_, _, _, p⟩ := x; obtain ⟨_, e, _⟩ := p; exact ⟨_, e⟩
   | dK kvs => obtain ⟨_, _, _, _, o, _, _, e, _⟩ := x; exact ⟨_, e⟩
   | dT kvs => obtain ⟨_, _, _, _, o, _, _, e, _⟩ := x; exact ⟨_, e⟩
   | set S n => obtain ⟨o, _, _, _, e, _⟩ := x; exact ⟨_, e⟩
   | ins C dx fs => obtain ⟨_, _, _, e, _⟩ := x; exact ⟨_, e⟩
   | own y => exact x
   | xd fs => obtain ⟨_, ⟨_, _, _, e, _⟩, _⟩ := x; exact ⟨_, e⟩
   | rng lo hi => obtain ⟨_, _, _, e⟩ := x; exact ⟨_, e⟩
   | frz ob u => obtain ⟨e, _⟩ := x; exact ⟨_, e⟩
   | tbl ps => exact ⟨_, (show s.heap.get? a = some _ from x)⟩
   | met f y => exact ⟨_, (show s.heap.get? a = some _ from x)⟩
   | ext φ => obtain ⟨_, e, _⟩ := x; exact e
  rw [ha] at e; cases e
theorem vals_refs : ∀ rs : List Addr, Vals (rs.map V.ref) (rs.map Value.ref)
 | [] => .nil
 | r :: rs => .cons rfl (vals_refs rs)
def SrcV (K : PySem.W.Frag) (H : Hp) (x : V) (xs : List V) : Prop := (∃ p, x = .ref p ∧ SqT K H p xs) ∨ (∃ p, x = .ref p ∧ SqL K H p xs) ∨ ∃ t : Str, x = .str t ∧ (t.cps.all fun c => decide (c < 128)) = true ∧ xs = t.cps.toList.map fun c => V.str ⟨#[c]⟩
theorem zg7 {X : Cx} {pins : List (Addr × Obj)} {σ : St} {H : Hp} {s : Shared} {x : V} {v : Value} {xs : List V} (I : Inv X pins σ H s) (r : RelV x v) (h : SrcV X.K H x xs) :
  ∃ oI : Obj, oI.isFreed = false ∧ (∀ (s' : Shared), (∀ b o, s.heap.get? b = some o → s'.heap.get? b = some o) → ∀ (A : Around) (E Q : Value → Shared → Prop), Q (.ref s'.heap.objs.size) { s' with heap := s'.heap.push oI } → wpAny (model X.prog X.w) A (pyIter v) Q E s') ∧
   ∀ I0 : Addr, s.heap.get? I0 = none → ∃ (d : Addr) (P : Nat → Value → Prop) (St : Nat → Heap → Prop), (d = I0 ∨ ∃ o, s.heap.get? d = some o) ∧ NxSrc X.prog X.w I0 d xs.length P St ∧ (∀ k u, P k u → ∃ y, xs[k]? = some y ∧ RelV y u) ∧ ∀ h' : Heap, (∀ b o, s.heap.get? b = some o → h'.get? b = some o) → h'.get? I0 = some oI → St 0 h' := by
 have back : ∀ {its : List Value}, Vals xs its → ∀ (k : Nat) (u : Value), its.toArray[k]? = some u → ∃ y, xs[k]? = some y ∧ RelV y u := fun {its} rr k u hu => by
  have hl := rr.length
  rw [List.getElem?_toArray] at hu
  have kl := (List.getElem?_eq_some_iff.mp hu).1
  have hx := List.getElem?_eq_getElem (l := xs) (i := k) (by omega)
  obtain ⟨u', hu', ru⟩ := Vals.get rr hx
  rw [hu] at hu'
  cases hu'
  exact ⟨_, hx, ru⟩
 rcases h with ⟨p, rfl, hq⟩ | ⟨p, rfl, hq⟩ | ⟨t, rfl, ha, rfl⟩
 ·cases r
  obtain ⟨its, rr, pl, hz⟩ := I.tuple hq
  have hl := rr.length
  obtain ⟨o, e1, e2, n, e3⟩ := id pl
  refine ⟨{ cls := .type "tuple_iterator", data := .fields #[.ref p, .int 0 0] }, rfl, fun s' k A E Q q => wpAny_pyIter_tuple (items := its.toArray) ⟨o, k _ _ e1, e2, n, e3⟩ q, fun I0 n0 => ⟨p, (fun k v => its.toArray[k]? = some v), (fun k h => h.IsTupleIter I0 p k ∧ h.IsTuple p its.toArray), .inr ⟨o, e1⟩, ?_, fun k u hu => back rr k u hu, fun h' k g => ⟨⟨_, g, rfl, rfl⟩, ⟨o, k _ _ e1, e2, n, e3⟩⟩⟩⟩
  have := zgW (prog := X.prog) (w := X.w) (I := I0) (t := p) (its := its.toArray) (fun e => by rw [e, n0] at e1; cases e1)
  rw [List.size_toArray, ← hl] at this
  exact this
 ·cases r
  obtain ⟨its, rr, pl, hz⟩ := I.list hq
  have hl := rr.length
  obtain ⟨o, e1, e2⟩ := id pl.isList
  refine ⟨{ cls := .type "list_iterator", data := .fields #[.ref p, .int 0 0] }, rfl, fun s' k A E Q q => wpAny_pyIter_list (items := its.toArray) ⟨o, k _ _ e1, e2⟩ q, fun I0 n0 => ⟨p, (fun k v => its.toArray[k]? = some v), (fun k h => h.IsListIter I0 p k ∧ h.IsList p its.toArray), .inr ⟨o, e1⟩, ?_, fun k u hu => back rr k u hu, fun h' k g => ⟨⟨_, g, rfl, rfl⟩, ⟨o, k _ _ e1, e2⟩⟩⟩⟩
  have := zhF (prog := X.prog) (w := X.w) (I := I0) (l := p) (its := its.toArray)
  rw [List.size_toArray, ← hl] at this
  exact this
 ·obtain ⟨tk, rfl⟩ := r
  refine ⟨{ cls := .type "str_ascii_iterator", data := .fields #[.str t tk, .int 0 0] }, rfl, fun s' k A E Q q => wpAny_pyIter_ascii ha q, fun I0 n0 => ⟨I0, (fun k v => ∃ c tk, t.cps[k]? = some c ∧ v = .str ⟨#[c]⟩ tk), (fun k h => h.IsStrIter I0 "str_ascii_iterator" t tk k), .inl rfl, ?_, ?_, fun h' k g => ⟨_, g, rfl, rfl⟩⟩⟩
  ·have := zhi (prog := X.prog) (w := X.w) (I := I0) (x := t) (t := tk)
   rw [List.length_map, Array.length_toList]
   exact this
  ·rintro k u ⟨c, tk', hc, rfl⟩
   exact ⟨.str ⟨#[c]⟩, by rw [List.getElem?_map, Array.getElem?_toList, hc]; rfl, ⟨tk', rfl⟩⟩
/-- the heap with the pairs and their list laid -/
def zd7 (H : Hp) (D : Addr) (rs : List Addr) (xs ys : List V) : Hp := fun c => if c = D then some (.lst (rs.map V.ref)) else match (rs.zip (xs.zip ys)).lookup c with
 | some p => some (.tup [p.1, p.2])
 | none => H c
theorem look_zip : ∀ {rs : List Addr} {ps : List (V × V)} {k : Nat} {r : Addr} {p : V × V}, rs.Nodup → rs[k]? = some r → ps[k]? = some p → (rs.zip ps).lookup r = some p
 | [], _, _, _, _, _, h, _ => by simp at h
 | a :: rs, [], _, _, _, _, _, h => by simp at h
 | a :: rs, b :: ps, 0, r, p, nd, h1, h2 => by
  cases h1
  cases h2
  rw [List.zip_cons_cons, List.lookup_cons_self]
 | a :: rs, b :: ps, k + 1, r, p, nd, h1, h2 => by
  obtain ⟨n1, n2⟩ := List.nodup_cons.mp nd
  have m : r ∈ rs := List.mem_of_getElem? (by simpa using h1)
  rw [List.zip_cons_cons, List.lookup_cons]
  have e : (r == a) = false := by
   rw [beq_eq_false_iff_ne]
   intro z
   rw [z] at m
   exact n1 m
  rw [e]
  exact look_zip n2 (by simpa using h1) (by simpa using h2)
theorem look_mem : ∀ {rs : List Addr} {ps : List (V × V)} {r : Addr} {p : V × V}, (rs.zip ps).lookup r = some p → ∃ k : Nat, rs[k]? = some r ∧ ps[k]? = some p
 | [], _, _, _, h => by simp at h
 | a :: rs, [], _, _, h => by simp at h
 | a :: rs, b :: ps, r, p, h => by
  rw [List.zip_cons_cons, List.lookup_cons] at h
  split at h
  ·rename_i e
   cases h
   exact ⟨0, by rw [eq_of_beq e]; rfl, rfl⟩
  ·obtain ⟨k, h1, h2⟩ := look_mem h
   exact ⟨k + 1, by simpa using h1, by simpa using h2⟩
def zeA (K : PySem.W.Frag) (ta : TA) : TE := fun σ H Q => ta σ H fun vs H1 => ∃ x y xs ys, vs = [x, y] ∧ SrcV K H1 x xs ∧ SrcV K H1 y ys ∧ xs.length = ys.length ∧ xs.length ≤ 1000 ∧
 ∀ (D : Addr) (rs : List Addr) (H' : Hp), Same H1 H' → H1 D = none → H' D = some (.lst (rs.map V.ref)) → rs.length = xs.length → (∀ (k : Nat) (r : Addr) (u v : V), rs[k]? = some r → xs[k]? = some u → ys[k]? = some v → H' r = some (.tup [u, v])) → Q (.ref D) H'
section
variable {X : Cx} {e1 e2 : Expr} {ta : TA} {p p1 pos pos1 : Pos} {K : PySem.W.Frag}
set_option maxHeartbeats 2000000 in
theorem zdU (hk : X.K = K) (hc : X.calm = true) (hg : Gl X "list") (hm : X.mg "list" = none) (hg2 : Gl X "zip") (hm2 : X.mg "zip" = none) (ha : PA X [e1, e2] ta)
  (hs : starEach [e1, e2] X.env = (false, eval e1 X.env) :: starEach [e2] X.env := by rfl) (hp : (backTo pos1 (starEach [e2] X.env)).any (·.1) = false := by rfl) :
  PE X (.Call (.Name "list" p) [.Call (.Name "zip" p1) [e1, e2] [] pos1] [] pos) (zeA K ta) := by
 subst hk
 intro pins s σ H Q I h
 refine wpAny_Call_Name_kw (zbV I hg hm (u := .type "list") (by decide +kernel) ?_)
 refine PyProof.Rows.callWith_type1 (Calls.spliced_cons ?_) rfl rfl
 refine wpAny_Call_Name_kw (zbV I hg2 hm2 (u := .type "zip") (by decide +kernel) ?_)
 refine PyProof.Rows.callWith_type1 (thn (ha pos1 pins s σ H _ I h) fun us s1 ⟨vs, H1, I1, r1, x, y, xs, ys, ev, sx, sy, le, l1000, q⟩ => ?_) hs hp
 subst ev
 obtain ⟨u, v, rfl, ru, rv⟩ := ziR r1
 obtain ⟨oI, fI, pI, nI⟩ := zg7 I1 ru sx
 obtain ⟨oJ, fJ, pJ, nJ⟩ := zg7 I1 rv sy
 refine zhP fI fJ (fun A E Q q => pI s1 (fun b o g => g) A E Q q) (fun A E Q q => pJ _ (fun b o g => Heap.get?_push_of_some _ g) A E Q q) fun i j ti to z h' ei ej k gi gj ni nj nti nto nz pt po pz nd => Calls.spliced_nil ?_
 obtain ⟨d1, P1, S1, hd1, N1, b1, st1⟩ := nI i ni
 obtain ⟨d2, P2, S2, hd2, N2, b2, st2⟩ := nJ j nj
 rw [← le] at N2
 have nd' := nd
 simp only [List.nodup_cons, List.mem_cons, List.not_mem_nil, or_false, not_or, not_false_eq_true, List.nodup_nil, and_true] at nd'
 have off : ∀ {d c : Addr} {o : Obj}, s1.heap.get? d = some o → s1.heap.get? c = none → d ≠ c := fun g n e => by rw [e, n] at g; cases g
 have t1 : ∃ o, h'.get? d1 = some o := by
  rcases hd1 with rfl | ⟨o, g⟩
  ·exact ⟨_, gi⟩
  ·exact ⟨o, k _ _ g⟩
 have t2 : ∃ o, h'.get? d2 = some o := by
  rcases hd2 with rfl | ⟨o, g⟩
  ·exact ⟨_, gj⟩
  ·exact ⟨o, k _ _ g⟩
 refine zcW (A := X.A) (I1.ok.hd hc) N1 N2 nd ?_ ?_ (by obtain ⟨o, g⟩ := t1; exact Heap.lt_size g) (by obtain ⟨o, g⟩ := t2; exact Heap.lt_size g) l1000 pz pt po (st1 h' k gi) (st2 h' k gj) fun D rs h2 tk e hD gD lr M K2 => ?_
 ·simp only [List.mem_cons, List.not_mem_nil, or_false, not_or]
  rcases hd1 with rfl | ⟨o, g⟩
  ·exact ⟨nd'.1.1, nd'.1.2.2.1, nd'.1.2.2.2⟩
  ·exact ⟨off g nj, off g nto, off g nz⟩
 ·simp only [List.mem_cons, List.not_mem_nil, or_false, not_or]
  rcases hd2 with rfl | ⟨o, g⟩
  ·exact ⟨fun z => nd'.1.1 z.symm, nd'.2.1.2.1, nd'.2.1.2.2⟩
  ·exact ⟨off g ni, off g nto, off g nz⟩
 ·have D0 : s1.heap.get? D = none := by
   cases g : s1.heap.get? D with
   | none => rfl
   | some o =>
    have hD2 : h'.get? D = none := hD
    rw [k _ _ g] at hD2; cases hD2
  have r0 : ∀ r ∈ rs, s1.heap.get? r = none := fun r hr => by
   obtain ⟨m, hm'⟩ := List.mem_iff_getElem?.mp hr
   have g0 : h'.get? r = none := (M.at_ m r hm').1
   cases g : s1.heap.get? r with
   | none => rfl
   | some o => rw [k _ _ g] at g0; cases g0
  have kk : ∀ b u, s1.heap.get? b = some u → h2.get? b = some u := fun b u g => K2 b u (by
   simp only [List.mem_cons, List.not_mem_nil, or_false, not_or]
   exact ⟨off g nz, off g nto, off g ni, off g nj⟩) (k b u g)
  have miss : ∀ b, b ≠ D → b ∉ rs → zd7 H1 D rs xs ys b = H1 b := fun b n1 n2 => by
   unfold zd7
   rw [if_neg n1]
   cases g : (rs.zip (xs.zip ys)).lookup b with
   | none => rfl
   | some p =>
    obtain ⟨m, hm', _⟩ := look_mem g
    exact absurd (List.mem_of_getElem? hm') n2
  have same : ∀ b o, H1 b = some o → zd7 H1 D rs xs ys b = some o := fun b o g => by
   rw [miss b (fun e => by rw [e, I1.free_of D0] at g; cases g) (fun m => by rw [I1.free_of (r0 b m)] at g; cases g)]
   exact g
  refine ⟨.ref D, zd7 H1 D rs xs ys, I1.many kk (fun b u g => miss b (off g D0) (fun m => by rw [r0 b m] at g; cases g)) same (fun b o g n => ?_), rfl, q D rs _ same (I1.free_of D0) (by unfold zd7; rw [if_pos rfl]) lr fun m r u' v' h1 h2' h3 => ?_⟩
  ·unfold zd7 at g
   by_cases eb : b = D
   ·rw [if_pos eb] at g
    cases g
    rw [eb]
    exact ⟨by rw [List.length_map, sizeLine_eq]; omega, rs.map Value.ref, e, vals_refs rs, gD⟩
   ·rw [if_neg eb] at g
    cases gl : (rs.zip (xs.zip ys)).lookup b with
    | none => rw [gl] at g; rw [n] at g; cases g
    | some pr =>
     rw [gl] at g
     cases g
     obtain ⟨m, hm1, hm2'⟩ := look_mem gl
     obtain ⟨_, _, v1, u1, q1, q2, q3⟩ := M.at_ m b hm1
     obtain ⟨y1, hy1, ry1⟩ := b1 m v1 q1
     obtain ⟨y2, hy2, ry2⟩ := b2 m u1 q2
     rw [List.getElem?_zip_eq_some] at hm2'
     rw [hy1] at hm2'
     rw [hy2] at hm2'
     obtain ⟨h1, h2'⟩ := hm2'
     cases h1
     cases h2'
     exact ⟨by rw [sizeLine_eq]; simp, [v1, u1], .cons ry1 (.cons ry2 .nil), ⟨_, q3, rfl, _, rfl⟩⟩
  ·unfold zd7
   rw [if_neg (M.at_ m r h1).2.1, look_zip (p := (u', v')) M.nd h1 (List.getElem?_zip_eq_some.mpr ⟨h2', h3⟩)]
end
end L2
set_option Elab.async false
set_option linter.all false
namespace L2
open PySem
theorem zfJ {X : Cx} {i : Nat} {x : Str} {ks : List (Option Expr)} {vs : List Expr} {trs : List (TE × TE)} {pos pos' p : Pos} (hN : X.N.Nodup) (hi : X.N[i]? = some x) (hx : Loc X.env.scope x) (he : PPs X p ks vs trs) (h1 : ks.all (·.isSome) = true) (h2 : ks.length = vs.length) (h3 : ks ≠ []) (h4 : ks.length ≤ 15) (hf : X.fn x = true ∨ X.env.scope.names.lookup x = some .local := by first | exact .inl rfl | exact .inr rfl | assumption) :
  PS X (.Assign [.Name x pos'] (.Dict ks vs p) pos) (tAsg (zdk trs) (za2 i)) := zaC hN hi hx (zbQ he h1 h2 h3 h4) rfl hf
section
variable {X : Cx}
end
end L2
set_option Elab.async false
set_option linter.all false
set_option maxRecDepth 100000
namespace L2
open PySem PySem.Spec PyProof.Rows
section
variable {prog : Program} {w : World} {A : Around}
end
section
variable {X : Cx}
end
end L2
set_option Elab.async false
set_option linter.all false
set_option maxRecDepth 100000
namespace HT
open PySem PySem.Spec PyProof.Rows
section
variable {prog : Program} {w : World} {A : Around} {E : Value → Shared → Prop} {s : Shared}
end
end HT
namespace L2
open PySem PySem.Spec PyProof.Rows
section
variable {X : Cx}
end
inductive All2 {α β : Type} (R : α → β → Prop) : List α → List β → Prop
 | nil : All2 R [] []
 | cons {a b as bs} (h : R a b) (t : All2 R as bs) : All2 R (a :: as) (b :: bs)
namespace All2
variable {α β : Type} {R S : α → β → Prop}
theorem len {as : List α} {bs : List β} (h : All2 R as bs) : as.length = bs.length := by
 induction h with
 | nil => rfl
 | cons _ _ ih => simp [ih]
theorem imp (f : ∀ a b, R a b → S a b) {as : List α} {bs : List β} (h : All2 R as bs) : All2 S as bs := by
 induction h with
 | nil => exact .nil
 | cons h _ ih => exact .cons (f _ _ h) ih
theorem append {as as' : List α} {bs bs' : List β} (h : All2 R as bs) (h' : All2 R as' bs') : All2 R (as ++ as') (bs ++ bs') := by
 induction h with
 | nil => exact h'
 | cons h _ ih => exact .cons h ih
theorem take {as : List α} {bs : List β} (h : All2 R as bs) : ∀ n, All2 R (as.take n) (bs.take n) := by
 induction h with
 | nil => intro n; simp; exact .nil
 | cons h _ ih =>
  intro n
  cases n with
  | zero => exact .nil
  | succ n => exact .cons h (ih n)
theorem drop {as : List α} {bs : List β} (h : All2 R as bs) : ∀ n, All2 R (as.drop n) (bs.drop n) := by
 induction h with
 | nil => intro n; simp; exact .nil
 | cons h t ih =>
  intro n
  cases n with
  | zero => exact .cons h t
  | succ n => exact ih n
theorem get {as : List α} {bs : List β} (h : All2 R as bs) : ∀ (i : Nat) (a : α) (b : β), as[i]? = some a → bs[i]? = some b → R a b := by
 induction h with
 | nil => intro i a b e; simp at e
 | cons h _ ih =>
  intro i a b e1 e2
  cases i with
  | zero => cases e1; cases e2; exact h
  | succ i => exact ih i a b e1 e2
theorem rep {a : α} {b : β} (h : R a b) : ∀ n, All2 R (List.replicate n a) (List.replicate n b)
 | 0 => .nil
 | n + 1 => .cons h (rep h n)
theorem mem {as : List α} {bs : List β} (h : All2 R as bs) {a : α} (m : a ∈ as) : ∃ b ∈ bs, R a b := by
 induction h with
 | nil => cases m
 | cons h _ ih =>
  rcases List.mem_cons.mp m with rfl | m
  ·exact ⟨_, List.mem_cons_self, h⟩
  ·obtain ⟨b, mb, r⟩ := ih m
   exact ⟨b, List.mem_cons_of_mem _ mb, r⟩
end All2
end L2
set_option Elab.async false
set_option linter.all false
set_option maxRecDepth 100000
namespace L2
open PySem PySem.Spec PyProof.Rows
section
variable {X : Cx} {CX : CXT} {k : Nat} {E : XK} {p pos spos : Pos} {e i o : Expr} {es : List Expr} {tk : TE} {t : TA} {g : Addr}
end
theorem toNat_inj {a b : Char} (h : a.toNat = b.toNat) : a = b := Char.ext (UInt32.toNat_inj.mp h)
theorem map_toNat_inj : ∀ {l k : List Char}, l.map Char.toNat = k.map Char.toNat → l = k
 | [], [], _ => rfl
 | [], _ :: _, h => by simp at h
 | _ :: _, [], h => by simp at h
 | a :: l, b :: k, h => by
  rw [List.map_cons, List.map_cons, List.cons.injEq] at h
  rw [toNat_inj h.1, map_toNat_inj h.2]
theorem zbg {a b : String} : (Str.ofString a = Str.ofString b) = (a = b) := by
 refine propext ⟨fun h => ?_, fun h => by rw [h]⟩
 rw [Str.ofString_eq_byList] at h
 unfold Str.ofStringByList at h
 have h2 := congrArg Str.cps h
 have h3 : (a.toList.map Char.toNat) = (b.toList.map Char.toNat) := by
  have := congrArg Array.toList h2
  simpa using this
 exact String.toList_inj.mp (map_toNat_inj h3)
end L2
set_option Elab.async false
set_option linter.all false
set_option maxRecDepth 100000
namespace HT
open PySem PySem.Spec PyProof.Rows
end HT
namespace L2
open PySem PySem.Spec PyProof.Rows
section
variable {X : Cx}
end
end L2
set_option Elab.async false
set_option linter.all false
set_option maxRecDepth 100000
namespace HT
open PySem PySem.Spec PyProof.Rows PySem.W
section
variable {prog : Program} {w : World} {A : Around} {E : Value → Shared → Prop} {h : Heap} {g : Array GenState} {d : Drawn} {t : Nat} {os : OsState} {a C : Addr} {o : Obj} {K : Frag}
end
end HT
namespace L2
open PySem PySem.Spec PyProof.Rows
section
variable {X : Cx} {pins : List (Addr × Obj)} {σ : St} {H : Hp} {s : Shared}
end
section
variable {X : Cx}
end
end L2
set_option Elab.async false
set_option linter.all false
set_option maxRecDepth 100000
namespace L2
open PySem PySem.Spec PyProof.Rows
section
variable {X : Cx} {tg : Expr}
end
end L2
set_option Elab.async false
set_option linter.all false
set_option maxRecDepth 100000
namespace L2
open PySem PySem.Spec PyProof.Rows
section
variable {prog : Program} {w : World} {A : Around} {E : Value → Shared → Prop} {s : Shared}
end
end L2
set_option Elab.async false
set_option linter.all false
set_option maxRecDepth 100000
namespace L2
open PySem PySem.Spec PyProof.Rows
section
variable {X : Cx} {pins : List (Addr × Obj)} {σ : St} {H : Hp} {s : Shared}
end
section
variable {X : Cx} {tg : Expr}
end
end L2
set_option Elab.async false
set_option linter.all false
set_option maxRecDepth 100000
namespace L2
open PySem PySem.Spec PyProof.Rows
section
variable {X : Cx}
end
end L2
set_option Elab.async false
set_option linter.all false
set_option maxRecDepth 100000
namespace L2
open PySem PySem.Spec PyProof.Rows
section
variable {X : Cx}
def rUpdate : V → List V → Hp → VK → Prop := fun x vs H Q => ∃ d e ks more, x = .ref d ∧ vs = [.ref e] ∧ d ≠ e ∧ H d = some (.dK ks) ∧ H e = some (.dK more) ∧ ks.length + more.length ≤ 1000 ∧ Q .non (upd H d (.dK (zbc ks more)))
theorem mt_update : MtM X "dict.update" rUpdate := by
 intro pins s σ H x vs v us Q I rx rv h
 obtain ⟨d, e, ks, more, rfl, rfl, ne, hd, he, hz, q⟩ := h
 cases rx
 obtain ⟨u, rfl, ru⟩ := rv.one
 cases ru
 obtain ⟨z1, y1, vs1, r1, m1⟩ := zgC I.hok hd
 obtain ⟨z2, y2, vs2, r2, m2⟩ := zgC I.hok he
 have n1 := r1.length
 have n2 := r2.length
 have zz : (zbc ks more).length ≤ sizeLine := by have := length_mergeK more ks; rw [sizeLine_eq]; omega
 refine call_meetsIn F.slot_dict_update m1.typeIs F.entry_dict_update (F.args_dict_update_2 _ _) (meets_dict_update (zai X.prog X.w) d e ne y2) ⟨vs1, vs2, m1, m2, by rw [sizeLine_eq]; omega, fun h' g1 _ g3 => ?_⟩
 have there : ∃ o, h'.get? d = some o := let ⟨o, _, _, ho, _⟩ := g1; ⟨o, ho⟩
 exact ⟨.non, _, zcb I (by rw [hd]; exact True.intro) g3 there (zfk zz y1 (r2.merge r1) g1), rfl, q⟩
end
section
variable {prog : Program} {w : World} {A : Around} {E : Value → Shared → Prop} {s : Shared}
/-- a dict by its entries alone -/
def zcd (h : Heap) (d : Addr) (es : Array DictEntry) (ep : Nat) : Prop := ∃ o, h.get? d = some o ∧ o.ExactDict ∧ o.data = .dict es ep
theorem zcd.ty {d : Addr} {es : Array DictEntry} {ep : Nat} (x : zcd s.heap d es ep) : s.TypeIs (.ref d) "dict" := let ⟨o, a, b, _⟩ := x; ⟨o, a, b.1⟩
theorem zcd.to {h h' : Heap} {d : Addr} {es : Array DictEntry} {ep : Nat} (x : zcd h d es ep) (k : ∀ o, h.get? d = some o → h'.get? d = some o) : zcd h' d es ep := let ⟨o, a, b⟩ := x; ⟨o, k o a, b⟩
theorem zgo {d : Addr} {es : Array DictEntry} {ep : Nat} {Q : Value → Shared → Prop} (lo : (d == sysModules) = false) (x : zcd s.heap d es ep)
  (q : Q (.ref s.heap.objs.size) { s with heap := s.heap.push { cls := .type "dict_keyiterator", data := .fields #[.ref d, .int 0 0, .int es.size 0, .int ep 0] } }) : wpAny (model prog w) A (pyIter (.ref d)) Q E s := by
 have ty := x.ty
 obtain ⟨o, a, b, c⟩ := x
 refine wpAny_pyIter_slot ty F.slot_dict_iter (wpAny_call_entry F.slot_dict_iter ty F.entry_dict_iter ?_ (F.args_dict_iter_1 _))
 unfold Builtin.«dict.__iter__» Builtin.Dict.dictSlotNone
 refine wpAny_bind (wpAny_bind (wpAny_notOrdered_dict ty ?_))
 refine wpAny_pure (α := Value) ?_
 unfold Builtin.Dict.showsAll
 refine wpAny_bind (wpAny_of_eq (a := d) rfl ?_)
 rw [if_neg (fun z => by rw [lo] at z; cases z)]
 refine wpAny_bind (wpAny_pure (wpAny_bind (wpAny_dictEntries a c (wpAny_bind (wpAny_dictEpoch a c ?_)))))
 refine wpAny_bind (wpAny_newObj_type (wpAny_pure ⟨_, rfl, "dict_keyiterator", _, ⟨_, Heap.get?_push_size _ rfl, rfl⟩, F.slot_dict_keyiterator_next.lookup, ?_⟩))
 simpa [rawInt] using q
/-- the common beginning of a step: what the iterator reads -/
theorem zgy {I d : Addr} {i ep : Nat} {es : Array DictEntry} {Q : Option Value → Shared → Prop} (ki : s.heap.IsKeyIter I d i es.size ep) (x : zcd s.heap d es ep) (hi : i < es.size)
  (q : ∀ h', h'.IsKeyIter I d (i + 1) es.size ep → Heap.SameBut I s.heap h' → Q (some es[i].key) { s with heap := h' }) : wpAny (model prog w) A (pyNext (.ref I)) Q E s := by
 have ty := ki.typeIs
 obtain ⟨o, a, b, c⟩ := id ki
 obtain ⟨od, a', b', c'⟩ := id x
 unfold pyNext
 refine wpAny_bind (wpAny_attempt (wpAny_callSpecial?_slot (name := Str.ofString "__next__") ty F.slot_dict_keyiterator_next (wpAny_call_entry F.slot_dict_keyiterator_next ty F.entry_dict_keyiterator_next ?_ (F.args_dict_keyiterator_next_1 _))))
 refine wpAny_bind (wpAny_pure (wpAny_bind (wpAny_bind ?_)))
 refine wpAny_bind (wpAny_typeNameOfWhole_keyiter ty (wpAny_pure (wpAny_bind (wpAny_fieldsOf a c ?_))))
 simp only [show Builtin.Dict_items.ownsTuple "dict_keyiterator" = false by decide, Bool.false_eq_true, if_false]
 change wpAny _ _ (if (Value.ref d == Value.none) = true then _ else _) _ _ s
 rw [if_neg (show ¬ ((Value.ref d == Value.none) = true) by simp)]
 refine wpAny_bind (wpAny_pure (wpAny_bind (wpAny_dictEntries a' c' ?_)))
 rw [if_neg (show ¬ _ by simp)]
 refine wpAny_bind (wpAny_pure (wpAny_bind (wpAny_dictEpoch a' c' ?_)))
 rw [if_neg (show ¬ _ by simp)]
 refine wpAny_pure ?_
 simp only [show ¬ ((i : Int) < 0) by omega, if_false, Int.toNat_natCast, Array.getElem?_eq_getElem hi]
 refine wpAny_bind (wpAny_bind (wpAny_typeNameOfWhole_keyiter ty (wpAny_pure (wpAny_bind (wpAny_isOneOf_keyiter ty ?_)))))
 change wpAny _ _ (setField (.ref I) 1 (rawInt ((i : Int) + 1)) >>= _) _ _ s
 refine wpAny_bind (wpAny_setField a c (by simp) ?_)
 have k2 : (s.heap.update I (Obj.mapFields (·.setIfInBounds 1 (rawInt ((i : Int) + 1))))).IsKeyIter I d (i + 1) es.size ep := ⟨_, Heap.get?_update_self _ a (Obj.isFreed_of_fields (Obj.data_mapFields c _)), (Obj.cls_mapFields ..).trans b, by rw [Obj.data_mapFields c]; simp [rawInt]⟩
 refine wpAny_bind (wpAny_holding (wpAny_bind (wpAny_isOneOf_keyiter (s := { s with heap := s.heap.update I (Obj.mapFields (·.setIfInBounds 1 (rawInt ((i : Int) + 1)))) }) k2.typeIs ?_)))
 exact wpAny_pure (α := Value) (wpAny_pure ⟨_, rfl, wpAny_pure (q _ k2 (Heap.SameBut.update ..))⟩)
theorem zhv {I d : Addr} {i ep : Nat} {es : Array DictEntry} {Q : Option Value → Shared → Prop} (hh : A.handled = none) (ki : s.heap.IsKeyIter I d i es.size ep) (x : zcd s.heap d es ep) (hi : es.size ≤ i)
  (q : ∀ h', Heap.ExtBut I s.heap h' → Q none { s with heap := h' }) : wpAny (model prog w) A (pyNext (.ref I)) Q E s := by
 have ty := ki.typeIs
 obtain ⟨o, a, b, c⟩ := id ki
 obtain ⟨od, a', b', c'⟩ := id x
 unfold pyNext
 refine wpAny_bind (wpAny_attempt (wpAny_callSpecial?_slot (name := Str.ofString "__next__") ty F.slot_dict_keyiterator_next (wpAny_call_entry F.slot_dict_keyiterator_next ty F.entry_dict_keyiterator_next ?_ (F.args_dict_keyiterator_next_1 _))))
 refine wpAny_bind (wpAny_pure (wpAny_bind (wpAny_bind ?_)))
 refine wpAny_bind (wpAny_typeNameOfWhole_keyiter ty (wpAny_pure (wpAny_bind (wpAny_fieldsOf a c ?_))))
 simp only [show Builtin.Dict_items.ownsTuple "dict_keyiterator" = false by decide, Bool.false_eq_true, if_false]
 change wpAny _ _ (if (Value.ref d == Value.none) = true then _ else _) _ _ s
 rw [if_neg (show ¬ ((Value.ref d == Value.none) = true) by simp)]
 refine wpAny_bind (wpAny_pure (wpAny_bind (wpAny_dictEntries a' c' ?_)))
 rw [if_neg (show ¬ _ by simp)]
 refine wpAny_bind (wpAny_pure (wpAny_bind (wpAny_dictEpoch a' c' ?_)))
 rw [if_neg (show ¬ _ by simp)]
 refine wpAny_pure ?_
 simp only [show ¬ ((i : Int) < 0) by omega, if_false, Int.toNat_natCast, Array.getElem?_eq_none hi]
 refine wpAny_bind (wpAny_bind (wpAny_typeNameOfWhole_keyiter ty (wpAny_pure ?_)))
 change wpAny _ _ (setField (.ref I) 0 .none >>= _) _ _ s
 refine wpAny_bind (wpAny_setField a c (by simp) ?_)
 change wpAny _ _ (newExc (.type "StopIteration") [] >>= _) _ _ _
 refine wpAny_bind ?_
 simp only [newExc, newTuple]
 refine wpAny_bind (wpAny_newObj_type (wpAny_bind (m := firstArgMember _ _) (wpAny_of_eq (a := Value.none) (by first | rfl | (simp only [firstArgMember]; rfl)) (wpAny_newObj_type ?_ (by size_fits)))) (by size_fits))
 simp only [raiseNew]
 refine wpAny_bind (wpAny_handled ?_)
 rw [show A.in1.handled = none from hh]
 refine wpAny_bind (wpAny_pure (wpAny_throw ?_))
 refine (wpAny_bind (wpAny_isInstance (T := "StopIteration") (b := true) ⟨_, Heap.get?_push_size _ rfl, rfl⟩ isSubtype_stop ?_))
 exact wpAny_pure (q _ (((Heap.SameBut.update ..).extBut.push _).push _))
theorem zfW (hh : A.handled = none) (I d : Addr) (hne : d ≠ I) (es : Array DictEntry) (ep : Nat) :
  Walks prog w A I [I, d] [I] es.size (fun i v => ∃ e, es[i]? = some e ∧ v = e.key) (fun i h => h.IsKeyIter I d i es.size ep ∧ zcd h d es ep) where
 sub := fun b hb => by simp at hb; simp [hb]
 frame := fun _ _ _ st k => ⟨st.1.at fun o e => k I (by simp) o e, st.2.to fun o e => k d (by simp) o e⟩
 item := fun i s Q E hi st q => zgy st.1 st.2 hi fun h' k' sb => q _ h' s.toks ⟨_, Array.getElem?_eq_getElem hi, rfl⟩ ⟨k', st.2.to fun o e => sb.extBut d o hne e⟩ fun b o hb e => sb.extBut b o (fun z => hb (by simp [z])) e
 done := fun s Q E st q => zhv hh st.1 st.2 (Nat.le_refl _) fun h' xb => q h' s.toks fun b o hb e => xb b o (fun z => hb (by simp [z])) e
 self := fun _ _ _ _ st q => wpAny_pyIter_keyiter st.1 q
theorem zhw {d : Addr} {es : Array DictEntry} {ep : Nat} (lo : (d == sysModules) = false) : PySem.W.KdlSrc prog w "dict" d d es.size (fun i v => ∃ e, es[i]? = some e ∧ v = e.key) (fun h => zcd h d es ep) where
 type := fun _ m => m.ty
 there := fun _ m => let ⟨_, a, _⟩ := m; ⟨Heap.lt_size a, Heap.lt_size a⟩
 keep := fun _ _ m k => m.to fun o e => k d (.inl rfl) o e
 notList := by decide
 notTuple := by decide
 hint := fun _ _ _ _ m q => PySem.W.kdl_hint_dict m.ty q
 iter := fun _ s hh m => ⟨_, _, (fun _ _ q => zgo lo m q), zfW hh _ d (let ⟨_, a, _⟩ := m; Nat.ne_of_lt (Heap.lt_size a)) es ep, ⟨⟨_, Heap.get?_push_size _ rfl, rfl, rfl⟩, m.to fun o e => Heap.get?_push_of_some _ e⟩⟩
end
section
variable {X : Cx}
theorem kt_at {H : Hp} {kvs : List (List Key × V)} {xs : List (List Key × Addr × Value)} (r : KT H kvs xs) : kvs.length = xs.length ∧ ∀ (i : Nat) (p : List Key × V), kvs[i]? = some p → ∃ q, xs[i]? = some q ∧ p.1 = q.1 ∧ H q.2.1 = some (.tup (p.1.map kV)) := by
 unfold KT at r
 induction r with
 | nil => exact ⟨rfl, fun i p h => by simp at h⟩
 | @cons p q kvs xs r t ih =>
  refine ⟨by rw [List.length_cons, List.length_cons, ih.1], fun i p' h => ?_⟩
  cases i with
  | zero => cases h; exact ⟨q, rfl, r.1, r.2.1⟩
  | succ i => exact ih.2 i p' (by simpa using h)
def rListT : List V → Hp → VK → Prop := fun vs H Q => ∃ d kvs, vs = [.ref d] ∧ H d = some (.dT kvs) ∧ ∀ (l : Addr) (as : List Addr), H l = none → as.length = kvs.length → (∀ (i : Nat) (b : Addr) (p : List Key × V), as[i]? = some b → kvs[i]? = some p → H b = some (.tup (p.1.map kV))) → Q (.ref l) (upd H l (.lst (as.map V.ref)))
theorem zcp (hc : X.calm = true) : zbr X (.type "list") rListT := by
 intro pins s σ H xs us Q I r h
 obtain ⟨d, kvs, rfl, hd, q⟩ := h
 obtain ⟨u, rfl, ru⟩ := zct r
 cases ru
 obtain ⟨z, y, xs, rk, o, es, ep, h1, h2, h3, h4, h5⟩ := (show zaT X.prog X.w H s.heap d (.dT kvs) from I.hok d _ hd)
 obtain ⟨ln, at_⟩ := kt_at rk
 have sz : es.size = xs.length := by rw [← Array.length_toList, h4, List.length_map]
 have m : zcd s.heap d es ep := ⟨o, h1, h2, h3⟩
 refine PySem.W.kdl_call (zhw (es := es) (ep := ep) y) (I.ok.hd hc) m (by omega) fun h' tk acc c hk hD hacc => ?_
 have key : ∀ (i : Nat) (x : List Key × Addr × Value), xs[i]? = some x → acc[i]? = some (.ref x.2.1) := fun i x hx => by
  have il : i < acc.size := by rw [hacc.1, sz]; exact (List.getElem?_eq_some_iff.mp hx).1
  obtain ⟨e, e1, e2⟩ := hacc.2 i acc[i] (Array.getElem?_eq_getElem il)
  rw [Array.getElem?_eq_getElem il, e2]
  have : es.toList[i]? = some e := by rw [Array.getElem?_toList]; exact e1
  rw [h4, List.getElem?_map, hx] at this
  cases this
  rfl
 refine ⟨.ref s.heap.objs.size, _, I.laid (t' := tk) (o := .lst ((xs.map fun x => x.2.1).map V.ref)) hk (Nat.le_refl _) ?_, rfl, q _ (xs.map fun x => x.2.1) (I.hok.fresh (Nat.le_refl _)) (by rw [List.length_map, ln]) fun i b p hb hp => ?_⟩
 ·refine ⟨by rw [List.length_map, List.length_map]; omega, acc.toList, c, ?_, by rw [Array.toArray_toList]; exact hD⟩
  have vals : ∀ (xs : List (List Key × Addr × Value)) (l : List Value), l.length = xs.length → (∀ (i : Nat) (x : List Key × Addr × Value), xs[i]? = some x → l[i]? = some (.ref x.2.1)) → Vals ((xs.map fun x => x.2.1).map V.ref) l := by
   intro xs
   induction xs with
   | nil => intro l hl _; rw [List.eq_nil_of_length_eq_zero hl]; exact .nil
   | cons x xs ih =>
    intro l hl g
    cases l with
    | nil => simp at hl
    | cons u l =>
     have := g 0 x rfl
     cases this
     exact .cons rfl (ih l (by simpa using hl) fun i y hy => g (i + 1) y hy)
  exact vals xs acc.toList (by rw [Array.length_toList, hacc.1, sz]) fun i x hx => by rw [Array.getElem?_toList]; exact key i x hx
 ·rw [List.getElem?_map] at hb
  obtain ⟨x, hx, rfl⟩ := Option.map_eq_some_iff.mp hb
  obtain ⟨q', e1, e2, e3⟩ := at_ i p hp
  rw [hx] at e1
  cases e1
  exact e3
end
end L2
set_option Elab.async false
set_option linter.all false
set_option maxRecDepth 100000
namespace L2
namespace STb
open PySem
def f5 (N i : Nat) : Nat := (i * 5 + 1) % N
def it5 (N : Nat) : Nat → Nat → Nat
 | 0, i => i
 | m + 1, i => it5 N m (f5 N i)
theorem zdf (N : Nat) : ∀ a b i, it5 N (a + b) i = it5 N b (it5 N a i)
 | 0, b, i => by rw [Nat.zero_add]; rfl
 | a + 1, b, i => by rw [Nat.succ_add]; exact zdf N a b (f5 N i)
def orb (N : Nat) : Nat → Nat → Nat → Nat × Nat
 | 0, i, acc => (i, acc)
 | k + 1, i, acc => orb N k (f5 N i) (acc ||| (1 <<< i))
theorem zfy (N : Nat) : ∀ k i acc, (orb N k i acc).1 = it5 N k i
 | 0, i, acc => rfl
 | k + 1, i, acc => zfy N k (f5 N i) _
theorem zfK (N : Nat) : ∀ k i acc j, (orb N k i acc).2.testBit j = true → acc.testBit j = true ∨ ∃ m, m < k ∧ it5 N m i = j
 | 0, i, acc, j, h => .inl h
 | k + 1, i, acc, j, h => by
  rcases zfK N k (f5 N i) _ j h with h | ⟨m, hm, e⟩
  ·rw [Nat.testBit_or, Bool.or_eq_true] at h
   rcases h with h | h
   ·exact .inl h
   ·refine .inr ⟨0, by omega, ?_⟩
    rw [Nat.one_shiftLeft, Nat.testBit_two_pow] at h
    exact of_decide_eq_true h
  ·exact .inr ⟨m + 1, by omega, e⟩
def zby (m : Nat) : Prop := m = 7 ∨ m = 31 ∨ m = 127 ∨ m = 511 ∨ m = 2047
theorem zfC {m : Nat} (h : zby m) : orb (m + 1) (m + 1) 0 0 = (0, 2 ^ (m + 1) - 1) := by
 rcases h with rfl | rfl | rfl | rfl | rfl <;> decide +kernel
theorem zg0 {m : Nat} (h : zby m) {j : Nat} (hj : j ≤ m) : ∃ a, a < m + 1 ∧ it5 (m + 1) a 0 = j := by
 have := zfK (m + 1) (m + 1) 0 0 j (by rw [zfC h, Nat.testBit_two_pow_sub_one]; exact decide_eq_true (by omega))
 rcases this with h | h
 ·rw [Nat.zero_testBit] at h; cases h
 ·exact h
theorem orbit {m : Nat} (h : zby m) {i j : Nat} (hi : i ≤ m) (hj : j ≤ m) : ∃ a, a ≤ m ∧ it5 (m + 1) a i = j := by
 obtain ⟨x, hx, ex⟩ := zg0 h hi
 obtain ⟨y, hy, ey⟩ := zg0 h hj
 have e0 : it5 (m + 1) (m + 1) 0 = 0 := by rw [← zfy (m + 1) (m + 1) 0 0, zfC h]
 by_cases c : x ≤ y
 ·refine ⟨y - x, by omega, ?_⟩
  rw [← ex, ← zdf, show x + (y - x) = y by omega, ey]
 ·refine ⟨m + 1 - x + y, by omega, ?_⟩
  rw [zdf, ← ex, ← zdf (m + 1) x (m + 1 - x) 0, show x + (m + 1 - x) = m + 1 by omega, e0, ey]
def zbs (m : Nat) : Nat → Nat → Nat → Nat × Nat
 | 0, i, p => (i, p)
 | t + 1, i, p => zbs m t (SetTable.leap m i p).1 (SetTable.leap m i p).2
theorem zdK (m : Nat) : ∀ a b i p, zbs m (a + b) i p = zbs m b (zbs m a i p).1 (zbs m a i p).2
 | 0, b, i, p => by rw [Nat.zero_add]; rfl
 | a + 1, b, i, p => by rw [Nat.succ_add]; exact zdK m a b _ _
theorem zcL (m : Nat) : ∀ t i, zbs m t i 0 = (it5 (m + 1) t i, 0)
 | 0, i => rfl
 | t + 1, i => by
  show zbs m t ((i * 5 + 1 + 0 / 32) % (m + 1)) (0 / 32) = _
  rw [Nat.zero_div, Nat.add_zero]
  exact zcL m t _
theorem zcE (m : Nat) : ∀ t i p, (zbs m t i p).2 = p / 32 ^ t
 | 0, i, p => by rw [Nat.pow_zero, Nat.div_one]; rfl
 | t + 1, i, p => by
  show (zbs m t _ (p / 32)).2 = _
  rw [zcE m t, Nat.div_div_eq_div_mul, Nat.pow_succ, Nat.mul_comm]
theorem zeu (m : Nat) : ∀ t i p, i ≤ m → (zbs m t i p).1 ≤ m
 | 0, i, p, h => h
 | t + 1, i, p, h => zeu m t _ _ (by
  show (i * 5 + 1 + p / 32) % (m + 1) ≤ m
  exact Nat.le_of_lt_succ (Nat.mod_lt _ (Nat.succ_pos m)))
theorem ze3 (h : Int) : SetTable.bits h < 2 ^ 64 := by
 unfold SetTable.bits
 have h1 := Int.emod_nonneg h (show (2 ^ 64 : Int) ≠ 0 by decide)
 have h2 := Int.emod_lt_of_pos h (show (0 : Int) < 2 ^ 64 by decide)
 have : ((h % 2 ^ 64).toNat : Int) < 2 ^ 64 := by rw [Int.toNat_of_nonneg h1]; exact h2
 omega
/-- each slot is a head among the first ones -/
theorem zf4 {m : Nat} (hm : zby m) {i p j : Nat} (hi : i ≤ m) (hp : p < 2 ^ 64) (hj : j ≤ m) : ∃ t, t ≤ m + 13 ∧ (zbs m t i p).1 = j := by
 have p0 : (zbs m 13 i p).2 = 0 := by
  rw [zcE]
  exact Nat.div_eq_of_lt (Nat.lt_of_lt_of_le hp (by decide))
 obtain ⟨a, ha, e⟩ := orbit hm (zeu m 13 i p hi) hj
 refine ⟨13 + a, by omega, ?_⟩
 rw [zdK, p0, zcL]
 exact e
theorem zbH {xs : Array Nat} {j : Nat} (up : xs.toList.Pairwise (· < ·)) : ∀ (n lo hi : Nat), hi - lo ≤ n → lo ≤ hi → hi ≤ xs.size → (∀ k, k < lo → xs.getD k j < j) → (∀ k, hi ≤ k → k < xs.size → j ≤ xs.getD k j) →
  SetTable.below.go xs j n lo hi ≤ xs.size ∧ (∀ k, k < SetTable.below.go xs j n lo hi → xs.getD k j < j) ∧ ∀ k, SetTable.below.go xs j n lo hi ≤ k → k < xs.size → j ≤ xs.getD k j := by
 have gt : ∀ a b, a < b → b < xs.size → xs.getD a j < xs.getD b j := fun a b h1 h2 => by
  have := List.pairwise_iff_getElem.mp up a b (by rw [Array.length_toList]; omega) (by rw [Array.length_toList]; omega) h1
  simpa [Array.getD, h2, Nat.lt_trans h1 h2] using this
 intro n
 induction n with
 | zero =>
  intro lo hi h1 h2 h3 h4 h5
  unfold SetTable.below.go
  exact ⟨by omega, h4, fun k hk => h5 k (by omega)⟩
 | succ n ih =>
  intro lo hi h1 h2 h3 h4 h5
  unfold SetTable.below.go
  by_cases c : lo < hi
  ·rw [if_pos c]
   dsimp only
   by_cases d : xs.getD ((lo + hi) / 2) j < j
   ·rw [if_pos d]
    refine ih _ _ (by omega) (by omega) h3 (fun k hk => ?_) h5
    by_cases e : k = (lo + hi) / 2
    ·rw [e]; exact d
    ·exact Nat.lt_trans (gt k ((lo + hi) / 2) (by omega) (by omega)) d
   ·rw [if_neg d]
    refine ih _ _ (by omega) (by omega) (by omega) h4 (fun k hk hk2 => ?_)
    by_cases e : k = (lo + hi) / 2
    ·rw [e]; omega
    ·have := gt ((lo + hi) / 2) k (by omega) hk2
     omega
  ·rw [if_neg c]
   exact ⟨by omega, h4, fun k hk => h5 k (by omega)⟩
theorem zb3 {xs : Array Nat} {j : Nat} (up : xs.toList.Pairwise (· < ·)) : SetTable.below xs j ≤ xs.size ∧ (∀ k, k < SetTable.below xs j → xs.getD k j < j) ∧ ∀ k, SetTable.below xs j ≤ k → k < xs.size → j ≤ xs.getD k j :=
 zbH up _ _ _ (by omega) (Nat.zero_le _) (Nat.le_refl _) (fun k h => absurd h (Nat.not_lt_zero _)) (fun k h1 h2 => by omega)
theorem zaV {α : Type} (xs : Array α) (p : Nat) (x : α) : (SetTable.insertAt xs p x).toList = xs.toList.take p ++ x :: xs.toList.drop p := by
 unfold SetTable.insertAt
 simp [Array.toList_extract, List.take_of_length_le]
theorem zf2 {xs : Array Nat} {j : Nat} (up : xs.toList.Pairwise (· < ·)) (hj : j ∉ xs.toList) : (SetTable.insertAt xs (SetTable.below xs j) j).toList.Pairwise (· < ·) := by
 obtain ⟨h1, h2, h3⟩ := zb3 (j := j) up
 rw [zaV, List.pairwise_append]
 refine ⟨up.take, List.pairwise_cons.mpr ⟨fun y hy => ?_, up.drop⟩, fun x hx y hy => ?_⟩
 ·obtain ⟨k, hk⟩ := List.mem_iff_getElem?.mp hy
  rw [List.getElem?_drop] at hk
  obtain ⟨kl, ek⟩ := List.getElem?_eq_some_iff.mp hk
  rw [Array.length_toList] at kl
  have := h3 _ (Nat.le_add_right _ k) kl
  have e2 : xs.getD (SetTable.below xs j + k) j = y := by rw [← ek]; simp [Array.getD, kl]
  rw [e2] at this
  exact Nat.lt_of_le_of_ne this fun z => hj (by rw [z]; exact List.mem_of_getElem? hk)
 ·obtain ⟨k, hk⟩ := List.mem_iff_getElem?.mp hx
  obtain ⟨kl, ek⟩ := List.getElem?_eq_some_iff.mp hk
  rw [List.length_take, Array.length_toList] at kl
  rw [List.getElem?_take_of_lt (by omega)] at hk
  have xl := (List.getElem?_eq_some_iff.mp hk).1
  rw [Array.length_toList] at xl
  have xj : x < j := by
   have := h2 k (by omega)
   have e2 : xs.getD k j = x := by
    have e3 := (List.getElem?_eq_some_iff.mp hk).2
    rw [← e3]; simp [Array.getD, xl]
   rw [e2] at this; exact this
  rcases List.mem_cons.mp hy with rfl | hy
  ·exact xj
  ·obtain ⟨k2, hk2⟩ := List.mem_iff_getElem?.mp hy
   rw [List.getElem?_drop] at hk2
   obtain ⟨kl2, ek2⟩ := List.getElem?_eq_some_iff.mp hk2
   rw [Array.length_toList] at kl2
   have := h3 _ (Nat.le_add_right _ k2) kl2
   have e2 : xs.getD (SetTable.below xs j + k2) j = y := by rw [← ek2]; simp [Array.getD, kl2]
   rw [e2] at this
   omega
/-- a table without gaps in its story: the masks that grow from 7, rising places, nothing left behind -/
structure TOk (t : SetTable) (n : Nat) : Prop where
 mask : zby t.mask
 up : t.place.toList.Pairwise (· < ·)
 le : ∀ j ∈ t.place.toList, j ≤ t.mask
 dum : t.dummies = #[]
 sz : t.place.size = n
 room : n * 5 < t.mask * 3
theorem TOk.fits {t : SetTable} {n : Nat} (h : TOk t n) : t.fits n = true := by
 unfold SetTable.fits SetTable.fill
 rw [h.dum]
 have := h.sz
 have := h.room
 simp; omega
theorem TOk.odd {t : SetTable} {n : Nat} (h : TOk t n) : t.gaveWay = false := by
 unfold SetTable.gaveWay
 rcases h.mask with e | e | e | e | e <;> rw [e] <;> rfl
theorem zdB {t : SetTable} {j i : Nat} (h : t.slot j = .live i) : t.place[i]? = some j := by
 unfold SetTable.slot at h
 dsimp only at h
 split at h
 ·rename_i e; cases h; exact eq_of_beq e
 ·split at h <;> cases h
theorem zbx {t : SetTable} {j : Nat} (d : t.dummies = #[]) : t.slot j ≠ .dummy := by
 unfold SetTable.slot
 dsimp only
 split
 ·simp
 ·rw [d]
  have : SetTable.has #[] j = false := by unfold SetTable.has; simp
  rw [this]; simp
theorem zeH {t : SetTable} {j : Nat} (up : t.place.toList.Pairwise (· < ·)) (h : t.slot j = .empty) : j ∉ t.place.toList := fun m => by
 obtain ⟨k, hk⟩ := List.mem_iff_getElem?.mp m
 obtain ⟨kl, ek⟩ := List.getElem?_eq_some_iff.mp hk
 rw [Array.length_toList] at kl
 obtain ⟨h1, h2, h3⟩ := zb3 (j := j) up
 have e2 : t.place.getD k j = j := by rw [← ek]; simp [Array.getD, kl]
 have k1 : SetTable.below t.place j ≤ k := by
  by_cases c : k < SetTable.below t.place j
  ·have := h2 k c; omega
  ·omega
 have ke : SetTable.below t.place j = k := by
  by_cases c : SetTable.below t.place j < k
  ·have a1 := h3 (SetTable.below t.place j) (Nat.le_refl _) (by omega)
   have a2 := List.pairwise_iff_getElem.mp up (SetTable.below t.place j) k (by rw [Array.length_toList]; omega) (by rw [Array.length_toList]; omega) c
   have bl : SetTable.below t.place j < t.place.size := by omega
   have e3 : t.place.getD (SetTable.below t.place j) j = t.place.toList[SetTable.below t.place j]'(by rw [Array.length_toList]; exact bl) := by simp [Array.getD, bl]
   rw [e3] at a1
   omega
  ·omega
 unfold SetTable.slot at h
 dsimp only at h
 rw [ke, if_pos (by rw [← Array.getElem?_toList, hk]; simp)] at h
 cases h
theorem zee {t : SetTable} {j : Nat} (d : t.dummies = #[]) (h : j ∉ t.place.toList) : t.slot j = .empty := by
 cases e : t.slot j with
 | empty => rfl
 | dummy => exact absurd e (zbx d)
 | live i => exact absurd (List.mem_of_getElem? (by rw [Array.getElem?_toList]; exact zdB e)) h
theorem TOk.free {t : SetTable} {n : Nat} (h : TOk t n) : ∃ j, j ≤ t.mask ∧ t.slot j = .empty := by
 apply Classical.byContradiction
 intro z
 have all : ∀ j ∈ List.range (t.mask + 1), j ∈ t.place.toList := fun j hj => by
  apply Classical.byContradiction
  intro y
  exact z ⟨j, by have := List.mem_range.mp hj; omega, zee h.dum y⟩
 have nd : (List.range (t.mask + 1)).Nodup := List.nodup_range
 have := nd.length_le_of_subset (l₂ := t.place.toList) (fun a ha => all a ha)
 rw [List.length_range, Array.length_toList, h.sz] at this
 have := h.room
 omega
def pos (t : SetTable) : Nat → SetTable.Probe → SetTable.Probe
 | 0, p => p
 | a + 1, p => pos t a (t.advance p)
theorem zd2 (t : SetTable) : ∀ a b p, pos t (a + b) p = pos t b (pos t a p)
 | 0, b, p => by rw [Nat.zero_add]; rfl
 | a + 1, b, p => by rw [Nat.succ_add]; exact zd2 t a b _
theorem zdh (t : SetTable) (a : Nat) (p : SetTable.Probe) : pos t (a + 1) p = t.advance (pos t a p) := zd2 t a 1 p
structure POk (t : SetTable) (p : SetTable.Probe) : Prop where
 i : p.i ≤ t.mask
 j : p.j + p.more ≤ t.mask
 d : p.dummy = none
 m : p.more ≤ 9
theorem zca {m i : Nat} (h : i ≤ m) : i ≤ SetTable.runEnd m i ∧ SetTable.runEnd m i ≤ m ∧ SetTable.runEnd m i - i ≤ 9 := by
 unfold SetTable.runEnd
 split <;> omega
def zcT (t : SetTable) (i p : Nat) : SetTable.Probe := { j := i, more := SetTable.runEnd t.mask i - i, i, perturb := p, dummy := none }
theorem zer {t : SetTable} {i p : Nat} (h : i ≤ t.mask) : POk t (zcT t i p) := by
 have := zca h
 exact ⟨h, by show i + (SetTable.runEnd t.mask i - i) ≤ t.mask; omega, rfl, this.2.2⟩
theorem zd8 {m i p : Nat} : (SetTable.leap m i p).1 ≤ m := by
 show (i * 5 + 1 + p / 32) % (m + 1) ≤ m
 exact Nat.le_of_lt_succ (Nat.mod_lt _ (Nat.succ_pos m))
theorem zes {t : SetTable} {p : SetTable.Probe} (h : 0 < p.more) : t.advance p = { p with j := p.j + 1, more := p.more - 1 } := by
 unfold SetTable.advance
 rw [if_pos h]
theorem zet {t : SetTable} {p : SetTable.Probe} (h : p.more = 0) (d : p.dummy = none) : t.advance p = zcT t (SetTable.leap t.mask p.i p.perturb).1 (SetTable.leap t.mask p.i p.perturb).2 := by
 unfold SetTable.advance zcT
 rw [if_neg (by omega)]
 cases p
 dsimp only at d ⊢
 rw [d]
theorem POk.adv {t : SetTable} {p : SetTable.Probe} (h : POk t p) : POk t (t.advance p) := by
 by_cases c : 0 < p.more
 ·rw [zes c]
  exact ⟨h.i, by have := h.j; show p.j + 1 + (p.more - 1) ≤ t.mask; omega, h.d, by have := h.m; show p.more - 1 ≤ 9; omega⟩
 ·rw [zet (by omega) h.d]
  exact zer zd8
theorem POk.pos {t : SetTable} : ∀ (a : Nat) {p : SetTable.Probe}, POk t p → POk t (pos t a p)
 | 0, _, h => h
 | a + 1, _, h => POk.pos a h.adv
theorem zg1 {t : SetTable} : ∀ (k : Nat) (p : SetTable.Probe), p.more = k → pos t k p = { p with j := p.j + k, more := 0 }
 | 0, p, h => by cases p; dsimp only at h; rw [h]; rfl
 | k + 1, p, h => by
  show pos t k (t.advance p) = _
  rw [zes (by omega), zg1 k _ (by show p.more - 1 = k; omega)]
  dsimp only
  rw [show p.j + 1 + k = p.j + (k + 1) by omega]
theorem zfi {t : SetTable} {i p : Nat} (h : i ≤ t.mask) : ∃ k, k ≤ 10 ∧ pos t k (zcT t i p) = zcT t (SetTable.leap t.mask i p).1 (SetTable.leap t.mask i p).2 := by
 refine ⟨SetTable.runEnd t.mask i - i + 1, by have := (zca h).2.2; omega, ?_⟩
 rw [zdh, zg1 (SetTable.runEnd t.mask i - i) (zcT t i p) rfl, zet rfl rfl]
 rfl
theorem zf1 {t : SetTable} : ∀ (n i p : Nat), i ≤ t.mask → ∃ k, k ≤ 10 * n ∧ pos t k (zcT t i p) = zcT t (zbs t.mask n i p).1 (zbs t.mask n i p).2
 | 0, i, p, h => ⟨0, by omega, rfl⟩
 | n + 1, i, p, h => by
  obtain ⟨k, hk, e⟩ := zfi (p := p) h
  obtain ⟨k2, hk2, e2⟩ := zf1 n (SetTable.leap t.mask i p).1 (SetTable.leap t.mask i p).2 zd8
  refine ⟨k + k2, by omega, ?_⟩
  rw [zd2, e, e2]
  rfl
theorem zgd (t : SetTable) (h : Int) : t.probeStart h = zcT t (SetTable.bits h % (t.mask + 1)) (SetTable.bits h) := rfl
theorem zc1 (t : SetTable) (h : Int) : SetTable.bits h % (t.mask + 1) ≤ t.mask := Nat.le_of_lt_succ (Nat.mod_lt _ (Nat.succ_pos _))
/-- the search comes to an empty slot in time -/
theorem TOk.comes {t : SetTable} {n : Nat} (x : TOk t n) (h : Int) : ∃ K, K ≤ 10 * (t.mask + 13) ∧ t.slot (pos t K (t.probeStart h)).j = .empty := by
 obtain ⟨j, hj, e⟩ := x.free
 obtain ⟨u, hu, e2⟩ := zf4 x.mask (zc1 t h) (ze3 h) hj
 obtain ⟨k, hk, e3⟩ := zf1 u _ (SetTable.bits h) (zc1 t h)
 refine ⟨k, by omega, ?_⟩
 rw [zgd, e3]
 show t.slot (zbs t.mask u _ _).1 = _
 rw [e2, e]
theorem go_ok {t : SetTable} {n : Nat} (x : TOk t n) {hashAt : Nat → Int} {h : Int} {s : SetTable.Probe} (ps : POk t s) {K : Nat} (he : t.slot (pos t K s).j = .empty) : ∀ (fuel a : Nat), a ≤ K → K - a < fuel →
  ∃ b, a ≤ b ∧ b ≤ K ∧ ((t.slot (pos t b s).j = .empty ∧ SetTable.probe.go t hashAt h fuel (pos t a s) = some (.empty (pos t b s).j none)) ∨
   (b < K ∧ ∃ i, t.slot (pos t b s).j = .live i ∧ hashAt i = h ∧ SetTable.probe.go t hashAt h fuel (pos t a s) = some (.candidate (pos t b s).j i (pos t (b + 1) s)))) := by
 intro fuel
 induction fuel with
 | zero => intro a _ h; omega
 | succ fuel ih =>
  intro a ha hf
  have step : t.slot (pos t a s).j ≠ .empty → a < K := fun z => by
   by_cases c : a = K
   ·subst c; exact absurd he z
   ·omega
  cases e : t.slot (pos t a s).j with
  | empty =>
   refine ⟨a, Nat.le_refl _, ha, .inl ⟨e, ?_⟩⟩
   unfold SetTable.probe.go
   rw [e]
   dsimp only
   rw [(ps.pos a).d]
  | dummy => exact absurd e (zbx x.dum)
  | live i =>
   have aK := step (by rw [e]; simp)
   by_cases c : hashAt i = h
   ·refine ⟨a, Nat.le_refl _, ha, .inr ⟨aK, i, e, c, ?_⟩⟩
    unfold SetTable.probe.go
    rw [e]
    dsimp only
    rw [if_pos (by simpa using c), zdh]
   ·obtain ⟨b, h1, h2, h3⟩ := ih (a + 1) (by omega) (by omega)
    refine ⟨b, by omega, h2, ?_⟩
    have e2 : SetTable.probe.go t hashAt h (fuel + 1) (pos t a s) = SetTable.probe.go t hashAt h fuel (pos t (a + 1) s) := by
     rw [SetTable.probe.go, e]
     dsimp only
     rw [if_neg (by simpa using c), zdh]
    rw [e2]
    exact h3
theorem TOk.put {t : SetTable} {n j : Nat} (x : TOk t n) (hj : j ≤ t.mask) (he : t.slot j = .empty) : (t.put j).2 = SetTable.below t.place j ∧ (t.put j).1 = { t with place := SetTable.insertAt t.place (SetTable.below t.place j) j } ∧
  (SetTable.insertAt t.place (SetTable.below t.place j) j).toList.Pairwise (· < ·) ∧ (∀ k ∈ (SetTable.insertAt t.place (SetTable.below t.place j) j).toList, k ≤ t.mask) ∧ (SetTable.insertAt t.place (SetTable.below t.place j) j).size = n + 1 := by
 have nj := zeH x.up he
 refine ⟨rfl, ?_, zf2 x.up nj, fun k hk => ?_, ?_⟩
 ·unfold SetTable.put
  dsimp only
  rw [if_neg (by rw [x.dum]; unfold SetTable.has; simp)]
 ·rw [zaV] at hk
  rcases List.mem_append.mp hk with h | h
  ·exact x.le k (List.mem_of_mem_take h)
  ·rcases List.mem_cons.mp h with rfl | h
   ·exact hj
   ·exact x.le k (List.mem_of_mem_drop h)
 ·rw [← Array.length_toList, zaV, List.length_append, List.length_cons, List.length_take, List.length_drop, Array.length_toList, x.sz]
  have := (zb3 (j := j) x.up).1
  rw [x.sz] at this
  omega
theorem zhr {m : Nat} (hm : zby m) {owner : Array (Option Nat)} (sz : owner.size = m + 1) {j0 : Nat} (hj : j0 ≤ m) (hn : owner.getD j0 (some 0) = none) : ∀ (fuel i p T : Nat), i ≤ m → (zbs m T i p).1 = j0 → T < fuel →
  ∃ j, SetTable.layClean.free m owner fuel i p = some j ∧ j ≤ m ∧ owner.getD j (some 0) = none := by
 intro fuel
 induction fuel with
 | zero => intro i p T _ _ h; omega
 | succ fuel ih =>
  intro i p T hi hT hf
  unfold SetTable.layClean.free
  have re := zca hi
  cases e : (List.range (SetTable.runEnd m i + 1 - i)).find? fun k => (owner.getD (i + k) (some 0)).isNone with
  | some k =>
   have h1 := List.find?_some e
   have h2 := List.mem_range.mp (List.mem_of_find?_eq_some e)
   exact ⟨i + k, rfl, by omega, by simpa using h1⟩
  | none =>
   dsimp only
   cases T with
   | zero =>
    have h1 := List.find?_eq_none.mp e 0 (List.mem_range.mpr (by omega))
    have : i = j0 := hT
    rw [Nat.add_zero, this, hn] at h1
    simp at h1
   | succ T => exact ih _ _ T zd8 hT (by omega)
theorem zgB {l : List (Option Nat)} {j k : Nat} (h : l[j]? = some none) : ((l.set j (some k)).filterMap id).Perm (k :: l.filterMap id) := by
 induction l generalizing j with
 | nil => simp at h
 | cons x l ih =>
  cases j with
  | zero =>
   simp only [List.getElem?_cons_zero, Option.some.injEq] at h
   subst h
   simp
  | succ j =>
   rw [List.getElem?_cons_succ] at h
   have := ih h
   rw [List.set_cons_succ]
   cases x with
   | none => simpa using this
   | some y =>
    simp only [List.filterMap_cons, id]
    exact (this.cons y).trans (.swap ..)
structure OwnOk (m : Nat) (owner : Array (Option Nat)) (k : Nat) : Prop where
 sz : owner.size = m + 1
 pm : (owner.toList.filterMap id).Perm (List.range k)
theorem OwnOk.free {m k : Nat} {owner : Array (Option Nat)} (x : OwnOk m owner k) (hk : k ≤ m) : ∃ j, j ≤ m ∧ owner.getD j (some 0) = none := by
 apply Classical.byContradiction
 intro z
 have all : ∀ y ∈ owner.toList, (id y).isSome = true := fun y hy => by
  obtain ⟨j, hj⟩ := List.mem_iff_getElem?.mp hy
  obtain ⟨jl, ej⟩ := List.getElem?_eq_some_iff.mp hj
  rw [Array.length_toList, x.sz] at jl
  cases y with
  | some v => rfl
  | none =>
   refine absurd ⟨j, by omega, ?_⟩ z
   simp only [Array.getElem_toList] at ej
   simp [Array.getD, x.sz, jl, ej]
 have l1 : (owner.toList.filterMap id).length = owner.toList.length := by
  have : ∀ l : List (Option Nat), (∀ y ∈ l, (id y).isSome = true) → (l.filterMap id).length = l.length := by
   intro l
   induction l with
   | nil => intro _; rfl
   | cons y l ih =>
    intro h
    have := h y (by simp)
    cases y with
    | none => cases this
    | some v =>
     rw [List.filterMap_cons]
     simp only [id, List.length_cons]
     exact congrArg (· + 1) (ih fun q hq => h q (by simp [hq]))
  exact this _ all
 rw [x.pm.length_eq, List.length_range, Array.length_toList, x.sz] at l1
 omega
theorem zd4 {m : Nat} (hm : zby m) : ∀ (hs : List Int) (owner : Array (Option Nat)) (k : Nat), OwnOk m owner k → k + hs.length ≤ m →
  ∃ o2, (hs.foldl (fun acc h => do
    let (owner, k) ← acc
    let j ← SetTable.layClean.free m owner (SetTable.turns m) (SetTable.bits h % (m + 1)) (SetTable.bits h)
    pure (owner.setIfInBounds j (some k), k + 1)) (some (owner, k))) = some (o2, k + hs.length) ∧ OwnOk m o2 (k + hs.length) := by
 intro hs
 induction hs with
 | nil => intro owner k x _; exact ⟨owner, rfl, x⟩
 | cons h hs ih =>
  intro owner k x hk
  rw [List.length_cons] at hk
  obtain ⟨j0, hj0, hn0⟩ := x.free (by omega)
  have hi : SetTable.bits h % (m + 1) ≤ m := Nat.le_of_lt_succ (Nat.mod_lt _ (Nat.succ_pos _))
  obtain ⟨T, hT, eT⟩ := zf4 hm hi (ze3 h) hj0
  obtain ⟨j, ej, hj, hn⟩ := zhr hm x.sz hj0 hn0 (SetTable.turns m) _ _ T hi eT (by unfold SetTable.turns; omega)
  have x2 : OwnOk m (owner.setIfInBounds j (some k)) (k + 1) := by
   refine ⟨by rw [Array.size_setIfInBounds, x.sz], ?_⟩
   have h1 : owner.toList[j]? = some none := by
    have jl : j < owner.size := by rw [x.sz]; omega
    rw [Array.getElem?_toList, Array.getElem?_eq_getElem jl]
    simp only [Array.getD, jl, dite_true] at hn
    exact congrArg some hn
   rw [Array.toList_setIfInBounds]
   refine (zgB h1).trans ((x.pm.cons k).trans ?_)
   rw [List.range_succ]
   exact (List.perm_append_singleton k (List.range k)).symm
  obtain ⟨o2, e2, x3⟩ := ih _ _ x2 (by omega)
  refine ⟨o2, ?_, by rw [List.length_cons, show k + (hs.length + 1) = k + 1 + hs.length by omega]; exact x3⟩
  rw [List.foldl_cons, List.length_cons, show k + (hs.length + 1) = k + 1 + hs.length by omega, ← e2]
  congr 1
  show (Option.bind (some (owner, k)) _) = _
  simp only [Option.bind_some, ej, bind, pure]
theorem zc2 {α β : Type} {f g : α → Option β} : ∀ {l : List α}, (∀ a ∈ l, f a = g a) → l.filterMap f = l.filterMap g
 | [], _ => rfl
 | a :: l, h => by rw [List.filterMap_cons, List.filterMap_cons, h a (by simp), zc2 (l := l) fun b hb => h b (by simp [hb])]
theorem zgX (o : Array (Option Nat)) : (((List.range o.size).filterMap fun j => (o.getD j none).map fun k => (j, k)).map (·.2)) = o.toList.filterMap id := by
 have key : ∀ (l : List (Option Nat)), (((List.range l.length).filterMap fun j => (l.getD j none).map fun k => (j, k)).map (·.2)) = l.filterMap id := by
  intro l
  rw [List.map_filterMap]
  have : l = (List.range l.length).map fun j => l.getD j none := by
   apply List.ext_getElem?
   intro i
   rw [List.getElem?_map]
   by_cases c : i < l.length
   ·rw [List.getElem?_range c, List.getElem?_eq_getElem c]
    simp [List.getD_eq_getElem?_getD, List.getElem?_eq_getElem c]
   ·rw [List.getElem?_eq_none (by omega), List.getElem?_eq_none (by rw [List.length_range]; omega)]; rfl
  conv => rhs; rw [this, List.filterMap_map]
  refine zc2 fun j _ => ?_
  simp only [Function.comp, id]
  cases l.getD j none <;> rfl
 have := key o.toList
 rw [Array.length_toList] at this
 rw [← this]
 congr 1
 refine zc2 fun j _ => ?_
 simp [Array.getD, List.getD_eq_getElem?_getD]
 by_cases c : j < o.size
 ·simp [c]
 ·simp [c]
theorem zgV (o : Array (Option Nat)) (n : Nat) : (((List.range n).filterMap fun j => (o.getD j none).map fun k => (j, k)).map (·.1)).Pairwise (· < ·) ∧ ∀ j ∈ (((List.range n).filterMap fun j => (o.getD j none).map fun k => (j, k)).map (·.1)), j < n := by
 have e : (((List.range n).filterMap fun j => (o.getD j none).map fun k => (j, k)).map (·.1)) = (List.range n).filter fun j => (o.getD j none).isSome := by
  generalize List.range n = l
  induction l with
  | nil => rfl
  | cons j l ih =>
   rw [List.filterMap_cons, List.filter_cons]
   cases c : o.getD j none with
   | none => simpa [c] using ih
   | some k => simpa [c] using ih
 rw [e]
 exact ⟨List.pairwise_lt_range.filter _, fun j hj => List.mem_range.mp (List.mem_filter.mp hj).1⟩
theorem zgl (n : Nat) : (List.replicate n (none : Option Nat)).filterMap id = [] := by
 induction n with
 | zero => rfl
 | succ n ih => rw [List.replicate_succ, List.filterMap_cons]; exact ih
theorem zhN {m : Nat} (hm : zby m) (fi mo : Nat) (led plain : Bool) {hs : Array Int} (hn : hs.size * 5 < m * 3) :
  ∃ t order, SetTable.laid m fi mo led plain hs = some (t, order) ∧ TOk t hs.size ∧ t.led = led ∧ t.plain = plain ∧ t.mask = m ∧ order.toList.Perm (List.range hs.size) := by
 have x0 : OwnOk m (Array.replicate (m + 1) none) 0 := ⟨by simp, by rw [Array.toList_replicate, zgl]; exact .refl _⟩
 obtain ⟨o, eo, xo⟩ := zd4 hm hs.toList _ 0 x0 (by rw [Array.length_toList]; omega)
 rw [Nat.zero_add, Array.length_toList] at eo xo
 have e1 : SetTable.layClean m hs = some o := by
  unfold SetTable.layClean
  rw [← Array.foldl_toList]
  exact congrArg (Option.map (·.1)) eo
 have pl := zgV o (m + 1)
 have sd := zgX o
 rw [xo.sz] at sd
 refine ⟨{ mask := m, place := (((List.range (m + 1)).filterMap fun j => (o.getD j none).map fun k => (j, k)).map (·.1)).toArray, dummies := #[], finger := fi, led := led, moves := mo, plain := plain }, (((List.range (m + 1)).filterMap fun j => (o.getD j none).map fun k => (j, k)).map (·.2)).toArray, ?_, ⟨hm, pl.1, fun j hj => Nat.le_of_lt_succ (pl.2 j hj), rfl, ?_, hn⟩, rfl, rfl, rfl, ?_⟩
 ·unfold SetTable.laid
  rw [e1]
  rfl
 ·have := congrArg List.length sd
  rw [xo.pm.length_eq, List.length_range, List.length_map] at this
  simpa using this
 ·show (((List.range (m + 1)).filterMap fun j => (o.getD j none).map fun k => (j, k)).map (·.2)).Perm _
  rw [sd]
  exact xo.pm
theorem zeV {α : Type} {es : Array α} {order : Array Nat} (h : order.toList.Perm (List.range es.size)) : (order.filterMap (es[·]?)).toList.Perm es.toList := by
 rw [Array.toList_filterMap]
 refine (h.filterMap _).trans ?_
 have : ∀ l : List α, (List.range l.length).filterMap (l[·]?) = l := by
  intro l
  induction l with
  | nil => rfl
  | cons x l ih =>
   rw [List.length_cons, List.range_succ_eq_map, List.filterMap_cons]
   simp only [List.getElem?_cons_zero, List.filterMap_map]
   have : ((fun x_1 => (x :: l)[x_1]?) ∘ Nat.succ) = (l[·]?) := by funext i; simp
   rw [this, ih]
 have e := this es.toList
 rw [Array.length_toList] at e
 have e2 : (fun (x : Nat) => es[x]?) = fun x => es.toList[x]? := by funext i; simp
 rw [e2, e]
/-- what comes behind one more place: full, and then laid anew -/
theorem zhK {m n : Nat} (hm : zby m) (h0 : n * 5 < m * 3) (h1 : (n + 1) * 5 ≥ m * 3) (h2 : n < 1000) : zby (SetTable.sizeAbove (SetTable.grown (n + 1)) - 1) ∧ (n + 1) * 5 < (SetTable.sizeAbove (SetTable.grown (n + 1)) - 1) * 3 ∧ SetTable.sizeAbove (SetTable.grown (n + 1)) ≤ 2048 := by
 rcases hm with rfl | rfl | rfl | rfl | rfl
 ·have : n = 4 := by omega
  subst this; exact ⟨.inr (.inl (by decide +kernel)), by decide +kernel, by decide +kernel⟩
 ·have : n = 18 := by omega
  subst this; exact ⟨.inr (.inr (.inl (by decide +kernel))), by decide +kernel, by decide +kernel⟩
 ·have : n = 76 := by omega
  subst this; exact ⟨.inr (.inr (.inr (.inl (by decide +kernel)))), by decide +kernel, by decide +kernel⟩
 ·have : n = 306 := by omega
  subst this; exact ⟨.inr (.inr (.inr (.inr (by decide +kernel)))), by decide +kernel, by decide +kernel⟩
 ·omega
theorem zgS (led : Bool) : TOk (.fresh 0 0 led) 0 := ⟨.inl rfl, .nil, (fun j h => by cases h), rfl, rfl, (show 0 * 5 < 7 * 3 by decide)⟩
section
variable {prog : Program} {w : World} {A : Around} {E : Value → Shared → Prop} {s : Shared}
/-- the set's object -/
def SObj (es : Array (Int × Value)) (ep : Nat) (t : SetTable) : Obj := { cls := .type "set", data := .set es ep t }
/-- tuples as keys of a set: what stands in it -/
structure SetT (prog : Program) (w : World) (h : Heap) (S : Addr) (es : Array (Int × Value)) (ep : Nat) (t : SetTable) (xs : List (List Key × Addr)) : Prop where
 ob : h.get? S = some (SObj es ep t)
 ok : TOk t es.size
 all : ∀ e ∈ es.toList, ∃ x ∈ xs, e = ((tupleKind (zai prog w)).hash x.1, Value.ref x.2)
 is : ∀ x ∈ xs, (tupleKind (zai prog w)).is h x.1 x.2
 len : es.size = xs.length
theorem zbF {ks : List Key} {a : Addr} {Q : Bool → Shared → Prop} (hk : (tupleKind (zai prog w)).is s.heap ks a) (h : Q false s) : wpAny (model prog w) A (ofAClassStatement 8 (.ref a)) Q E s := by
 have hT : s.TypeIs (.ref a) "tuple" := IsTupleKey.typeIs (knd := zai prog w) hk
 obtain ⟨o, items, n, ho, _, hd, hi⟩ := (show IsTupleKey (zai prog w) s.heap ks a from hk)
 unfold ofAClassStatement
 refine wpAny_bind (wpAny_typeOf hT ?_)
 show wpAny _ _ ((pure true : Sem Bool) >>= _) _ _ s
 refine wpAny_bind (wpAny_pure ?_)
 simp only [Bool.not_true, Bool.false_eq_true, if_false]
 refine wpAny_bind (wpAny_seqItems ho hd ?_)
 dsimp only
 refine wpAny_bind ?_
 rw [← Array.forIn_toList]
 refine wpAny_forIn_list _ (fun rest r s' => r.1 = none ∧ s' = s ∧ ∀ v ∈ rest, carriedByValue v = true) _ ?_ ?_ _ _ ⟨rfl, rfl, hi.byValue⟩
 ·rintro v rest r s' ⟨hr, rfl, hall⟩
  have hv := hall v List.mem_cons_self
  have : ofAClassStatement 7 v = pure false := by
   cases v with
   | ref a => simp [carriedByValue] at hv
   | _ => first | rfl | simp [ofAClassStatement] | (unfold ofAClassStatement; rfl)
  rw [this]
  refine wpAny_bind (wpAny_pure ?_)
  simp only [Bool.false_eq_true, if_false]
  exact wpAny_pure ⟨rfl, rfl, fun u hu' => hall u (List.mem_cons_of_mem _ hu')⟩
 ·rintro ⟨r1, r2⟩ s' ⟨hr, rfl, _⟩
  simp only at hr
  subst hr
  exact wpAny_pure h
theorem zic {ks : List Key} {a : Addr} (hk : (tupleKind (zai prog w)).is s.heap ks a) {st : List Value} (hs : ∀ y ∈ st, ∃ kb b, y = Value.ref b ∧ (tupleKind (zai prog w)).is s.heap kb b) {Q : Bool → Shared → Prop} (h : Q false s) :
  wpAny (model prog w) A (searchCouldBeSeen (.ref a) st) Q E s := by
 unfold searchCouldBeSeen
 refine wpAny_bind ?_
 refine wpAny_forIn_list _ (fun rest r s' => r.1 = none ∧ s' = s ∧ ∀ y ∈ rest, ∃ kb b, y = Value.ref b ∧ (tupleKind (zai prog w)).is s.heap kb b) _ ?_ ?_ _ _ ⟨rfl, rfl, hs⟩
 ·rintro y rest r s' ⟨hr, rfl, hall⟩
  obtain ⟨kb, b, rfl, hb⟩ := hall y List.mem_cons_self
  have nxt : r.1 = none ∧ s' = s' ∧ ∀ y ∈ rest, ∃ kb b, y = Value.ref b ∧ (tupleKind (zai prog w)).is s'.heap kb b := ⟨hr, rfl, fun u hu => hall u (List.mem_cons_of_mem _ hu)⟩
  dsimp only
  split
  ·exact wpAny_pure ⟨rfl, rfl, nxt.2.2⟩
  ·refine wpAny_bind ((tupleKind (zai prog w)).quiet hk ?_)
   simp only [Bool.not_true, Bool.false_eq_true, if_false]
   refine wpAny_bind ((tupleKind (zai prog w)).quiet hb ?_)
   simp only [Bool.not_true, Bool.false_eq_true, if_false]
   refine wpAny_bind (zbF hk ?_)
   simp only [Bool.false_eq_true, if_false]
   refine wpAny_bind (zbF hb ?_)
   simp only [Bool.false_eq_true, if_false]
   exact wpAny_pure ⟨rfl, rfl, nxt.2.2⟩
 ·rintro ⟨r1, r2⟩ s' ⟨hr, rfl, _⟩
  simp only at hr
  subst hr
  exact wpAny_pure h
theorem zei {t : SetTable} {n : Nat} (x : TOk t n) {hashAt : Nat → Int} {h : Int} {s : SetTable.Probe} (ps : POk t s) {K b : Nat} (he : t.slot (pos t K s).j = .empty) (hK : K ≤ 10 * (t.mask + 13)) (hb : b ≤ K) {met : Option SetTable.Met} (e : t.probe hashAt h (pos t b s) = met) :
  ∃ c, b ≤ c ∧ c ≤ K ∧ ((t.slot (pos t c s).j = .empty ∧ met = some (.empty (pos t c s).j none)) ∨ (c < K ∧ ∃ i, t.slot (pos t c s).j = .live i ∧ met = some (.candidate (pos t c s).j i (pos t (c + 1) s)))) := by
 subst e
 obtain ⟨c, h1, h2, h3⟩ := go_ok x (hashAt := hashAt) (h := h) ps he (10 * SetTable.turns t.mask) b hb (by unfold SetTable.turns; omega)
 refine ⟨c, h1, h2, ?_⟩
 rcases h3 with h | ⟨h4, i, h5, _, h6⟩
 ·exact .inl h
 ·exact .inr ⟨h4, i, h5, h6⟩
/-- the search of a tuple that is none of the set's -/
theorem zeW {S a : Addr} {ks : List Key} {es : Array (Int × Value)} {ep : Nat} {t : SetTable} {xs : List (List Key × Addr)} (hu : A.units < cLine) (x : SetT prog w s.heap S es ep t xs) (hk : (tupleKind (zai prog w)).is s.heap ks a) (nw : ∀ y ∈ xs, y.1 ≠ ks) {K : Nat}
  (he : t.slot (pos t K (t.probeStart ((tupleKind (zai prog w)).hash ks))).j = .empty) (hK : K ≤ 10 * (t.mask + 13)) {Q : SetFound → Shared → Prop} (q : ∀ j, j ≤ t.mask → t.slot j = .empty → Q (.free j false) s) :
  ∀ (fuel b : Nat) (st : Option SetTable.Probe), b ≤ K → K - b < fuel → st.getD (t.probeStart ((tupleKind (zai prog w)).hash ks)) = pos t b (t.probeStart ((tupleKind (zai prog w)).hash ks)) →
   wpAny (model prog w) A (setSearchFrom S (.ref a) ((tupleKind (zai prog w)).hash ks) true fuel st) Q E s := by
 have ps : POk t (t.probeStart ((tupleKind (zai prog w)).hash ks)) := zer (zc1 _ _)
 intro fuel
 induction fuel with
 | zero => intro b st _ h; omega
 | succ fuel ih =>
  intro b st hb hf est
  unfold setSearchFrom
  refine wpAny_bind (wpAny_setState_of x.ob rfl x.ok.fits ?_)
  dsimp only
  rw [if_neg (by rw [x.ok.odd]; simp)]
  rw [est]
  split
  ·rename_i met heq
   obtain ⟨c, c1, c2, c3⟩ := zei x.ok ps he hK hb heq
   rcases c3 with ⟨c4, c5⟩ | ⟨c4, i, c5, c6⟩
   ·cases c5
    dsimp only
    exact wpAny_pure (q _ (by have := (ps.pos c).j; omega) c4)
   ·cases c6
    dsimp only
    have pi := zdB c5
    have il : i < es.size := by rw [← x.ok.sz]; exact (Array.getElem?_eq_some_iff.mp pi).1
    obtain ⟨y, hy, ey⟩ := x.all es[i] (by rw [← Array.getElem_toList]; exact List.getElem_mem _)
    have ei : es[i]? = some ((tupleKind (zai prog w)).hash y.1, Value.ref y.2) := by rw [Array.getElem?_eq_getElem il, ey]
    rcases (show t.led = true ∨ t.led = false by cases t.led <;> simp) with hl | hl
    ·rw [if_neg (by rw [hl]; simp)]
     rw [ei]
     dsimp only
     refine wpAny_bind (wpAny_holding ?_)
     refine (tupleKind (zai prog w)).eqBool (x := y.1) (y := ks) hu (x.is y hy) hk ?_
     rw [decide_eq_false (nw y hy)]
     refine wpAny_bind (wpAny_setState_of x.ob rfl x.ok.fits ?_)
     dsimp only
     simp only [Bool.and_false, Bool.false_eq_true, if_false]
     have sm : t.sameMemory t.moves t.mask = some true := by unfold SetTable.sameMemory; simp
     rw [sm]
     dsimp only
     rw [if_pos rfl, c5]
     dsimp only
     rw [ei]
     dsimp only
     refine wpAny_bind (wpAny_isSame_ref_self ?_)
     rw [if_pos rfl]
     refine wpAny_bind (wpAny_pure ?_)
     dsimp only
     exact ih (c + 1) _ (by omega) (by omega) rfl
    ·rw [if_pos (by rw [hl]; rfl)]
     refine wpAny_bind (zic hk (fun z hz => ?_) ?_)
     ·obtain ⟨e, he', rfl⟩ := List.mem_map.mp hz
      have := (Array.mem_filter.mp (Array.mem_toList_iff.mp he')).1
      obtain ⟨y2, hy2, ey2⟩ := x.all e (Array.mem_toList_iff.mpr this)
      exact ⟨y2.1, y2.2, by rw [ey2], x.is y2 hy2⟩
     ·rw [if_neg Bool.false_ne_true]
      rw [ei]
      dsimp only
      refine wpAny_bind (wpAny_holding ?_)
      refine (tupleKind (zai prog w)).eqBool (x := y.1) (y := ks) hu (x.is y hy) hk ?_
      rw [decide_eq_false (nw y hy)]
      refine wpAny_bind (wpAny_setState_of x.ob rfl x.ok.fits ?_)
      dsimp only
      simp only [Bool.and_false, Bool.false_eq_true, if_false]
      have sm : t.sameMemory t.moves t.mask = some true := by unfold SetTable.sameMemory; simp
      rw [sm]
      dsimp only
      rw [if_pos rfl, c5]
      dsimp only
      rw [ei]
      dsimp only
      refine wpAny_bind (wpAny_isSame_ref_self ?_)
      rw [if_pos rfl]
      refine wpAny_bind (wpAny_pure ?_)
      dsimp only
      exact ih (c + 1) _ (by omega) (by omega) rfl
  ·rename_i hne
   obtain ⟨c, c1, c2, c3⟩ := zei x.ok ps he hK hb (met := t.probe _ _ (pos t b (t.probeStart ((tupleKind (zai prog w)).hash ks)))) rfl
   rcases c3 with ⟨c4, c5⟩ | ⟨c4, i, c5, c6⟩
   ·exact absurd c5 (hne _)
   ·exact absurd c6 (hne _)
theorem zdi {ks : List Key} {a : Addr} {Q : Bool → Shared → Prop} (hk : (tupleKind (zai prog w)).is s.heap ks a) (h : ∀ b, Q b s) : wpAny (model prog w) A (hashByValue 8 (.ref a)) Q E s := by
 have hT : s.TypeIs (.ref a) "tuple" := IsTupleKey.typeIs (knd := zai prog w) hk
 obtain ⟨o, items, n, ho, _, hd, hi⟩ := (show IsTupleKey (zai prog w) s.heap ks a from hk)
 unfold hashByValue
 refine wpAny_bind (wpAny_specialOf hT F.slot_tuple_hash.lookup ?_)
 show wpAny _ _ (seqItems? (.ref a) >>= _) _ _ s
 refine wpAny_bind (wpAny_seqItems ho hd ?_)
 refine wpAny_bind ?_
 show wpAny _ _ (forIn items _ _) _ _ s
 rw [← Array.forIn_toList]
 refine wpAny_forIn_list _ (fun rest r s' => r.1 = none ∧ s' = s ∧ ∀ v ∈ rest, carriedByValue v = true) _ ?_ ?_ _ _ ⟨rfl, rfl, hi.byValue⟩
 ·rintro v rest r s' ⟨hr, rfl, hall⟩
  have hv := hall v List.mem_cons_self
  have : ∃ b, hashByValue 7 v = pure b := by
   cases v with
   | ref a => simp [carriedByValue] at hv
   | _ => first | exact ⟨_, rfl⟩ | (unfold hashByValue; exact ⟨_, rfl⟩)
  obtain ⟨b, eb⟩ := this
  rw [eb]
  refine wpAny_bind (wpAny_pure ?_)
  cases b with
  | true =>
   simp only [Bool.not_true, Bool.false_eq_true, if_false]
   exact wpAny_pure ⟨rfl, rfl, fun u hu' => hall u (List.mem_cons_of_mem _ hu')⟩
  | false =>
   simp only [Bool.not_false, if_true]
   exact wpAny_pure (wpAny_pure (h _))
 ·rintro ⟨r1, r2⟩ s' ⟨hr, rfl, _⟩
  simp only at hr
  subst hr
  exact wpAny_pure (h _)
theorem zgJ {h h' : Heap} {S b : Addr} {ks : List Key} {es : Array (Int × Value)} {ep : Nat} {t : SetTable} (ho : h.get? S = some (SObj es ep t)) (sb : Heap.SameBut S h h') (k : (tupleKind (zai prog w)).is h ks b) : (tupleKind (zai prog w)).is h' ks b := by
 obtain ⟨o, items, n, h1, h2, h3, h4⟩ := (show IsTupleKey (zai prog w) h ks b from k)
 have ne : b ≠ S := fun e => by rw [e, ho] at h1; cases h1; cases h3
 exact ⟨o, items, n, (sb.2 b ne).trans h1, h2, h3, h4⟩
set_option maxHeartbeats 1000000 in
theorem zhj {S a : Addr} {ks : List Key} {es : Array (Int × Value)} {ep : Nat} {t : SetTable} {xs : List (List Key × Addr)} {Q : Bool → Shared → Prop} (hu : A.units < cLine) (x : SetT prog w s.heap S es ep t xs) (hk : (tupleKind (zai prog w)).is s.heap ks a) (nw : ∀ y ∈ xs, y.1 ≠ ks) (hn : xs.length < 1000)
  (q : ∀ h' es' ep' t', Heap.SameBut S s.heap h' → SetT prog w h' S es' ep' t' (xs ++ [(ks, a)]) → ∀ tk, s.toks ≤ tk → Q true { s with heap := h', toks := tk }) :
  wpAny (model prog w) A (setAdd S (.ref a)) Q E s := by
 unfold setAdd
 refine wpAny_holding ?_
 refine wpAny_bind ((tupleKind (zai prog w)).pyHash (k := ks) hu hk ?_)
 generalize hs1 : ({ s with toks := s.toks + (tupleKind (zai prog w)).draws ks } : Shared) = s1
 have eh : s1.heap = s.heap := by rw [← hs1]
 have q1 : ∀ h' es' ep' t', Heap.SameBut S s1.heap h' → SetT prog w h' S es' ep' t' (xs ++ [(ks, a)]) → Q true { s1 with heap := h' } := fun h' es' ep' t' h1 h2 => by
  rw [eh] at h1
  have := q h' es' ep' t' h1 h2 (s.toks + (tupleKind (zai prog w)).draws ks) (Nat.le_add_right _ _)
  rw [← hs1]; exact this
 rw [← eh] at x hk
 clear q hs1 eh
 unfold setAddHashed setAddHashedIn
 refine wpAny_holding (wpAny_bind (wpAny_setState_of x.ob rfl x.ok.fits ?_))
 dsimp only
 rw [show byScan (.ref a) es = false by rfl, if_neg Bool.false_ne_true]
 obtain ⟨K, hK, he⟩ := x.ok.comes ((tupleKind (zai prog w)).hash ks)
 unfold setSearch
 have m100 : t.mask ≤ 2047 := by rcases x.ok.mask with e | e | e | e | e <;> omega
 refine wpAny_bind (zeW hu x hk nw he hK (fun j hj ej => ?_) 100000 0 none (Nat.zero_le _) (by omega) rfl)
 dsimp only
 refine wpAny_bind (wpAny_setState_of x.ob rfl x.ok.fits ?_)
 dsimp only
 obtain ⟨p1, p2, p3, p4, p5⟩ := x.ok.put hj ej
 have sz1 : (SetTable.insertAt es (SetTable.below t.place j) ((tupleKind (zai prog w)).hash ks, Value.ref a)).size = es.size + 1 := by
  rw [← Array.length_toList, zaV, List.length_append, List.length_cons, List.length_take, List.length_drop, Array.length_toList]
  have := (zb3 (j := j) x.ok.up).1
  rw [x.ok.sz] at this
  omega
 have all1 : ∀ e ∈ (SetTable.insertAt es (SetTable.below t.place j) ((tupleKind (zai prog w)).hash ks, Value.ref a)).toList, ∃ y ∈ xs ++ [(ks, a)], e = ((tupleKind (zai prog w)).hash y.1, Value.ref y.2) := by
  intro e hE
  rw [zaV] at hE
  have old : e ∈ es.toList → ∃ y ∈ xs ++ [(ks, a)], e = ((tupleKind (zai prog w)).hash y.1, Value.ref y.2) := fun m => by
   obtain ⟨y, hy, ey⟩ := x.all e m
   exact ⟨y, List.mem_append_left _ hy, ey⟩
  rcases List.mem_append.mp hE with h | h
  ·exact old (List.mem_of_mem_take h)
  ·rcases List.mem_cons.mp h with rfl | h
   ·exact ⟨(ks, a), by simp, rfl⟩
   ·exact old (List.mem_of_mem_drop h)
 rw [p1, p2]
 generalize SetTable.insertAt es (SetTable.below t.place j) ((tupleKind (zai prog w)).hash ks, Value.ref a) = es1 at sz1 all1 ⊢
 generalize SetTable.insertAt t.place (SetTable.below t.place j) j = pl1 at p3 p4 p5 ⊢
 have len1 : es1.size = (xs ++ [(ks, a)]).length := by rw [sz1, x.len]; simp
 have room := x.ok.room
 have zl : es1.size ≤ sizeLine := by rw [sizeLine_eq, len1]; simp; omega
 have fin : ∀ pln : Bool, wpAny (model prog w) A (do
   storeSet S es1 { t with place := pl1, plain := pln }
   if !false && SetTable.tooFull { t with place := pl1, plain := pln } then setRelay S (SetTable.grown (es.size + 1))
   return true) Q E s1 := by
  intro pln
  refine wpAny_bind (wpAny_storeSet_of x.ob rfl ?_ zl)
  have hg : (s1.heap.update S (Obj.putSet es1 { t with place := pl1, plain := pln })).get? S = some (SObj es1 (ep + 1) { t with place := pl1, plain := pln }) := by
   have := Heap.get?_update_self (Obj.putSet es1 { t with place := pl1, plain := pln }) x.ob (by rw [putSet_of _ _ rfl]; rfl)
   rw [putSet_of _ _ rfl] at this
   exact this
  have sb1 := Heap.SameBut.update s1.heap S (Obj.putSet es1 { t with place := pl1, plain := pln })
  generalize s1.heap.update S (Obj.putSet es1 { t with place := pl1, plain := pln }) = h1 at hg sb1 ⊢
  have fl : SetTable.tooFull { t with place := pl1, plain := pln } = decide ((es.size + 1) * 5 ≥ t.mask * 3) := by
   unfold SetTable.tooFull SetTable.fill
   rw [x.ok.dum]
   show decide ((pl1.size + 0) * 5 ≥ t.mask * 3) = _
   rw [p5]
  have is1 : ∀ y ∈ xs ++ [(ks, a)], (tupleKind (zai prog w)).is h1 y.1 y.2 := fun y hy => by
   rcases List.mem_append.mp hy with h | h
   ·exact zgJ x.ob sb1 (x.is y h)
   ·rw [List.mem_singleton.mp h]; exact zgJ x.ob sb1 hk
  rw [fl]
  by_cases c : (es.size + 1) * 5 ≥ t.mask * 3
  ·rw [if_pos (by simpa using c)]
   have g := zhK x.ok.mask room c (by rw [x.len]; exact hn)
   have ft1 : SetTable.fits { t with place := pl1, plain := pln } es1.size = true := by
    unfold SetTable.fits SetTable.fill
    rw [x.ok.dum]
    simp only [p5, sz1, beq_self_eq_true, Bool.true_and, decide_eq_true_eq]
    show es.size + 1 + 0 ≤ t.mask
    rcases x.ok.mask with e | e | e | e | e <;> omega
   obtain ⟨t2, order, e2, ok2, _, _, _, pm⟩ := zhN g.1 t.finger (SetTable.movedTo { t with place := pl1, plain := pln } (SetTable.sizeAbove (SetTable.grown (es.size + 1)) - 1)) t.led pln (hs := es1.map (·.1)) (by rw [Array.size_map, sz1]; exact g.2.1)
   rw [Array.size_map] at ok2 pm
   have op := zeV (es := es1) pm
   have sz2 : (order.filterMap (es1[·]?)).size = es1.size := by
    have := op.length_eq
    rwa [Array.length_toList, Array.length_toList] at this
   refine wpAny_bind ?_
   unfold setRelay
   refine wpAny_bind (wpAny_setState_of (s := { s1 with heap := h1 }) hg rfl ft1 ?_)
   dsimp only
   rw [if_neg (by rw [sizeLine_eq]; have := g.2.2; omega)]
   refine wpAny_bind ?_
   have e3 : SetTable.relaid { t with place := pl1, plain := pln } (es1.map (·.1)) (SetTable.grown (es.size + 1)) = some (t2, order) := e2
   rw [e3]
   show wpAny _ _ (if ((order.filterMap (es1[·]?)).size != es1.size) = true then _ else _) _ _ _
   rw [if_neg (by rw [sz2]; simp)]
   refine wpAny_pure ?_
   refine wpAny_storeSet_of (s := { s1 with heap := h1 }) hg rfl ?_ (by rw [sz2]; exact zl)
   have hg2 : (h1.update S (Obj.putSet (order.filterMap (es1[·]?)) t2)).get? S = some (SObj (order.filterMap (es1[·]?)) (ep + 1 + 1) t2) := by
    have := Heap.get?_update_self (Obj.putSet (order.filterMap (es1[·]?)) t2) hg (by rw [putSet_of _ _ rfl]; rfl)
    rw [putSet_of _ _ rfl] at this
    exact this
   have sb2 := Heap.SameBut.update h1 S (Obj.putSet (order.filterMap (es1[·]?)) t2)
   refine wpAny_pure (q1 _ _ _ _ (sb1.trans sb2) ⟨hg2, by rw [sz2]; exact ok2, fun e hE => all1 e (op.mem_iff.mp hE), fun y hy => zgJ hg sb2 (is1 y hy), by rw [sz2, len1]⟩)
  ·rw [if_neg (by simpa using c)]
   refine wpAny_pure (q1 h1 es1 (ep + 1) _ sb1 ⟨hg, ⟨x.ok.mask, p3, p4, x.ok.dum, ?_, ?_⟩, all1, is1, len1⟩)
   ·show pl1.size = _; rw [p5, sz1]
   ·show es1.size * 5 < t.mask * 3; rw [sz1]; omega
 have two : ∀ b : Bool, (if b = true then ({ t with place := pl1 } : SetTable) else { t with place := pl1, plain := false }) = { t with place := pl1, plain := if b then t.plain else false } := fun b => by cases b <;> rfl
 by_cases c : t.plain = true
 ·rw [if_pos c]
  refine wpAny_bind (zdi hk fun b => ?_)
  rw [two]
  exact fin _
 ·rw [if_neg c]
  refine wpAny_bind (wpAny_pure ?_)
  rw [two]
  exact fin _
end
section
variable {prog : Program} {w : World} {A : Around} {R : Result → Shared → Prop} {I : Addr} {fp wr : List Addr} {G : Array GenState → Array GenState → Prop} {n : Nat} {P : Nat → Value → Prop} {St : Nat → Shared → Prop}
theorem zft (W : WalksS prog w A.in1 I fp wr G n P St) (S : Addr) (hSf : S ∉ fp) (J : Nat → Heap → Prop)
  (hJ : ∀ i h h', J i h → (∀ b o, b ∉ wr → h.get? b = some o → h'.get? b = some o) → J i h')
  (hadd : ∀ i (s : Shared) v (Q : Bool → Shared → Prop) (E : Value → Shared → Prop), i < n → P i v → J i s.heap → (∀ b h' tk, Heap.SameBut S s.heap h' → J (i + 1) h' → s.toks ≤ tk → Q b { s with heap := h', toks := tk }) → wpAny (model prog w) A.in1 (setAdd S v) Q E s) :
  ∀ (k i : Nat) (s : Shared), n - i = k → i ≤ n → St i s → J i s.heap →
   (∀ s', Moved (S :: wr) G s s' → J n s'.heap → R (.ok (.ret .none)) s') →
   codeAny (model prog w) A (.builtin "set.update.loop" ⟨[.ref S, .ref I], []⟩) R s := by
 have hSw : S ∉ wr := fun h => hSf (W.sub _ h)
 have hsub : ∀ b ∈ wr, b ∈ S :: wr := fun b hb => List.mem_cons_of_mem _ hb
 intro k
 induction k with
 | zero =>
  intro i s hk hi hst hS hR
  have hin : i = n := by omega
  subst hin
  refine codeAny_builtin PyProof.Rows.F.entry_set_update_loop ?_
  rw [Around.under_plainId PyProof.Rows.F.plain_set_update_loop _]
  show wpAny _ A.in1 (pyNext (.ref I) >>= _) _ _ s
  refine wpAny_bind (W.done s _ _ hst fun s' hm => ?_)
  show wpAny _ A.in1 (ret Value.none) _ _ s'
  exact wpAny_pure (hR s' (hm.mono hsub) (hJ _ _ _ hS fun b o hb e => hm.heap b o hb e))
 | succ k ih =>
  intro i s hk hi hst hS hR
  have hlt : i < n := by omega
  refine codeAny_builtin PyProof.Rows.F.entry_set_update_loop ?_
  rw [Around.under_plainId PyProof.Rows.F.plain_set_update_loop _]
  show wpAny _ A.in1 (pyNext (.ref I) >>= _) _ _ s
  refine wpAny_bind (W.item i s _ _ hlt hst fun v s' hP hst' hm => ?_)
  have hS' : J i s'.heap := hJ _ _ _ hS fun b o hb e => hm.heap b o hb e
  show wpAny _ A.in1 (holding [v] (setAdd S v) >>= _) _ _ s'
  refine wpAny_bind (wpAny_holding ?_)
  refine hadd i s' v _ _ hlt hP hS' fun b h' tk hsb hSi htk => ?_
  refine wpAny_pure ⟨plainId_quiet PyProof.Rows.F.plain_set_update_loop _, ih (i + 1) _ (by omega) hlt (W.frame _ s' _ _ hst' htk fun b hb o e => ?_) hSi fun s'' hm'' hS'' => ?_⟩
  ·rw [hsb.2 b (fun h : b = S => hSf (by rw [← h]; exact hb))]; exact e
  ·refine hR s'' (Moved.trans W.gtrans ((hm.mono hsub).then_heap htk fun b o hb e => ?_) hm'') hS''
   rw [hsb.2 b (fun h : b = S => hb (by rw [h]; exact List.mem_cons_self))]; exact e
end
section
variable {prog : Program} {w : World} {A : Around} {E : Value → Shared → Prop} {s : Shared}
set_option maxHeartbeats 3200000 in
theorem zdM {l : Addr} {items : Array Value} (J : Nat → Heap → Prop) {Q : Value → Shared → Prop}
  (hh : A.handled = none) (hl : s.heap.IsList l items)
  (h0 : J 0 (s.heap.push { cls := .type "set", dict := none, data := .set #[] 0 (.fresh 0 0 (!w.params.followText "set-order")) }))
  (hJ : ∀ i h h', J i h → (∀ b o, b ≤ s.heap.objs.size → h.get? b = some o → h'.get? b = some o) → J i h')
  (hadd : ∀ i (B : Around) (s1 : Shared) v (Q : Bool → Shared → Prop) (E : Value → Shared → Prop), B.units ≤ A.units + 8 → items[i]? = some v → J i s1.heap → (∀ b h' tk, Heap.SameBut s.heap.objs.size s1.heap h' → J (i + 1) h' → s1.toks ≤ tk → Q b { s1 with heap := h', toks := tk }) → wpAny (model prog w) B (setAdd s.heap.objs.size v) Q E s1)
  (h : ∀ (h' : Heap) (tk : Nat), J items.size h' → (∀ b o, b < s.heap.objs.size → s.heap.get? b = some o → h'.get? b = some o) → Q (.ref s.heap.objs.size) { s with heap := h', toks := tk }) :
  wpAny (model prog w) A (call (.type "set") [.ref l]) Q E s := by
 obtain ⟨c, tl, hmro⟩ := F.called_set.mro
 have hmade := F.called_set.made
 have hsub := F.called_set.sub
 refine wpAny_call (codeAny_of_tree ?_)
 show wpAny _ _ (callAny (.type "set") _) _ _ _
 refine wpAny_pure ⟨Code.quiet_builtin _ (by decide +kernel), codeAny_builtin F.entry_type_call ?_⟩
 rw [Around.under_plain (weight_type_call_type "set" [.ref l] []) rfl]
 have h1 := F.called_set.notType
 have h2 := F.called_set.canCreate
 have hct := F.typeCall_set_1 (.ref l)
 repeat (any_goals (first | assumption | wp_step))
 refine codeAny_mono (zbw (.ref l) (E := E) (Q₁ := fun obj s₁ => obj = .ref s.heap.objs.size ∧ s₁ = { s with heap := s.heap.push { cls := .type "set", dict := none, data := .set #[] 0 (.fresh 0 0 (!w.params.followText "set-order")) } }) ⟨rfl, rfl⟩) fun r s₁ hr => ?_
 revert h0
 generalize (!w.params.followText "set-order") = led at hr
 intro h0
 cases r with
 | error e => exact hr
 | ok fl =>
  cases fl with
  | ret obj =>
   obtain ⟨rfl, rfl⟩ := hr
   have hS : (s.heap.push { cls := .type "set", dict := none, data := .set #[] 0 (.fresh 0 0 led) }).get? s.heap.objs.size = some { cls := .type "set", dict := none, data := .set #[] 0 (.fresh 0 0 led) } := Heap.get?_push_size _ rfl
   have hT : Shared.TypeIs { s with heap := s.heap.push { cls := .type "set", dict := none, data := .set #[] 0 (.fresh 0 0 led) } } (.ref s.heap.objs.size) "set" := ⟨_, hS, rfl⟩
   have hli := F.called_set.init.lookup
   have hbi := F.called_set.init.bind (.ref s.heap.objs.size)
   repeat (any_goals (first | assumption | wp_step))
   refine codeAny_mono (codeAny_call_builtin (R := wants (fun r s₂ => r = .none ∧ ∃ h' tk, s₂ = { s with heap := h', toks := tk } ∧ J items.size h' ∧
     (∀ b o, b < s.heap.objs.size → s.heap.get? b = some o → h'.get? b = some o)) E) F.called_set.init.plain F.entry_set_init (check_set_init_1 hT ?_)) fun r₂ s₂ hr₂ => ?_
   ·obtain ⟨ol, hol, hcl, nl, hdl⟩ := hl
    obtain ⟨ocls, odict, odata, oslots⟩ := ol
    simp only at hcl hdl
    subst hcl; subst hdl
    have hol' : (s.heap.push { cls := .type "set", dict := none, data := .set #[] 0 (.fresh 0 0 led) }).get? l = some { cls := .type "list", dict := odict, data := .seq items nl, slots := oslots } := Heap.get?_push_of_some _ hol
    have hsls := F.sub_list_set
    have hslf := F.sub_list_frozenset
    have hne : (Value.type "list" == Value.type "dict") = false := by decide
    have hl1 : (s.heap.push { cls := .type "set", dict := none, data := .set #[] 0 (.fresh 0 0 led) }).IsList l items := ⟨_, hol', rfl, nl, rfl⟩
    unfold Builtin.«set.__init__» noKeywords Builtin.Frozenset.updateFrom
    generalize hPI : pyIter = PI
    wp_walk
    subst hPI
    refine wpAny_pyIter_list hl1 ?_
    refine wpAny_bind (wpAny_runValue ?_)
    have hlS : l < s.heap.objs.size := Heap.lt_size hol
    have hh3 : A.in1.in1.in1.handled = none := by simp [hh]
    have hneI : l ≠ (s.heap.push { cls := .type "set", dict := none, data := .set #[] 0 (.fresh 0 0 led) }).objs.size := by
     rw [Heap.size_push]; exact Nat.ne_of_lt (Nat.lt_succ_of_lt hlS)
    have hSf : s.heap.objs.size ∉ [(s.heap.push { cls := .type "set", dict := none, data := .set #[] 0 (.fresh 0 0 led) }).objs.size, l] := by
     rw [Heap.size_push]; simp only [List.mem_cons, List.mem_singleton, List.not_mem_nil, or_false, not_or]
     exact ⟨Nat.ne_of_lt (Nat.lt_succ_self _), Nat.ne_of_gt hlS⟩
    refine zft ((Walks.list hh3 _ l hneI items).toS) s.heap.objs.size hSf J (fun i h h' j k => hJ i h h' j fun b o hb e => k b o (by rw [Heap.size_push]; exact fun z => absurd (List.mem_singleton.mp z) (Nat.ne_of_lt (Nat.lt_succ_of_le hb))) e) (fun i s1 v Q E hi hp j k => hadd i _ s1 v Q E (by simp only [Around.in1_units]; omega) hp j k) (items.size - 0) 0 _ (by omega) (Nat.zero_le _)
     ⟨⟨_, Heap.get?_push_size _ rfl, rfl, rfl⟩, (hl1.push _)⟩ (hJ _ _ _ h0 fun b o hb e => Heap.get?_push_of_some _ e) ?hR
    case hR =>
     intro s' hm hS'
     obtain ⟨h', g', d', tk', os'⟩ := s'
     have eg : g' = s.gens := hm.gens
     have ed : d' = s.drawn := hm.drawn
     have eo : os' = s.os := hm.os
     subst eg; subst ed; subst eo
     show wpAny _ _ _ _ _ _
     refine wpAny_pure ?_
     show wpAny _ _ (ret Value.none) _ _ _
     refine wpAny_pure ⟨rfl, h', tk', rfl, hS', fun b o hb e => ?_⟩
     have hb1 : b ≠ s.heap.objs.size := Nat.ne_of_lt hb
     have hb2 : b ≠ (s.heap.push { cls := .type "set", dict := none, data := .set #[] 0 (.fresh 0 0 led) }).objs.size := by
      rw [Heap.size_push]; exact Nat.ne_of_lt (Nat.lt_succ_of_lt hb)
     exact hm.heap b o (by simp only [List.mem_cons, List.mem_singleton, List.not_mem_nil, or_false, not_or]; exact ⟨hb1, hb2⟩) (Heap.get?_push_of_some _ (Heap.get?_push_of_some _ e))
   ·cases r₂ with
    | error e => exact hr₂
    | ok fl₂ =>
     cases fl₂ with
     | ret r =>
      obtain ⟨rfl, h', tk, rfl, hS', hk'⟩ := hr₂
      repeat (any_goals (first | assumption | wp_step))
      exact h _ _ hS' hk'
     | _ => exact hr₂.elim
  | _ => exact hr.elim
end
end STb
open PySem PySem.Spec PyProof.Rows STb
/-- a set of n things at a -/
def SetN (a : Addr) (n : Nat) : HO := .ext fun h => ∃ es ep t, h.get? a = some (SObj es ep t) ∧ t.fits es.size = true ∧ es.size = n
section
variable {X : Cx}
theorem call_lenSet : zbr X (.builtin "len") (fun xs H Q => ∃ a n, xs = [.ref a] ∧ H a = some (SetN a n) ∧ n ≤ 1000 ∧ Q (.int n) H) := by
 intro pins s σ H xs us Q I r h
 obtain ⟨a, n, rfl, ha, n1, q⟩ := h
 obtain ⟨u, rfl, ru⟩ := zct r
 cases ru
 obtain ⟨⟨es, ep, t, hg, hf, hn⟩, _, _⟩ := I.hok a _ ha
 subst hn
 refine call_len_set hg ⟨rfl, rfl, rfl⟩ rfl hf (by omega) ⟨.int es.size, H, I.tok _, ⟨_, rfl⟩, q⟩
/-- set(l), the tuples of l all apart -/
theorem zc4 (hc : X.calm = true) (hu : X.A.units + 64 < cLine) : zbr X (.type "set") (fun xs H Q => ∃ (l : Addr) (as : List Addr) (ks : List (List Key)), xs = [.ref l] ∧ H l = some (.lst (as.map V.ref)) ∧ as.length = ks.length ∧ (∀ (i : Nat) (b : Addr) (k : List Key), as[i]? = some b → ks[i]? = some k → H b = some (.tup (k.map kV))) ∧ ks.Nodup ∧ ks.length ≤ 1000 ∧
  ∀ a : Addr, H a = none → Q (.ref a) (upd H a (SetN a ks.length))) := by
 intro pins s σ H xs us Q I r h
 obtain ⟨l, as, ks, rfl, hl, la, hat, nd, n1, q⟩ := h
 obtain ⟨u, rfl, ru⟩ := zct r
 cases ru
 obtain ⟨its, rv, p, hz⟩ := I.list (.of hl)
 have lits : its.length = ks.length := by rw [← rv.length, List.length_map, la]
 have iat : ∀ (i : Nat) (v : Value), its[i]? = some v → ∃ b k, as[i]? = some b ∧ ks[i]? = some k ∧ v = .ref b := fun i v hv => by
  have il := (List.getElem?_eq_some_iff.mp hv).1
  have h1 := List.getElem?_eq_getElem (l := as) (i := i) (by omega)
  have h2 := List.getElem?_eq_getElem (l := ks) (i := i) (by omega)
  obtain ⟨u, hu2, ru⟩ := rv.get (i := i) (x := .ref (as[i]'(by omega))) (by rw [List.getElem?_map, h1]; rfl)
  rw [hv] at hu2
  cases hu2
  exact ⟨_, _, h1, h2, ru⟩
 have bl : ∀ b ∈ as, ∀ k, H b = some (.tup k) → b < s.heap.objs.size := fun b _ k hb => (I.hok b _ hb).lt
 refine zdM (items := its.toArray)
  (fun i h => ∃ es ep t, SetT X.prog X.w h s.heap.objs.size es ep t ((ks.zip as).take i) ∧ ∀ (j : Nat) (b : Addr) (k : List Key), as[j]? = some b → ks[j]? = some k → (tupleKind (zai X.prog X.w)).is h k b)
  (I.ok.hd hc) p.isList ⟨#[], 0, .fresh 0 0 _, ⟨Heap.get?_push_size _ rfl, zgS _, fun e he => by simp at he, fun x hx => by simp at hx, by simp⟩, fun j b k h1 h2 => ?_⟩ (fun i h h' j k => ?_) (fun i B s1 v Q E hB hv j k => ?_) fun h' tk j hk => ?_
 ·obtain ⟨o, items, n, e1, e2, e3, e4⟩ := (show IsTupleKey (zai X.prog X.w) s.heap k b from zbU I.hok (hat j b k h1 h2))
  exact ⟨o, items, n, Heap.get?_push_of_some _ e1, e2, e3, e4⟩
 ·obtain ⟨es, ep, t, x, y⟩ := j
  have kp : ∀ (b : Addr) (kk : List Key), b ∈ as → (tupleKind (zai X.prog X.w)).is h kk b → (tupleKind (zai X.prog X.w)).is h' kk b := fun b kk mb hb => by
   obtain ⟨o, items, n, e1, e2, e3, e4⟩ := (show IsTupleKey (zai X.prog X.w) h kk b from hb)
   obtain ⟨jj, hj⟩ := List.mem_iff_getElem?.mp mb
   have h2 := List.getElem?_eq_getElem (l := ks) (i := jj) (by have := (List.getElem?_eq_some_iff.mp hj).1; omega)
   exact ⟨o, items, n, k b o (Nat.le_of_lt (bl b mb _ (hat jj b _ hj h2))) e1, e2, e3, e4⟩
  exact ⟨es, ep, t, ⟨k _ _ (Nat.le_refl _) x.ob, x.ok, x.all, fun z hz => kp z.2 z.1 (List.of_mem_zip (List.mem_of_mem_take hz)).2 (x.is z hz), x.len⟩, fun j b kk h1 h2 => kp b kk (List.mem_of_getElem? h1) (y j b kk h1 h2)⟩
 ·obtain ⟨es, ep, t, x, y⟩ := j
  rw [List.getElem?_toArray] at hv
  obtain ⟨b, kk, h1, h2, rfl⟩ := iat i v hv
  have il := (List.getElem?_eq_some_iff.mp h2).1
  have hz : (ks.zip as)[i]? = some (kk, b) := by rw [List.getElem?_zip_eq_some]; exact ⟨h2, h1⟩
  have tk1 : (ks.zip as).take (i + 1) = (ks.zip as).take i ++ [(kk, b)] := by rw [List.take_succ, hz]; rfl
  refine zhj (by omega) x (y i b kk h1 h2) (fun z hz e => ?_) (by rw [List.length_take]; omega) fun h' es' ep' t' sb x' tk htk => k _ _ _ sb ⟨es', ep', t', by rw [tk1]; exact x', fun j b2 k2 g1 g2 => zgJ x.ob sb (y j b2 k2 g1 g2)⟩ htk
  ·obtain ⟨m, hm⟩ := List.mem_iff_getElem?.mp hz
   have ml := (List.getElem?_eq_some_iff.mp hm).1
   rw [List.length_take] at ml
   rw [List.getElem?_take_of_lt (by omega), List.getElem?_zip_eq_some] at hm
   have hm1 := hm.1
   rw [e] at hm1
   obtain ⟨i1, e1⟩ := List.getElem?_eq_some_iff.mp hm1
   obtain ⟨j1, e2⟩ := List.getElem?_eq_some_iff.mp h2
   exact absurd (e1.trans e2.symm) (List.pairwise_iff_getElem.mp nd m i i1 j1 (by omega))
 ·obtain ⟨es, ep, t, x, y⟩ := j
  have en : es.size = ks.length := by
   rw [x.len, List.length_take, List.length_zip, List.size_toArray]; omega
  refine ⟨.ref s.heap.objs.size, _, I.laid (t' := tk) (o := SetN s.heap.objs.size ks.length) (fun b u e => hk b u (Heap.lt_size e) e) (Nat.le_refl _) ?_, rfl, q _ (I.hok.fresh (Nat.le_refl _))⟩
  exact ⟨⟨es, ep, t, x.ob, x.ok.fits, en⟩, ⟨_, x.ob⟩, fun ha hb ⟨es, ep, t, h1, r⟩ k => ⟨es, ep, t, k _ h1, r⟩⟩
end
end L2
set_option Elab.async false
set_option linter.all false
set_option maxRecDepth 100000
namespace L2
open PySem PySem.Spec PyProof.Rows
def zd9 (tk tv : TE) : TE := fun σ H Q => ∀ p, H p = none → tPairs [(tk, tv)] σ (upd H p (.dT [])) fun ps H2 => ∃ (vx : V) (b : Addr) (k : List Key), ps = [(.ref b, vx)] ∧ H2 b = some (.tup (k.map kV)) ∧ H2 p = some (.dT []) ∧ Q (.ref p) (upd H2 p (.dT [(k, vx)]))
theorem zfh {X : Cx} {pos : Pos} {ek ev : Expr} {tk tv : TE} (hu : X.A.units + 1 < cLine) (hk : PE X ek tk) (hv : PE X ev tv) : PE X (.Dict [some ek] [ev] pos) (zd9 tk tv) := by
 intro pins s σ H Q I q
 have hn := I.hok.fresh (Nat.le_refl s.heap.objs.size)
 have I1 := I.laid (a := s.heap.objs.size) (o := .dT []) (h' := s.heap.push { cls := .type "dict", data := .dict #[] }) (t' := s.toks) (fun _ _ q => Heap.get?_push_of_some _ q) (Nat.le_refl _) (zeh s.heap I.big)
 have h0 : pairTrees [some ek] [ev] X.env pos ≠ [] := fun z => by have := congrArg List.length z; rw [pairTrees_length _ _ _ _ rfl rfl] at this; cases this
 rw [arm_eval_Dict, zip_pairTrees _ _ X.env pos rfl rfl, dictDisplay_pairs _ h0 (by rw [pairTrees_length _ _ _ _ rfl rfl]; simp)]
 refine wpAny_bind (wpAny_standAt (wpAny_bind ?_))
 unfold subDict
 refine wpAny_bind (wpAny_alloc ?_)
 refine wpAny_bind (wpAny_holding ?_)
 rw [if_pos (by rw [pairTrees_length _ _ _ _ rfl rfl]; simp)]
 have pp : PPs X pos [some ek] [ev] [(tk, tv)] := zau hk hv zbf
 refine wpAny_bind (thn (pp pins _ σ _ _ I1 (q _ hn)) fun ws s2 ⟨ps, H2, I2, rel, vx, b, k, e1, e3, e4, q2⟩ => ?_)
 ·subst e1
  cases rel with
  | @cons a0 b0 as bs h t =>
   cases t
   obtain ⟨b1, b2⟩ := b0
   cases (show b1 = Value.ref b from h.1)
   refine wpAny_holding ?_
   rw [List.forIn_cons]
   obtain ⟨z, hd, xs, rl, dd⟩ := ziw I2.hok e4
   cases rl
   refine wpAny_bind (wpAny_bind (wpAny_bind (wpAny_dictSet_heap (hsz := Nat.zero_le _) (show (tupleKind (zai X.prog X.w)).room X.A from Nat.lt_of_succ_lt hu) (zbU I2.hok e3) dd fun h' dd' hs => ?_)))
   refine wpAny_pure ?_
   dsimp only
   rw [List.forIn_nil]
   refine wpAny_pure (wpAny_pure (wpAny_pure (wpAny_pure ⟨.ref s.heap.objs.size, _, ?_, rfl, q2⟩)))
   obtain ⟨qq, es, ep, hq, h2, h3, h4, _, h5⟩ := dd'
   refine zcb I2 (by rw [e4]; exact True.intro) hs ⟨qq, hq⟩ ⟨by rw [sizeLine_eq]; simp, hd, _, ?_, qq, es, ep, hq, h2, h3, h4, h5⟩
   have e5 : storedH ([] : List (List Key × Addr × Value)) k b b2 = [(k, b, b2)] := rfl
   rw [e5]
   refine .cons ⟨rfl, ?_, h.2⟩ .nil
   rw [zaj (ziq e3 e4 (fun z => nomatch z))]
   exact e3
end L2
set_option Elab.async false
set_option linter.all false
set_option maxRecDepth 100000
namespace Law
open PySem L2
local macro_rules | `(tactic| simp! [$ls,*]) => `(tactic| simp only [tSeq, tAsg, za2, tVar, tC, tOp, tUn, rI0, rI, rU, tCB, zcD, tNil, tRet, tRetN, tIfS, zh5, tB, tAnd, tOr, tNot, zio, tOrV, zix, tIf, zcX, tNext, zhq, tMeth, tIsN, zhX, L2.start, List.map_cons, List.map_nil, List.length_cons, List.length_nil, List.nil_append, List.cons_append, List.append_nil, Nat.reduceAdd, Nat.reduceSub, Nat.sub_self, List.replicate_succ, List.replicate_zero, List.set_cons_zero, List.set_cons_succ, List.getElem?_cons_zero, List.getElem?_cons_succ, Option.some.injEq, V.int.injEq, V.bl.injEq, V.str.injEq, V.ref.injEq, List.cons.injEq, exists_eq_left', exists_eq_left, exists_and_left, and_true, true_and, if_true, if_false, ite_true, ite_false, Bool.true_eq_false, Bool.false_eq_true, decide_eq_true_eq, Bool.not_true, Bool.not_false, Bool.not_eq_true', decide_eq_false_iff_not, reduceCtorEq, false_and, and_false, exists_false, tTup, tLst, sizeLine_eq, Nat.reduceLeDiff, Nat.zero_le, rEq, rNe, rIxF, rEqF, gSub, rSetL, HO.lst.injEq, HO.tup.injEq, HO.ins.injEq, HO.dK.injEq, zgp, zhL, zgb, zhM, zhx, ziK, zhV, zhS, zgP, zht, zgf, zhp, zhQ, zhG, zh4, zdd, zgZ, zgi, zgM, zf7, zgF, zfI, zfD, zfS, isTys, and_assoc, zda, zbu, zeQ, zeE, atI_4, zaa, V.ty.injEq, eq_self_iff_true, and_self, String.reduceEq, or_false, or_true, false_or, true_or, Bool.or_true, Bool.or_false, Bool.true_or, Bool.false_or, Bool.and_false, Bool.false_and, Bool.and_true, Bool.true_and, String.reduceBEq, beq_self_eq_true, zg6, tDInF, zf8, zib, zfH, zfe, sFld, tFld, tDNewK, ziD, ziy, EX, tFstr, tMake, ziv, Nat.reduceLT, Option.join_some, Option.join_none, not_true_eq_false, not_false_eq_true, zh1, gNil, ziu, rEqE, tAug, ipI, $ls,*])
def kd_WRITERS : PyData := .tuple [.str "put", .str "nil", .str "copy", .str "plus", .str "less", .str "make", .str "fetch", .str "read", .str "into", .str "look", .str "call"]
def kd_USES : PyData := .dict [(.str "put", .tuple []), (.str "nil", .tuple []), (.str "copy", .tuple []), (.str "plus", .tuple [.tuple [.int (2), .str "n"], .tuple [.int (3), .str "n"]]), (.str "less", .tuple [.tuple [.int (2), .str "n"], .tuple [.int (3), .str "n"]]), (.str "make", .tuple []), (.str "fetch", .tuple [.tuple [.int (2), .str "h"]]), (.str "read", .tuple [.tuple [.int (2), .str "h"]]), (.str "hang", .tuple [.tuple [.int (1), .str "h"], .tuple [.int (3), .str "h"]]), (.str "write", .tuple [.tuple [.int (1), .str "h"], .tuple [.int (3), .str "n"]]), (.str "into", .tuple [.tuple [.int (2), .str "h"]]), (.str "jump", .tuple []), (.str "zero", .tuple [.tuple [.int (1), .str "n"]]), (.str "none", .tuple [.tuple [.int (1), .str "h"]]), (.str "same", .tuple [.tuple [.int (1), .str "h"], .tuple [.int (2), .str "h"]]), (.str "tell", .tuple [.tuple [.int (1), .str "n"]]), (.str "rest", .tuple [])]
def top (i : Nat) : Stmt := PySem.Challenge.pw_knownholds_k42_whole_ways_to_uses.main.body.getD i (.Pass ⟨0, 0, 0, 0⟩)
abbrev s_nexts : Stmt := top 4
abbrev s_uses : Stmt := top 5
abbrev s_writes : Stmt := top 6
abbrev s_places_of : Stmt := top 7
abbrev s_source : Stmt := top 9
abbrev s_used_pairs : Stmt := top 10
abbrev s_befores : Stmt := top 11
abbrev s_steps_to_uses : Stmt := top 12
abbrev s_needed_at : Stmt := top 13
abbrev s_needed : Stmt := top 14
abbrev s_use_way : Stmt := top 15
abbrev s_law_bag : Stmt := top 17
abbrev s_law_draw : Stmt := top 18
abbrev s_law_more : Stmt := top 19
abbrev s_law_whole : Stmt := top 20
abbrev s_law_part : Stmt := top 21
abbrev s_law_row : Stmt := top 22
abbrev s_law_def : Stmt := top 23
abbrev s_law_any : Stmt := top 24
abbrev s_law_nexts : Stmt := top 25
abbrev s_law_writes : Stmt := top 26
abbrev s_law_uses : Stmt := top 27
abbrev s_law_travelled : Stmt := top 28
abbrev s_law_used : Stmt := top 29
abbrev s_law_comes : Stmt := top 30
abbrev s_law_walked : Stmt := top 31
abbrev s_law : Stmt := top 32
set_option genInjectivity false in
set_option genSizeOf false in
structure Ad where
 f_nexts : Addr
 d_nexts : FuncData
 f_uses : Addr
 d_uses : FuncData
 f_writes : Addr
 d_writes : FuncData
 f_places_of : Addr
 d_places_of : FuncData
 f_source : Addr
 d_source : FuncData
 f_used_pairs : Addr
 d_used_pairs : FuncData
 f_befores : Addr
 d_befores : FuncData
 f_steps_to_uses : Addr
 d_steps_to_uses : FuncData
 f_needed_at : Addr
 d_needed_at : FuncData
 f_needed : Addr
 d_needed : FuncData
 f_use_way : Addr
 d_use_way : FuncData
 f_law_bag : Addr
 d_law_bag : FuncData
 f_law_draw : Addr
 d_law_draw : FuncData
 f_law_more : Addr
 d_law_more : FuncData
 f_law_whole : Addr
 d_law_whole : FuncData
 f_law_part : Addr
 d_law_part : FuncData
 f_law_row : Addr
 d_law_row : FuncData
 f_law_def : Addr
 d_law_def : FuncData
 f_law_any : Addr
 d_law_any : FuncData
 f_law_nexts : Addr
 d_law_nexts : FuncData
 f_law_writes : Addr
 d_law_writes : FuncData
 f_law_uses : Addr
 d_law_uses : FuncData
 f_law_travelled : Addr
 d_law_travelled : FuncData
 f_law_used : Addr
 d_law_used : FuncData
 f_law_comes : Addr
 d_law_comes : FuncData
 f_law_walked : Addr
 d_law_walked : FuncData
 f_law : Addr
 d_law : FuncData
 t_BOXES : Nat
 g_USES : Addr
 g_WRITERS : Addr
structure Txt (K : PySem.W.Frag) (mg : Str → Option Value) (a : Ad) : Prop where
 F_nexts : Fun K "nexts" "nexts" s_nexts a.f_nexts a.d_nexts
 b_nexts : zaQ K a.d_nexts ["rows", "at"] []
 m_nexts : mg "nexts" = some (.ref a.f_nexts)
 F_uses : Fun K "uses" "uses" s_uses a.f_uses a.d_uses
 b_uses : zaQ K a.d_uses ["program", "f", "row"] []
 m_uses : mg "uses" = some (.ref a.f_uses)
 F_writes : Fun K "writes" "writes" s_writes a.f_writes a.d_writes
 b_writes : zaQ K a.d_writes ["row"] []
 m_writes : mg "writes" = some (.ref a.f_writes)
 F_places_of : Fun K "places_of" "places_of" s_places_of a.f_places_of a.d_places_of
 b_places_of : zaQ K a.d_places_of ["program", "f"] []
 m_places_of : mg "places_of" = some (.ref a.f_places_of)
 F_source : Fun K "source" "source" s_source a.f_source a.d_source
 b_source : zaQ K a.d_source ["row", "p"] []
 m_source : mg "source" = some (.ref a.f_source)
 F_used_pairs : Fun K "used_pairs" "used_pairs" s_used_pairs a.f_used_pairs a.d_used_pairs
 b_used_pairs : zaQ K a.d_used_pairs ["program", "f"] []
 m_used_pairs : mg "used_pairs" = some (.ref a.f_used_pairs)
 F_befores : Fun K "befores" "befores" s_befores a.f_befores a.d_befores
 b_befores : zaQ K a.d_befores ["rows"] []
 m_befores : mg "befores" = some (.ref a.f_befores)
 F_steps_to_uses : Fun K "steps_to_uses" "steps_to_uses" s_steps_to_uses a.f_steps_to_uses a.d_steps_to_uses
 b_steps_to_uses : zaQ K a.d_steps_to_uses ["program", "f"] []
 m_steps_to_uses : mg "steps_to_uses" = some (.ref a.f_steps_to_uses)
 F_needed_at : Fun K "needed_at" "needed_at" s_needed_at a.f_needed_at a.d_needed_at
 b_needed_at : zaQ K a.d_needed_at ["steps", "at", "places"] []
 m_needed_at : mg "needed_at" = some (.ref a.f_needed_at)
 F_needed : Fun K "needed" "needed" s_needed a.f_needed a.d_needed
 b_needed : zaQ K a.d_needed ["program", "f"] []
 m_needed : mg "needed" = some (.ref a.f_needed)
 F_use_way : Fun K "use_way" "use_way" s_use_way a.f_use_way a.d_use_way
 b_use_way : zaQ K a.d_use_way ["program", "f", "at", "p"] []
 m_use_way : mg "use_way" = some (.ref a.f_use_way)
 F_law_bag : Fun K "_law_bag" "_law_bag" s_law_bag a.f_law_bag a.d_law_bag
 b_law_bag : zaQ K a.d_law_bag ["script"] []
 m_law_bag : mg "_law_bag" = some (.ref a.f_law_bag)
 F_law_draw : Fun K "_law_draw" "_law_draw" s_law_draw a.f_law_draw a.d_law_draw
 b_law_draw : zaQ K a.d_law_draw ["bag", "many"] []
 m_law_draw : mg "_law_draw" = some (.ref a.f_law_draw)
 F_law_more : Fun K "_law_more" "_law_more" s_law_more a.f_law_more a.d_law_more
 b_law_more : zaQ K a.d_law_more ["bag"] []
 m_law_more : mg "_law_more" = some (.ref a.f_law_more)
 F_law_whole : Fun K "_law_whole" "_law_whole" s_law_whole a.f_law_whole a.d_law_whole
 b_law_whole : zaQ K a.d_law_whole ["found"] []
 m_law_whole : mg "_law_whole" = some (.ref a.f_law_whole)
 F_law_part : Fun K "_law_part" "_law_part" s_law_part a.f_law_part a.d_law_part
 b_law_part : zaQ K a.d_law_part ["bag", "letter", "low", "near", "size"] []
 m_law_part : mg "_law_part" = some (.ref a.f_law_part)
 F_law_row : Fun K "_law_row" "_law_row" s_law_row a.f_law_row a.d_law_row
 b_law_row : zaQ K a.d_law_row ["bag", "signs", "low", "near", "size"] []
 m_law_row : mg "_law_row" = some (.ref a.f_law_row)
 F_law_def : Fun K "_law_def" "_law_def" s_law_def a.f_law_def a.d_law_def
 b_law_def : zaQ K a.d_law_def ["bag", "signs", "sign"] []
 m_law_def : mg "_law_def" = some (.ref a.f_law_def)
 F_law_any : Fun K "_law_any" "_law_any" s_law_any a.f_law_any a.d_law_any
 b_law_any : zaQ K a.d_law_any ["bag"] []
 m_law_any : mg "_law_any" = some (.ref a.f_law_any)
 F_law_nexts : Fun K "_law_nexts" "_law_nexts" s_law_nexts a.f_law_nexts a.d_law_nexts
 b_law_nexts : zaQ K a.d_law_nexts ["rows", "at"] []
 m_law_nexts : mg "_law_nexts" = some (.ref a.f_law_nexts)
 F_law_writes : Fun K "_law_writes" "_law_writes" s_law_writes a.f_law_writes a.d_law_writes
 b_law_writes : zaQ K a.d_law_writes ["row"] []
 m_law_writes : mg "_law_writes" = some (.ref a.f_law_writes)
 F_law_uses : Fun K "_law_uses" "_law_uses" s_law_uses a.f_law_uses a.d_law_uses
 b_law_uses : zaQ K a.d_law_uses ["program", "f", "row"] []
 m_law_uses : mg "_law_uses" = some (.ref a.f_law_uses)
 F_law_travelled : Fun K "_law_travelled" "_law_travelled" s_law_travelled a.f_law_travelled a.d_law_travelled
 b_law_travelled : zaQ K a.d_law_travelled ["row", "p"] []
 m_law_travelled : mg "_law_travelled" = some (.ref a.f_law_travelled)
 F_law_used : Fun K "_law_used" "_law_used" s_law_used a.f_law_used a.d_law_used
 b_law_used : zaQ K a.d_law_used ["program", "f", "at", "p"] []
 m_law_used : mg "_law_used" = some (.ref a.f_law_used)
 F_law_comes : Fun K "_law_comes" "_law_comes" s_law_comes a.f_law_comes a.d_law_comes
 b_law_comes : zaQ K a.d_law_comes ["program", "f", "at", "p"] []
 m_law_comes : mg "_law_comes" = some (.ref a.f_law_comes)
 F_law_walked : Fun K "_law_walked" "_law_walked" s_law_walked a.f_law_walked a.d_law_walked
 b_law_walked : zaQ K a.d_law_walked ["program", "f", "at", "p", "way"] []
 m_law_walked : mg "_law_walked" = some (.ref a.f_law_walked)
 F_law : Fun K "law" "law" s_law a.f_law a.d_law
 b_law : zaQ K a.d_law ["script"] []
 m_law : mg "law" = some (.ref a.f_law)
 z_abs : mg "abs" = none
 z_bool : mg "bool" = none
 z_enumerate : mg "enumerate" = none
 z_int : mg "int" = none
 z_isinstance : mg "isinstance" = none
 z_len : mg "len" = none
 z_list : mg "list" = none
 z_range : mg "range" = none
 z_set : mg "set" = none
 z_sorted : mg "sorted" = none
 z_tuple : mg "tuple" = none
 z_zip : mg "zip" = none
 m_BOXES : mg "BOXES" = some (.int (8) a.t_BOXES)
 m_USES : mg "USES" = some (.ref a.g_USES)
 k_USES : rdK K 6 (.ref a.g_USES) = some kd_USES
 m_WRITERS : mg "WRITERS" = some (.ref a.g_WRITERS)
 k_WRITERS : rdK K 6 (.ref a.g_WRITERS) = some kd_WRITERS
theorem sc_nexts : FnScope ["rows", "at", "row"] ["rows", "at"] (zas s_nexts) := ⟨rfl, rfl, rfl, by decide +kernel, rfl, by decide +kernel, by decide +kernel⟩
theorem sc_uses : FnScope ["program", "f", "row", "word"] ["program", "f", "row"] (zas s_uses) := ⟨rfl, rfl, rfl, by decide +kernel, rfl, by decide +kernel, by decide +kernel⟩
theorem sc_writes : FnScope ["row"] ["row"] (zas s_writes) := ⟨rfl, rfl, rfl, by decide +kernel, rfl, by decide +kernel, by decide +kernel⟩
theorem sc_places_of : FnScope ["program", "f"] ["program", "f"] (zas s_places_of) := ⟨rfl, rfl, rfl, by decide +kernel, rfl, by decide +kernel, by decide +kernel⟩
theorem sc_source : FnScope ["row", "p"] ["row", "p"] (zas s_source) := ⟨rfl, rfl, rfl, by decide +kernel, rfl, by decide +kernel, by decide +kernel⟩
theorem sc_used_pairs : FnScope ["program", "f", "pairs", "at", "row"] ["program", "f"] (zas s_used_pairs) := ⟨rfl, rfl, rfl, by decide +kernel, rfl, by decide +kernel, by decide +kernel⟩
theorem sc_befores : FnScope ["rows", "found", "at", "t"] ["rows"] (zas s_befores) := ⟨rfl, rfl, rfl, by decide +kernel, rfl, by decide +kernel, by decide +kernel⟩
theorem sc_steps_to_uses : FnScope ["program", "f", "rows", "ahead", "steps", "pair", "todo", "met", "at", "p", "pairs"] ["program", "f"] (zas s_steps_to_uses) := ⟨rfl, rfl, rfl, by decide +kernel, rfl, by decide +kernel, by decide +kernel⟩
theorem sc_needed_at : FnScope ["steps", "at", "places"] ["steps", "at", "places"] (zas s_needed_at) := ⟨rfl, rfl, rfl, by decide +kernel, rfl, by decide +kernel, by decide +kernel⟩
theorem sc_needed : FnScope ["program", "f", "steps"] ["program", "f"] (zas s_needed) := ⟨rfl, rfl, rfl, by decide +kernel, rfl, by decide +kernel, by decide +kernel⟩
theorem sc_use_way : FnScope ["program", "f", "at", "p", "steps", "way"] ["program", "f", "at", "p"] (zas s_use_way) := ⟨rfl, rfl, rfl, by decide +kernel, rfl, by decide +kernel, by decide +kernel⟩
theorem sc_law_bag : FnScope ["script", "stir", "cell"] ["script"] (zas s_law_bag) := ⟨rfl, rfl, rfl, by decide +kernel, rfl, by decide +kernel, by decide +kernel⟩
theorem sc_law_draw : FnScope ["bag", "many", "found"] ["bag", "many"] (zas s_law_draw) := ⟨rfl, rfl, rfl, by decide +kernel, rfl, by decide +kernel, by decide +kernel⟩
theorem sc_law_more : FnScope ["bag"] ["bag"] (zas s_law_more) := ⟨rfl, rfl, rfl, by decide +kernel, rfl, by decide +kernel, by decide +kernel⟩
theorem sc_law_whole : FnScope ["found"] ["found"] (zas s_law_whole) := ⟨rfl, rfl, rfl, by decide +kernel, rfl, by decide +kernel, by decide +kernel⟩
theorem sc_law_part : FnScope ["bag", "letter", "low", "near", "size"] ["bag", "letter", "low", "near", "size"] (zas s_law_part) := ⟨rfl, rfl, rfl, by decide +kernel, rfl, by decide +kernel, by decide +kernel⟩
theorem sc_law_row : FnScope ["bag", "signs", "low", "near", "size", "some", "word", "row", "letter", "f", "places"] ["bag", "signs", "low", "near", "size"] (zas s_law_row) := ⟨rfl, rfl, rfl, by decide +kernel, rfl, by decide +kernel, by decide +kernel⟩
theorem sc_law_def : FnScope ["bag", "signs", "sign", "words", "many", "low", "near", "rows", "last"] ["bag", "signs", "sign"] (zas s_law_def) := ⟨rfl, rfl, rfl, by decide +kernel, rfl, by decide +kernel, by decide +kernel⟩
theorem sc_law_any : FnScope ["bag", "signs", "k", "letters"] ["bag"] (zas s_law_any) := ⟨rfl, rfl, rfl, by decide +kernel, rfl, by decide +kernel, by decide +kernel⟩
theorem sc_law_nexts : FnScope ["rows", "at"] ["rows", "at"] (zas s_law_nexts) := ⟨rfl, rfl, rfl, by decide +kernel, rfl, by decide +kernel, by decide +kernel⟩
theorem sc_law_writes : FnScope ["row"] ["row"] (zas s_law_writes) := ⟨rfl, rfl, rfl, by decide +kernel, rfl, by decide +kernel, by decide +kernel⟩
theorem sc_law_uses : FnScope ["program", "f", "row", "some"] ["program", "f", "row"] (zas s_law_uses) := ⟨rfl, rfl, rfl, by decide +kernel, rfl, by decide +kernel, by decide +kernel⟩
theorem sc_law_travelled : FnScope ["row", "p", "found"] ["row", "p"] (zas s_law_travelled) := ⟨rfl, rfl, rfl, by decide +kernel, rfl, by decide +kernel, by decide +kernel⟩
theorem sc_law_used : FnScope ["program", "f", "at", "p"] ["program", "f", "at", "p"] (zas s_law_used) := ⟨rfl, rfl, rfl, by decide +kernel, rfl, by decide +kernel, by decide +kernel⟩
theorem sc_law_comes : FnScope ["program", "f", "at", "p", "rows", "seen", "todo", "here", "place", "there", "other"] ["program", "f", "at", "p"] (zas s_law_comes) := ⟨rfl, rfl, rfl, by decide +kernel, rfl, by decide +kernel, by decide +kernel⟩
theorem sc_law_walked : FnScope ["program", "f", "at", "p", "way", "rows", "pair", "one", "other"] ["program", "f", "at", "p", "way"] (zas s_law_walked) := ⟨rfl, rfl, rfl, by decide +kernel, rfl, by decide +kernel, by decide +kernel⟩
theorem sc_law : FnScope ["script", "bag", "program", "kept", "told", "k", "f", "at", "p", "some", "due", "way"] ["script"] (zas s_law) := ⟨rfl, rfl, rfl, by decide +kernel, rfl, by decide +kernel, by decide +kernel⟩
section
variable {P : Program} {w : World} {K : PySem.W.Frag} {mg : Str → Option Value} {base : Heap} {a : Ad}
structure BagOk (cs : List Int) (i v st n : Int) : Prop where
 i0 : 0 ≤ i
 i1 : i ≤ cs.length
 v0 : 0 ≤ v
 s0 : 0 ≤ st
 s1 : st < 2147483647
 n0 : 0 ≤ n
def bagL (c : Addr) (i v st n : Int) : List V := [.ref c, .int i, .int v, .int st, .int n]
structure BagAt (H : Hp) (b c : Addr) (cs : List Int) : Prop where
 ex : ∃ i v st n, H b = some (.lst (bagL c i v st n)) ∧ BagOk cs i v st n
 at_ : H c = some (.lst (cs.map V.int))
 ne : c ≠ b
 pos : ∀ z ∈ cs, 0 ≤ z
 len : cs.length ≤ 63
/-- all but b is as it was -/
def Kp (b : Addr) (H H' : Hp) : Prop := ∀ q o, H q = some o → q ≠ b → H' q = some o
theorem Kp.refl {b : Addr} {H : Hp} : Kp b H H := fun _ _ h _ => h
theorem Kp.trans {b : Addr} {H H1 H2 : Hp} (x : Kp b H H1) (y : Kp b H1 H2) : Kp b H H2 := fun q o h n => y q o (x q o h n) n
theorem Kp.laid {b p : Addr} {H H1 : Hp} {u : HO} (x : Kp b H H1) (hp : H1 p = none) : Kp b H (upd H1 p u) := fun q o h n => zab (x q o h n) hp
theorem Kp.at_ {b : Addr} {H : Hp} {u : HO} : Kp b H (upd H b u) := fun q o h n => by rw [zaj n]; exact h
theorem BagAt.laid {H : Hp} {b c p : Addr} {cs : List Int} {u : HO} (x : BagAt H b c cs) (hp : H p = none) : BagAt (upd H p u) b c cs := by
 obtain ⟨⟨i, v, st, n, e, k⟩, h2, ne, pos, len⟩ := x
 exact ⟨⟨i, v, st, n, zab e hp, k⟩, zab h2 hp, ne, pos, len⟩
theorem BagAt.other {H : Hp} {b c p : Addr} {cs : List Int} {u : HO} (x : BagAt H b c cs) (h1 : p ≠ b) (h2 : p ≠ c) : BagAt (upd H p u) b c cs := by
 obtain ⟨⟨i, v, st, n, e, k⟩, h3, ne, pos, len⟩ := x
 exact ⟨⟨i, v, st, n, by rw [zaj h1.symm]; exact e, k⟩, by rw [zaj h2.symm]; exact h3, ne, pos, len⟩
theorem BagAt.keep {H H' : Hp} {b c : Addr} {cs : List Int} (x : BagAt H b c cs) (hs : ∀ q o, H q = some o → H' q = some o) : BagAt H' b c cs := by
 obtain ⟨⟨i, v, st, n, e, k⟩, h3, ne, pos, len⟩ := x
 exact ⟨⟨i, v, st, n, hs _ _ e, k⟩, hs _ _ h3, ne, pos, len⟩
theorem zhZ {x : Int} (h0 : 0 ≤ x) : 0 ≤ x ^ 3 := Int.pow_nonneg h0
def sp_draw : Sp := fun vs H Q _ => ∃ (b c : Addr) (cs : List Int) (many : Int), vs = [.ref b, .int many] ∧ BagAt H b c cs ∧ 0 < many ∧ many ≤ 10 ^ 70 ∧ ∀ (r : Int) (H' : Hp), 0 ≤ r → r < many → BagAt H' b c cs → Kp b H H' → Q (.int r) H'
theorem ixN5_0 : ixN 5 0 = some 0 := rfl
theorem ixN5_1 : ixN 5 1 = some 1 := rfl
theorem ixN5_2 : ixN 5 2 = some 2 := rfl
theorem ixN5_3 : ixN 5 3 = some 3 := rfl
theorem ixN5_4 : ixN 5 4 = some 4 := rfl
set_option maxHeartbeats 4000000 in
theorem zao (T : Txt K mg a) : FnOk P w K mg base CX0 1 a.f_law_draw a.d_law_draw ["bag", "many"] sp_draw := by
 refine T.F_law_draw.okC sc_law_draw (fun vs H Q E h => ?_) (fun cdv A outer s H vs Q E hr h => ?_)
 ·obtain ⟨b, c, cs, m, rfl, _⟩ := h
  rfl
 ·obtain ⟨b, c, cs, m, rfl, ⟨⟨i, v, st, n, hb, i0, i1, v0, s0, s1, n0⟩, hc, ne, pos, len⟩, m0, m1, q⟩ := h
  have hu := zaX hr
  refine ⟨_, (@zae _ _ _ _ _ (@zaN _ _ _ _ _ _ _ _ (PW.pt (zbe (zar op_eq (zah ix_F (pv 0) zaf (fun _ _ => rfl)) zaf (zaB _)) (za6 (zar op_lt (zah ix_F (pv 0) zaf (fun _ _ => rfl)) (zaE call_lenF (by rfl) T.z_len (by decide +kernel) (zad (zah ix_F (pv 0) zaf (fun _ _ => rfl)) pa_nil)) (zaB _))))) (@zae _ _ _ _ _ (zcH (zah ix_F (zah ix_F (pv 0) zaf (fun _ _ => rfl)) (zah ix_F (pv 0) zaf (fun _ _ => rfl)) (fun _ _ => rfl)) (zdH (pv 0) zaf set_list))
   (@zag _ _ _ (zcH (zaJ op_add (zah ix_F (pv 0) zaf (fun _ _ => rfl)) zaf) (zdH (pv 0) zaf set_list)))) (@zag _ _ _ (@zaN _ _ _ _ _ _ _ _ (zar op_eq (zah ix_F (pv 0) zaf (fun _ _ => rfl)) zaf (zaB _)) (@zae _ _ _ _ _ (zcH (zaJ op_add (zah ix_F (pv 0) zaf (fun _ _ => rfl)) zaf) (zdH (pv 0) zaf set_list))
   (@zae _ _ _ _ _ (zcH (zaJ op_mod (zaJ op_add (zaJ op_add (zaJ op_add (zaJ op_pow (zah ix_F (pv 0) zaf (fun _ _ => rfl)) zaf) (zaJ op_mul zaf (zah ix_F (pv 0) zaf (fun _ _ => rfl)))) (zaJ op_mul zaf (zah ix_F (pv 0) zaf (fun _ _ => rfl)))) zaf) zaf) (zdH (pv 0) zaf set_list))
   (@zag _ _ _ (zat (zaJ op_mod (zaJ op_fdivB (zah ix_F (pv 0) zaf (fun _ _ => rfl)) zaf) (pv 1)))))) pss_nil)))
   (@zae _ _ _ _ _ (zaC (i := 2) sc_law_draw.nd (by rfl) (Or.inl rfl) (zaJ op_mod (zah ix_F (pv 0) zaf (fun _ _ => rfl)) (pv 1)))
   (@zae _ _ _ _ _ (zcH (zaJ op_fdivB (zah ix_F (pv 0) zaf (fun _ _ => rfl)) (pv 1)) (zdH (pv 0) zaf set_list))
   (@zag _ _ _ (zat (pv 2)))))), ?_⟩
  simp! [hb, hc, bagL, ixN5_0, ixN5_1, ixN5_2, ixN5_3, ixN5_4, zcf, List.length_map]
  have fin : ∀ (r i' v' st' n' : Int), 0 ≤ r → r < m → BagOk cs i' v' st' n' → Q (.int r) (upd H b (.lst [.ref c, .int i', .int v', .int st', .int n'])) := fun r i' v' st' n' h1 h2 h3 =>
   q r _ h1 h2 ⟨⟨i', v', st', n', zaa, h3⟩, by rw [zaj ne]; exact hc, ne, pos, len⟩ Kp.at_
  have e3 : (3 : Int).toNat = 3 := rfl
  rw [e3]
  have p3 := zhZ s0
  have B1 : CPow st 3 ∧ CMul 69621 st ∧ CMul 1009 (n + 1) ∧ (0 : Int) < 2147483647 ∧ zgu ((st ^ 3 + 69621 * st + 1009 * (n + 1) + 1) % 2147483647) 16 ∧ 0 < m ∧ Q (V.int ((st ^ 3 + 69621 * st + 1009 * (n + 1) + 1) % 2147483647 / 16 % m)) (upd H b (HO.lst [V.ref c, V.int i, V.int v, V.int ((st ^ 3 + 69621 * st + 1009 * (n + 1) + 1) % 2147483647), V.int (n + 1)])) := by
   refine ⟨⟨by decide, by decide, by omega⟩, .inl ⟨by decide, by decide⟩, .inl ⟨by decide, by decide⟩, by decide, ⟨by decide, by decide⟩, m0, ?_⟩
   generalize (st ^ 3 + 69621 * st + 1009 * (n + 1) + 1) = y
   exact fin _ _ _ _ _ (Int.emod_nonneg _ (by omega)) (Int.emod_lt_of_pos _ m0) ⟨i0, i1, v0, by omega, by omega, by omega⟩
  have B2 : 0 < m ∧ zgu v m ∧ Q (V.int (v % m)) (upd H b (HO.lst [V.ref c, V.int i, V.int (v / m), V.int st, V.int n])) :=
   ⟨m0, ⟨m0, m1⟩, fin _ _ _ _ _ (Int.emod_nonneg _ (by omega)) (Int.emod_lt_of_pos _ m0) ⟨i0, i1, Int.ediv_nonneg v0 (by omega), s0, s1, n0⟩⟩
  have B3 : i < cs.length → ∃ x, atI (cs.map V.int) i = some x ∧ ∃ i_1, x = V.int i_1 ∧ 0 < m ∧ ∃ i_2, x = V.int i_2 ∧ zgu i_2 m ∧ Q (V.int (i_1 % m)) (upd H b (HO.lst [V.ref c, V.int (i + 1), V.int (i_2 / m), V.int st, V.int n])) := fun hi => by
   have hj : i.toNat < cs.length := by omega
   have e1 : (cs.map V.int)[i.toNat]? = some (V.int cs[i.toNat]) := by rw [List.getElem?_map, List.getElem?_eq_getElem hj]; rfl
   have e2 := zaF e1
   rw [show ((i.toNat : Nat) : Int) = i by omega] at e2
   have p := pos _ (List.getElem_mem hj)
   refine ⟨_, e2, _, rfl, m0, _, rfl, ⟨m0, m1⟩, ?_⟩
   exact fin _ _ _ _ _ (Int.emod_nonneg _ (by omega)) (Int.emod_lt_of_pos _ m0) ⟨by omega, by omega, Int.ediv_nonneg p (by omega), s0, s1, n0⟩
  refine ite2 (fun h1 => ite2 B3 fun h2 => ite2 (fun _ => B1) fun _ => B2) fun h1 => ite2 (fun _ => B1) fun _ => B2
theorem cut63 (ns : List Int) : ∃ zs : List Int, cutV (ns.map V.int) none (some 63) = zs.map V.int ∧ zs.length ≤ 63 ∧ zs.length ≤ ns.length := by
 refine ⟨(ns.drop (HT.sIx (ns.map V.int).length 0 none)).take (HT.sIx (ns.map V.int).length (ns.map V.int).length (some 63) - HT.sIx (ns.map V.int).length 0 none), ?_, ?_, ?_⟩
 ·unfold cutV
  rw [List.map_take, List.map_drop]
 ·rw [List.length_take, List.length_drop, List.length_map]
  have : HT.sIx ns.length ns.length (some 63) ≤ 63 := by unfold HT.sIx; simp; omega
  omega
 ·rw [List.length_take, List.length_drop]; omega
def zim (K : PySem.W.Frag) : Sp := fun vs H Q _ => ∃ (r : Addr) (ns : List Int), vs = [.ref r] ∧ SqL K H r (ns.map V.int) ∧ ∀ (b c : Addr) (cs : List Int) (H' : Hp), H b = none → H c = none → BagAt H' b c cs → Same H H' → Q (.ref b) H'
set_option maxHeartbeats 4000000 in
theorem zeY (T : Txt K mg a) : FnOk P w K mg base CX0 1 a.f_law_bag a.d_law_bag ["script"] (zim K) := by
 refine T.F_law_bag.okC sc_law_bag (fun vs H Q E h => ?_) (fun cdv A outer s H vs Q E hr h => ?_)
 ·obtain ⟨r, ns, rfl, _⟩ := h
  rfl
 ·obtain ⟨r, ns, rfl, hS, q⟩ := h
  have hu := zaX hr
  obtain ⟨zs, ez, lz, _⟩ := cut63 ns
  refine ⟨_, (@zae _ _ _ _ _ (zaC (i := 1) sc_law_bag.nd (by rfl) (Or.inl rfl) zaf)
   (@zae _ _ _ _ _ (za0 PassesOwn.never (by rfl) (zaO (zbG sl_list (pv 0) po_none (zcz zaf))) (zav (i := 2) sc_law_bag.nd (by rfl) (Or.inl rfl))
   (@zag _ _ _ (zaC (i := 1) sc_law_bag.nd (by rfl) (Or.inl rfl) (zaJ op_mod (zaJ op_add (zaJ op_add (zaJ op_mul (pv 1) zaf) (zaJ op_mod (pv 2) zaf)) zaf) zaf))))
   (@zag _ _ _ (zat (zaA (zad (za3 (N' := ["cell"]) (cap := [none]) ⟨rfl, (by decide +kernel), (by decide +kernel), (by rfl), rfl, (by rfl)⟩ (by rfl) (zaO (zbG sl_list (pv 0) po_none (zcz zaf))) (fun C_ ex_ s_ H_ => (zav (i := 0) (show (["cell"] : List Str).Nodup by decide +kernel) (by rfl) (Or.inl rfl))) zaR (fun C_ ex_ s_ H_ => zaL) (fun C_ ex_ s_ H_ => (zaJ op_mod (zaE call_abs (by rfl) T.z_abs (by decide +kernel) (@zac _ _ _ _ _ _ (pv 0) pa_nil)) (zaJ op_pow zaf zaf)))) (@zan _ _ _ _ _ _ (@zan _ _ _ _ _ _ (@zac _ _ _ _ _ _ (pv 1) (@zan _ _ _ _ _ _ pa_nil)))))))))), ?_⟩
  refine ⟨_, rfl, 63, rfl, r, _, rfl, hS, fun l1 hl1 => ?_⟩
  rw [ez]
  refine ⟨l1, rfl, ⟨_, .of zaa⟩, zeq (xs := zs.map V.int) (fun i σ H2 => ∃ (st : Int) (v2 : Option V), σ = [some (.ref r), some (.int st), v2] ∧ H2 = upd H l1 (.lst (zs.map V.int)) ∧ 0 ≤ st ∧ st < 2147483647)
   ⟨7, _, rfl, rfl, by decide, by decide⟩ (fun i σ H2 _ ⟨_, _, _, e, _⟩ => by rw [e]; exact .of zaa) ?_ ?_⟩
  ·rintro i x σ H2 hi ⟨st, v2, rfl, rfl, s0, s1⟩
   obtain ⟨z, _, rfl⟩ := zay hi
   simp! []
   exact ⟨.inr ⟨by decide, by decide⟩, by decide, by decide, Int.emod_nonneg _ (by decide), Int.emod_lt_of_pos _ (by decide)⟩
  ·rintro σ H2 ⟨st, v2, rfl, rfl, s0, s1⟩
   have hS1 : SqL K (upd H l1 (.lst (zs.map V.int))) r (ns.map V.int) := (Same.laid hl1).seq hS
   refine ⟨_, rfl, 63, rfl, r, _, rfl, hS1, fun l2 hl2 => ?_⟩
   rw [ez]
   refine ⟨l2, rfl, ⟨_, .of zaa⟩, fun D hD => ?_⟩
   refine zdu (xs := zs.map V.int) (fun i ys H2 => ∃ ws : List Int, ys = ws.map V.int ∧ ws.length = i ∧ (∀ z ∈ ws, 0 ≤ z) ∧ H2 = upd (upd (upd H l1 (.lst (zs.map V.int))) l2 (.lst (zs.map V.int))) D (.lst ys))
    ⟨[], rfl, rfl, by simp, rfl⟩ (fun i ys H2 _ ⟨ws, e1, e2, _, e3⟩ => ?_) (by rw [sizeLine_eq]; simp; omega) ?_ ?_
   ·rw [e3]
    exact ⟨.of (zab zaa hD), zaa, by rw [e1]; simp; omega⟩
   ·rintro i x ys H2 hi ⟨ws, rfl, e2, e3, rfl⟩
    obtain ⟨z, _, rfl⟩ := zay hi
    simp! [tTrue, zaM]
    refine ⟨⟨by decide, by decide, by decide⟩, by decide, ws ++ [(if z < 0 then -z else z) % 10 ^ Int.toNat 60], by simp, by simp; omega, ?_, zcf⟩
    intro y hy
    rcases List.mem_append.mp hy with hy | hy
    ·exact e3 y hy
    ·rw [List.mem_singleton.mp hy]
     exact Int.emod_nonneg _ (by decide)
   ·rintro ys H2 ⟨ws, rfl, e2, e3, rfl⟩
    simp! []
    intro b hb
    have n1 : H b = none := Same.free (((Same.laid hl1).step hl2).step hD) hb
    have n2 : H D = none := Same.free ((Same.laid hl1).step hl2) hD
    rw [List.length_map] at e2
    exact q b D ws _ n1 n2 ⟨⟨0, 0, st, 0, zaa, by decide, by omega, by decide, s0, s1, by decide⟩, zab zaa hb, zaw zaa hb, e3, by omega⟩ ((((Same.laid hl1).step hl2).step hD).step hb)
end
section
variable {P : Program} {w : World} {K : PySem.W.Frag} {mg : Str → Option Value} {base : Heap} {a : Ad}
def LW : List (Str × Str) := [("put", "pi"), ("nil", "p"), ("copy", "pp"), ("plus", "ppp"), ("less", "ppp"), ("make", "pkk"), ("fetch", "ppk"), ("read", "ppk"), ("hang", "pkp"), ("write", "pkp"), ("into", "ppk"), ("look", "ppp"), ("lay", "ppp"), ("jump", "t"), ("zero", "pt"), ("none", "pt"), ("same", "ppt"), ("call", "pfq"), ("back", "p"), ("tell", "p"), ("rest", "")]
abbrev Part := Int ⊕ List Int
abbrev Row := Str × List Part
abbrev Sg := Str × Str
def zbS (H : Hp) (v : V) : Part → Prop
 | .inl x => v = .int x
 | .inr l => ∃ q, v = .ref q ∧ H q = some (.tup (l.map V.int))
structure PartsAt (H : Hp) (vs : List V) (ps : List Part) : Prop where
 len : vs.length = ps.length
 at_ : ∀ (i : Nat) (v : V) (p : Part), vs[i]? = some v → ps[i]? = some p → zbS H v p
def za4 (H : Hp) (p : Addr) (r : Row) : Prop := ∃ vs, H p = some (.tup (.str r.1 :: vs)) ∧ PartsAt H vs r.2
/-- the lists of signs: takes and gives -/
structure SgAt (H : Hp) (sl : Addr) (as : List Addr) (sg : List Sg) : Prop where
 top : H sl = some (.lst (as.map V.ref))
 len : as.length = sg.length
 row : ∀ (i : Nat) (p : Addr) (x : Sg), as[i]? = some p → sg[i]? = some x → H p = some (.tup [.str x.1, .str x.2])
def za7 (words many : Int) (sg : List Sg) (ps : List Part) (c : Nat) (p : Part) : Prop :=
 (c = 112 ∧ ∃ x, p = .inl x ∧ 0 ≤ x ∧ x < 8 + words) ∨ (c = 107 ∧ ∃ x, p = .inl x ∧ 0 ≤ x ∧ x < 10) ∨ (c = 116 ∧ ∃ x, p = .inl x ∧ 0 ≤ x ∧ x < many) ∨ (c = 102 ∧ ∃ x, p = .inl x ∧ 0 ≤ x ∧ x < sg.length) ∨
 (c = 105 ∧ ∃ x, p = .inl x ∧ -(10 ^ 60) < x ∧ x < 10 ^ 60) ∨ (c = 113 ∧ ∃ (f : Nat) (l : List Int) (z : Sg), ps[1]? = some (.inl (f : Int)) ∧ sg[f]? = some z ∧ p = .inr l ∧ l.length = z.1.cps.size ∧ ∀ x ∈ l, 0 ≤ x ∧ x < 8 + words)
structure PartsFit (words many : Int) (sg : List Sg) (ls : Str) (ps : List Part) : Prop where
 at_ : ∀ (i c : Nat) (p : Part), ls.cps[i]? = some c → ps[i]? = some p → za7 words many sg ps c p
def zaI (words many : Int) (sg : List Sg) (r : Row) : Prop := ∃ ls, (r.1, ls) ∈ LW ∧ r.2.length = ls.cps.size ∧ PartsFit words many sg ls r.2
theorem BagAt.has {H : Hp} {b c : Addr} {cs : List Int} (x : BagAt H b c cs) : ∃ o, H b = some o := by obtain ⟨⟨i, v, s, n, e, _⟩, _⟩ := x; exact ⟨_, e⟩
theorem BagAt.tup {H H' : Hp} {b c q : Addr} {cs : List Int} {xs : List V} (x : BagAt H b c cs) (k : Kp b H H') (h : H q = some (.tup xs)) : H' q = some (.tup xs) := by
 refine k q _ h (fun e => ?_)
 obtain ⟨⟨i, v, st, n, hb, _⟩, _⟩ := x
 rw [e, hb] at h
 cases h
theorem zbS.kp {H H' : Hp} {b c : Addr} {cs : List Int} {v : V} {p : Part} (x : BagAt H b c cs) (k : Kp b H H') (h : zbS H v p) : zbS H' v p := by
 cases p with
 | inl y => exact h
 | inr l => obtain ⟨q, e, h⟩ := h; exact ⟨q, e, x.tup k h⟩
theorem PartsAt.kp {H H' : Hp} {b c : Addr} {cs : List Int} {vs : List V} {ps : List Part} (x : BagAt H b c cs) (k : Kp b H H') (h : PartsAt H vs ps) : PartsAt H' vs ps := ⟨h.len, fun i v p h1 h2 => (h.at_ i v p h1 h2).kp x k⟩
theorem za4.kp {H H' : Hp} {b c q : Addr} {cs : List Int} {r : Row} (x : BagAt H b c cs) (k : Kp b H H') (h : za4 H q r) : za4 H' q r := by
 obtain ⟨vs, e, h⟩ := h
 exact ⟨vs, x.tup k e, h.kp x k⟩
theorem SgAt.kp {H H' : Hp} {b c sl : Addr} {cs : List Int} {as : List Addr} {sg : List Sg} (x : BagAt H b c cs) (k : Kp b H H') (n : sl ≠ b) (h : SgAt H sl as sg) : SgAt H' sl as sg := ⟨k _ _ h.top n, h.len, fun i p y h1 h2 => x.tup k (h.row i p y h1 h2)⟩
theorem SgAt.at_ {H : Hp} {sl : Addr} {as : List Addr} {sg : List Sg} (x : SgAt H sl as sg) {f : Nat} {z : Sg} (h : sg[f]? = some z) : ∃ p, as[f]? = some p ∧ H p = some (.tup [.str z.1, .str z.2]) := by
 have hf := (List.getElem?_eq_some_iff.mp h).1
 have hf' : f < as.length := by rw [x.len]; exact hf
 exact ⟨as[f], List.getElem?_eq_getElem hf', x.row f _ z (List.getElem?_eq_getElem hf') h⟩
theorem za7.app {words many : Int} {sg : List Sg} {ps : List Part} {c : Nat} {p y : Part} (h : za7 words many sg ps c p) : za7 words many sg (ps ++ [y]) c p := by
 rcases h with h | h | h | h | h | ⟨e, f, l, z, h1, h2⟩
 ·exact .inl h
 ·exact .inr (.inl h)
 ·exact .inr (.inr (.inl h))
 ·exact .inr (.inr (.inr (.inl h)))
 ·exact .inr (.inr (.inr (.inr (.inl h))))
 ·refine .inr (.inr (.inr (.inr (.inr ⟨e, f, l, z, ?_, h2⟩))))
  rw [List.getElem?_append_left (List.getElem?_eq_some_iff.mp h1).1]
  exact h1
theorem PartsFit.snoc {words many : Int} {sg : List Sg} {ls : Str} {ps : List Part} {c : Nat} {p : Part} (h : PartsFit words many sg ls ps) (hc : ls.cps[ps.length]? = some c) (hp : za7 words many sg (ps ++ [p]) c p) : PartsFit words many sg ls (ps ++ [p]) := ⟨fun i c' p' h1 h2 => by
 by_cases d : i < ps.length
 ·rw [List.getElem?_append_left d] at h2
  exact (h.at_ i c' p' h1 h2).app
 ·have e : i = ps.length := by
   have := (List.getElem?_eq_some_iff.mp h2).1
   rw [List.length_append, List.length_singleton] at this
   omega
  rw [e] at h1 h2
  rw [hc] at h1
  cases h1
  rw [List.getElem?_append_right (Nat.le_refl _), Nat.sub_self] at h2
  cases h2
  exact hp⟩
theorem PartsAt.snoc {H : Hp} {vs : List V} {ps : List Part} {v : V} {p : Part} (h : PartsAt H vs ps) (hp : zbS H v p) : PartsAt H (vs ++ [v]) (ps ++ [p]) := ⟨by rw [List.length_append, List.length_append, h.len]; rfl, fun i v' p' h1 h2 => by
 by_cases d : i < ps.length
 ·rw [List.getElem?_append_left d] at h2
  rw [List.getElem?_append_left (by rw [h.len]; exact d)] at h1
  exact h.at_ i v' p' h1 h2
 ·have e : i = ps.length := by
   have := (List.getElem?_eq_some_iff.mp h2).1
   rw [List.length_append, List.length_singleton] at this
   omega
  rw [e] at h1 h2
  rw [List.getElem?_append_right (Nat.le_refl _), Nat.sub_self] at h2
  rw [← h.len, List.getElem?_append_right (Nat.le_refl _), Nat.sub_self] at h1
  cases h1
  cases h2
  exact hp⟩
structure RowsOf (H : Hp) (rl : Addr) (rs : List Addr) (rws : List Row) : Prop where
 top : H rl = some (.lst (rs.map V.ref))
 len : rs.length = rws.length
 row : ∀ (i : Nat) (p : Addr) (r : Row), rs[i]? = some p → rws[i]? = some r → za4 H p r
theorem RowsOf.kp {H H' : Hp} {b c rl : Addr} {cs : List Int} {rs : List Addr} {rws : List Row} (x : BagAt H b c cs) (k : Kp b H H') (n : rl ≠ b) (h : RowsOf H rl rs rws) : RowsOf H' rl rs rws := ⟨k _ _ h.top n, h.len, fun i p y h1 h2 => (h.row i p y h1 h2).kp x k⟩
theorem za4.fr {H H' : Hp} {M : Addr → Prop} {q : Addr} {r : Row} (f : Fr M H H') (h : za4 H q r) : za4 H' q r := by
 obtain ⟨vs, e, hl, h⟩ := h
 refine ⟨vs, f.tups _ _ e, hl, fun i v p h1 h2 => ?_⟩
 have := h i v p h1 h2
 cases p with
 | inl y => exact this
 | inr l => obtain ⟨t, e, h⟩ := this; exact ⟨t, e, f.tups _ _ h⟩
theorem RowsOf.snoc {H H' : Hp} {M : Addr → Prop} {rl p : Addr} {rs : List Addr} {rws : List Row} {r : Row} (f : Fr M H H') (h : ∀ (i : Nat) (p : Addr) (r : Row), rs[i]? = some p → rws[i]? = some r → za4 H p r) (len : rs.length = rws.length) (top : H' rl = some (.lst (rs.map V.ref ++ [.ref p]))) (hr : za4 H' p r) : RowsOf H' rl (rs ++ [p]) (rws ++ [r]) := ⟨by rw [top, List.map_append]; rfl, by rw [List.length_append, List.length_append, len]; rfl, fun i q y h1 h2 => by
 by_cases d : i < rws.length
 ·rw [List.getElem?_append_left d] at h2
  rw [List.getElem?_append_left (by rw [len]; exact d)] at h1
  exact (h i q y h1 h2).fr f
 ·have e : i = rws.length := by
   have := (List.getElem?_eq_some_iff.mp h2).1
   rw [List.length_append, List.length_singleton] at this
   omega
  rw [e] at h1 h2
  rw [List.getElem?_append_right (Nat.le_refl _), Nat.sub_self] at h2
  rw [← len, List.getElem?_append_right (Nat.le_refl _), Nat.sub_self] at h1
  cases h1
  cases h2
  exact hr⟩
def zdq (rws : List Row) : Prop := ∃ r, rws.getLast? = some r ∧ (r.1 = "back" ∨ r.1 = "jump")
theorem zfL (l : List Nat) : PySem.Txt.join "" (l.map fun c => (⟨#[c]⟩ : Str)) = ⟨l.toArray⟩ := by
 have key : ∀ (r : List Nat) (acc : Array Nat), (r.map fun c => (⟨#[c]⟩ : Str)).foldl (fun acc p => acc ++ (Str.ofString "").cps ++ p.cps) acc = acc ++ r.toArray := by
  intro r
  induction r with
  | nil => intro acc; simp
  | cons c r ih =>
   intro acc
   rw [List.map_cons, List.foldl_cons, ih]
   rw [show (Str.ofString "").cps = #[] by decide]
   simp
 cases l with
 | nil => rfl
 | cons c r =>
  show (⟨(r.map fun c => (⟨#[c]⟩ : Str)).foldl (fun acc p => acc ++ (Str.ofString "").cps ++ p.cps) #[c]⟩ : Str) = _
  rw [key]
  simp
def NH (c : Nat) : Prop := c = 110 ∨ c = 104
structure SgFit (sg : List Sg) : Prop where
 sz : ∀ x ∈ sg, x.1.cps.size ≤ 6
 let_ : ∀ x ∈ sg, ∀ c ∈ x.1.cps.toList, NH c
 gives : ∀ x ∈ sg, x.2 = ⟨#[110]⟩ ∨ x.2 = ⟨#[104]⟩
 first : ∀ x : Sg, sg[0]? = some x → (∀ c ∈ x.1.cps.toList, c = 110) ∧ x.2 = ⟨#[110]⟩
theorem SgFit.asc {sg : List Sg} (x : SgFit sg) : ∀ y ∈ sg, y.1.cps.size ≤ 6 ∧ y.1.cps.all (· < 128) = true := fun y hy => ⟨x.sz y hy, by
 rw [← Array.all_toList, List.all_eq_true]
 intro c hc
 rcases x.let_ y hy c hc with h | h <;> rw [h] <;> decide⟩
theorem six_n : ∀ k : Nat, k < 7 → (PySem.Txt.slice (Str.ofString "nnnnnn") none (some (k : Int))).cps.size ≤ 6 ∧ ∀ c ∈ (PySem.Txt.slice (Str.ofString "nnnnnn") none (some (k : Int))).cps.toList, c = 110 := by decide +kernel
abbrev Df := Sg × Int × List Row
structure ProgAt (H : Hp) (pl : Addr) (das : List (Addr × Addr × List Addr)) (ds : List Df) : Prop where
 top : H pl = some (.lst (das.map fun a => V.ref a.1))
 len : das.length = ds.length
 def_ : ∀ (i : Nat) (a : Addr × Addr × List Addr) (d : Df), das[i]? = some a → ds[i]? = some d → H a.1 = some (.tup [.str d.1.1, .str d.1.2, .int d.2.1, .ref a.2.1]) ∧ RowsOf H a.2.1 a.2.2 d.2.2
structure DfFit (sg : List Sg) (d : Df) : Prop where
 w0 : 0 ≤ d.2.1
 w1 : d.2.1 ≤ 16
 n0 : 0 < d.2.2.length
 n1 : d.2.2.length ≤ 40
 rows : ∀ r ∈ d.2.2, zaI d.2.1 d.2.2.length sg r
 last : zdq d.2.2
structure ProgFit (ds : List Df) : Prop where
 sg : SgFit (ds.map (·.1))
 n0 : 0 < ds.length
 n1 : ds.length ≤ 8
 defs : ∀ d ∈ ds, DfFit (ds.map (·.1)) d
theorem RowsOf.fr {H H' : Hp} {M : Addr → Prop} {rl : Addr} {rs : List Addr} {rws : List Row} (f : Fr M H H') (h : RowsOf H rl rs rws) (n : ¬ M rl) : RowsOf H' rl rs rws := ⟨f.keep _ _ h.top n, h.len, fun i p r h1 h2 => (h.row i p r h1 h2).fr f⟩
theorem BagAt.kfr' {b c : Addr} {cs : List Int} {H H' : Hp} (x : BagAt H b c cs) (k : Kp b H H') : Fr (· = b) H H' := ⟨k, fun q xs h => x.tup k h⟩
theorem za9 {b q : Addr} {H H' : Hp} (k : Kp b H H') (n : q ≠ b) (h : H' q = none) : H q = none := by
 cases e : H q with
 | none => rfl
 | some o => rw [k _ _ e n] at h; cases h
theorem BagAt.apart {H : Hp} {b c l : Addr} {cs : List Int} (B : BagAt H b c cs) (h : H l = none) : l ≠ b ∧ l ≠ c := by
 refine ⟨fun e => ?_, fun e => ?_⟩
 ·obtain ⟨o, z⟩ := B.has
  rw [← e, h] at z; cases z
 ·have z := B.at_
  rw [← e, h] at z; cases z
end
section
variable {P : Program} {w : World} {K : PySem.W.Frag} {mg : Str → Option Value} {base : Heap} {a : Ad}
def zgL (r : Row) : Int := match r.2.getLast? with
 | some (.inl x) => x
 | _ => 0
def twoI (a b : Int) : List Int := if a = b then [a] else if a < b then [a, b] else [b, a]
def Br (s : Str) : Prop := s = "zero" ∨ s = "none" ∨ s = "same"
instance {s : Str} : Decidable (Br s) := by unfold Br; exact inferInstance
def nxt (r : Row) (k : Int) : List Int := if r.1 = "back" then [] else if r.1 = "jump" then [zgL r] else if Br r.1 then twoI (k + 1) (zgL r) else [k + 1]
theorem LW_t : ∀ p ∈ LW, (p.1 = "jump" → p.2 = ("t" : Str)) ∧ (p.1 = "zero" → p.2 = ("pt" : Str)) ∧ (p.1 = "none" → p.2 = ("pt" : Str)) ∧ (p.1 = "same" → p.2 = ("ppt" : Str)) := by decide +kernel
theorem ziS {words many : Int} {sg : List Sg} {ps : List Part} {p : Part} (h : za7 words many sg ps 116 p) : ∃ x, p = .inl x ∧ 0 ≤ x ∧ x < many := by
 rcases h with ⟨e, _⟩ | ⟨e, _⟩ | ⟨_, h⟩ | ⟨e, _⟩ | ⟨e, _⟩ | ⟨e, _⟩
 ·exact absurd e (by decide)
 ·exact absurd e (by decide)
 ·exact h
 ·exact absurd e (by decide)
 ·exact absurd e (by decide)
 ·exact absurd e (by decide)
theorem zcP {words many : Int} {sg : List Sg} {r : Row} (F : zaI words many sg r) (e : r.1 = "jump" ∨ Br r.1) : ∃ pre x, r.2 = pre ++ [.inl x] ∧ 0 ≤ x ∧ x < many ∧ (r.1 = "jump" → pre = []) ∧ zgL r = x := by
 obtain ⟨ls, m, l, pf⟩ := F
 have key : ∃ n, r.2.length = n + 1 ∧ ls.cps[n]? = some 116 ∧ (r.1 = "jump" → n = 0) := by
  obtain ⟨t1, t2, t3, t4⟩ := LW_t _ m
  rcases e with e | e | e | e
  ·have := t1 e; dsimp only at this; subst this; exact ⟨0, l, rfl, fun _ => rfl⟩
  ·have := t2 e; dsimp only at this; subst this; exact ⟨1, l, rfl, fun z => by rw [e] at z; exact absurd z (by decide)⟩
  ·have := t3 e; dsimp only at this; subst this; exact ⟨1, l, rfl, fun z => by rw [e] at z; exact absurd z (by decide)⟩
  ·have := t4 e; dsimp only at this; subst this; exact ⟨2, l, rfl, fun z => by rw [e] at z; exact absurd z (by decide)⟩
 obtain ⟨n, hn, hc, h0⟩ := key
 have hl : n < r.2.length := by omega
 obtain ⟨x, ex, x0, x1⟩ := ziS (pf.at_ n 116 _ hc (List.getElem?_eq_getElem hl))
 have es : r.2 = r.2.take n ++ [.inl x] := by
  rw [← ex, ← List.take_succ_eq_append_getElem hl, List.take_of_length_le (by omega)]
 refine ⟨r.2.take n, x, es, x0, x1, fun z => by rw [h0 z]; rfl, ?_⟩
 unfold zgL
 rw [es, List.getLast?_concat]
theorem zbl {H : Hp} {vs : List V} {pre : List Part} {x : Int} (h : PartsAt H vs (pre ++ [.inl x])) : ∃ us, vs = us ++ [.int x] ∧ us.length = pre.length := by
 have l := h.len
 rw [List.length_append, List.length_singleton] at l
 have hl : pre.length < vs.length := by omega
 have e := h.at_ pre.length _ (.inl x) (List.getElem?_eq_getElem hl) (by rw [List.getElem?_append_right (Nat.le_refl _), Nat.sub_self]; rfl)
 have e' : vs[pre.length] = .int x := e
 refine ⟨vs.take pre.length, ?_, by rw [List.length_take]; omega⟩
 rw [← e', ← List.take_succ_eq_append_getElem hl, List.take_of_length_le (by omega)]
def sp_nexts : Sp := fun vs H Q _ => ∃ (rl : Addr) (k : Nat) (rs : List Addr) (rws : List Row) (r : Row) (words many : Int) (sg : List Sg), vs = [.ref rl, .int k] ∧ RowsOf H rl rs rws ∧ rws[k]? = some r ∧ zaI words many sg r ∧ many ≤ 40 ∧ k < 40 ∧
 ∀ (l : Addr) (H' : Hp), H l = none → Same H H' → H' l = some (.lst ((nxt r k).map V.int)) → Q (.ref l) H'
theorem zcN {a b : Int} {ns : List Int} (h : ns.Perm (zb1 a b)) (s : ns.Pairwise (· ≤ ·)) : ns = twoI a b := by
 have r : (twoI a b).Perm (zb1 a b) ∧ (twoI a b).Pairwise (· < ·) := by
  unfold twoI zb1
  by_cases c : a = b
  ·rw [if_pos c, if_pos c]; exact ⟨.refl _, by simp⟩
  ·rw [if_neg c, if_neg c]
   by_cases d : a < b
   ·rw [if_pos d]; exact ⟨.refl _, by simp [d]⟩
   ·rw [if_neg d]; exact ⟨.swap .., by simp; omega⟩
 exact zdS (h.trans r.1.symm) s r.2
theorem zcQ {s : Str} : ∀ {l : List Str}, inV (.str s) (l.map V.str) = decide (s ∈ l)
 | [] => by simp [inV]
 | x :: l => by
  have ih := zcQ (s := s) (l := l)
  unfold inV at ih ⊢
  rw [List.map_cons, List.any_cons, ih]
  show ((x == s) || decide (s ∈ l)) = _
  rw [Bool.eq_iff_iff, Bool.or_eq_true, beq_iff_eq, decide_eq_true_eq, decide_eq_true_eq, List.mem_cons]
  exact ⟨fun h => h.imp Eq.symm id, fun h => h.imp Eq.symm id⟩
theorem ziE {s : Str} : inV (.str s) [.str "zero", .str "none", .str "same"] = decide (Br s) := by
 have := zcQ (s := s) (l := ["zero", "none", "same"])
 rw [show [V.str "zero", V.str "none", V.str "same"] = (["zero", "none", "same"] : List Str).map V.str from rfl, this]
 rw [Bool.eq_iff_iff, decide_eq_true_eq, decide_eq_true_eq]
 simp only [List.mem_cons, List.not_mem_nil, or_false, Br]
theorem zh6 {s : Str} {v : V} {H : Hp} {Q : VK} (h : ∃ p, v = .ref p ∧ (H p = some (.tup [.str "zero", .str "none", .str "same"]) ∨ H p = some (.lst [.str "zero", .str "none", .str "same"]))) (q : Q (.bl (decide (Br s))) H) : rIn K false (.str s) v H Q := by
 obtain ⟨p, rfl, h⟩ := h
 refine ⟨p, _, rfl, h.elim (fun h => .inr (.of h)) (fun h => .inl (.of h)), rfl, rfl, ?_⟩
 rw [if_neg (by simp), ziE]; exact q
set_option maxHeartbeats 1000000 in
theorem zgq (T : Txt K mg a) : FnOk P w K mg base CX0 1 a.f_nexts a.d_nexts ["rows", "at"] sp_nexts := by
 refine T.F_nexts.okC sc_nexts (fun vs H Q E h => ?_) (fun cdv A outer s H vs Q E hr h => ?_)
 ·obtain ⟨rl, k, rs, rws, r, words, many, sg, rfl, _⟩ := h
  rfl
 ·obtain ⟨rl, k, rs, rws, r, words, many, sg, rfl, R, hk, F, m40, k40, q⟩ := h
  have hu := zaX hr
  refine ⟨_, (@zae _ _ _ _ _ (zaC (i := 2) sc_nexts.nd (by rfl) (Or.inl rfl) (zah ix_F (pv 0) (pv 1) (fun _ _ => rfl)))
   (@zae _ _ _ _ _ (@zaN _ _ _ _ _ _ _ _ (zar op_eq (zah ix_F (pv 2) zaf (fun _ _ => rfl)) zak (zaB _)) (@zag _ _ _ (zat (zaA pa_nil))) pss_nil)
   (@zae _ _ _ _ _ (@zaN _ _ _ _ _ _ _ _ (zar op_eq (zah ix_F (pv 2) zaf (fun _ _ => rfl)) zak (zaB _)) (@zag _ _ _ (zat (zaA (zad (zah ix_F (pv 2) zaf (fun _ _ => rfl)) pa_nil)))) pss_nil)
   (@zae _ _ _ _ _ (@zaN _ _ _ _ _ _ _ _ (zar op_in_seq (zah ix_F (pv 2) zaf (fun _ _ => rfl)) (zax (@zaq _ _ _ _ _ _ (@zaq _ _ _ _ _ _ (@zaq _ _ _ _ _ _ pa_nil)))) (by with_unfolding_all rfl)) (@zag _ _ _ (zat (zaE (zbh (by rfl) (by rfl)) (by rfl) T.z_sorted (by decide +kernel) (zad (za1 (zbX (by rfl) (by rfl)) (by rfl) T.z_set (by decide +kernel) (zad (zaA (zad (zaJ op_add (pv 1) zaf) (zad (zah ix_F (pv 2) (zeb un_neg zaf) (fun _ _ => rfl)) pa_nil))) pa_nil)) pa_nil)))) pss_nil)
   (@zag _ _ _ (zat (zaA (zad (zaJ op_add (pv 1) zaf) pa_nil)))))))), ?_⟩
  have kl := (List.getElem?_eq_some_iff.mp hk).1
  have ks : k < rs.length := by rw [R.len]; exact kl
  obtain ⟨vs, hp, PA⟩ := R.row k _ r (List.getElem?_eq_getElem ks) hk
  have top := R.top
  have a1 : atI (rs.map V.ref) ((k : Nat) : Int) = some (.ref rs[k]) := zaF (by rw [List.getElem?_map, List.getElem?_eq_getElem ks]; rfl)
  simp! [top, a1, hp]
  refine ite2 (fun e => ?_) fun e1 => ite2 (fun e => ?_) fun e2 => ?_
  ·intro l hl
   refine q l _ hl (.laid hl) ?_
   rw [zaa]; unfold nxt; rw [if_pos e]; rfl
  ·obtain ⟨pre, x, er, x0, x1, ep, el⟩ := zcP F (.inl e)
   rw [er, ep e] at PA
   obtain ⟨us, ev, lu⟩ := zbl PA
   have : us = [] := List.eq_nil_of_length_eq_zero lu
   rw [ev, this]
   refine ⟨_, zbu, fun l hl => q l _ hl (.laid hl) ?_⟩
   rw [zaa]; unfold nxt; rw [if_neg e1, if_pos e, el]; rfl
  ·intro p np
   refine zh6 ⟨p, rfl, .inl zaa⟩ ?_
   refine ⟨_, rfl, ?_⟩
   have hp' := zab (u := .tup [.str "zero", .str "none", .str "same"]) hp np
   by_cases c : Br r.1
   ·rw [decide_eq_true c, if_pos rfl]
    obtain ⟨pre, x, er, x0, x1, ep, el⟩ := zcP F (.inr c)
    rw [er] at PA
    obtain ⟨us, ev, lu⟩ := zbl PA
    refine ⟨_, by rw [hp']; rfl, .int x, by rw [ev, ← List.cons_append]; exact zb5 _ _, fun l1 nl1 => ⟨x, rfl, by omega, by omega, x0, by omega, fun a2 na2 => ⟨_, rfl, ?_, fun l ns' nl pm st => ?_⟩⟩⟩
    ·unfold zb1; split <;> simp
    ·have S1 : Same H (upd H p (.tup [.str "zero", .str "none", .str "same"])) := .laid np
     have S2 := (S1.step nl1 (u := .lst [.int ((k : Int) + 1), .int x])).step na2 (u := SetO w a2 (zb1 ((k : Int) + 1) x))
     refine q l _ (S2.free nl) (S2.step nl) ?_
     rw [zaa, zcN pm st]
     unfold nxt
     rw [if_neg e1, if_neg e2, if_pos c, el]
   ·rw [decide_eq_false c, if_neg (by simp)]
    intro l nl
    have S1 : Same H (upd H p (.tup [.str "zero", .str "none", .str "same"])) := .laid np
    refine q l _ (S1.free nl) (S1.step nl) ?_
    rw [zaa]; unfold nxt; rw [if_neg e1, if_neg e2, if_neg c]; rfl
set_option maxHeartbeats 1000000 in
theorem zbZ (T : Txt K mg a) : FnOk P w K mg base CX0 1 a.f_law_nexts a.d_law_nexts ["rows", "at"] sp_nexts := by
 refine T.F_law_nexts.okC sc_law_nexts (fun vs H Q E h => ?_) (fun cdv A outer s H vs Q E hr h => ?_)
 ·obtain ⟨rl, k, rs, rws, r, words, many, sg, rfl, _⟩ := h
  rfl
 ·obtain ⟨rl, k, rs, rws, r, words, many, sg, rfl, R, hk, F, m40, k40, q⟩ := h
  have hu := zaX hr
  refine ⟨_, (@zae _ _ _ _ _ (@zaN _ _ _ _ _ _ _ _ (zar op_eq (zah ix_F (zah ix_F (pv 0) (pv 1) (fun _ _ => rfl)) zaf (fun _ _ => rfl)) zak (zaB _)) (@zag _ _ _ (zat (zaA (zad (zah ix_F (zah ix_F (pv 0) (pv 1) (fun _ _ => rfl)) zaf (fun _ _ => rfl)) pa_nil)))) pss_nil)
   (@zae _ _ _ _ _ (@zaN _ _ _ _ _ _ _ _ (zar op_eq (zah ix_F (zah ix_F (pv 0) (pv 1) (fun _ _ => rfl)) zaf (fun _ _ => rfl)) zak (zaB _)) (@zag _ _ _ (zat (zaA pa_nil))) pss_nil)
   (@zae _ _ _ _ _ (@zaN _ _ _ _ _ _ _ _ (zar op_in_seq (zah ix_F (zah ix_F (pv 0) (pv 1) (fun _ _ => rfl)) zaf (fun _ _ => rfl)) (zaA (@zaq _ _ _ _ _ _ (@zaq _ _ _ _ _ _ (@zaq _ _ _ _ _ _ pa_nil)))) (by with_unfolding_all rfl)) (@zag _ _ _ (zat (zaE (zbh (by rfl) (by rfl)) (by rfl) T.z_sorted (by decide +kernel) (zad (za1 (zbX (by rfl) (by rfl)) (by rfl) T.z_set (by decide +kernel) (zad (zaA (zad (zaJ op_add (pv 1) zaf) (zad (zah ix_F (zah ix_F (pv 0) (pv 1) (fun _ _ => rfl)) (zeb un_neg zaf) (fun _ _ => rfl)) pa_nil))) pa_nil)) pa_nil)))) pss_nil)
   (@zag _ _ _ (zat (zaA (zad (zaJ op_add (pv 1) zaf) pa_nil))))))), ?_⟩
  have kl := (List.getElem?_eq_some_iff.mp hk).1
  have ks : k < rs.length := by rw [R.len]; exact kl
  obtain ⟨vs, hp, PA⟩ := R.row k _ r (List.getElem?_eq_getElem ks) hk
  have top := R.top
  have a1 : atI (rs.map V.ref) ((k : Nat) : Int) = some (.ref rs[k]) := zaF (by rw [List.getElem?_map, List.getElem?_eq_getElem ks]; rfl)
  simp! [top, a1, hp]
  refine ite2 (fun e => ?_) fun e2 => ite2 (fun e1 => ?_) fun e1 => ?_
  ·obtain ⟨pre, x, er, x0, x1, ep, el⟩ := zcP F (.inl e)
   rw [er, ep e] at PA
   obtain ⟨us, ev, lu⟩ := zbl PA
   have : us = [] := List.eq_nil_of_length_eq_zero lu
   rw [ev, this]
   refine ⟨_, zbu, fun l hl => q l _ hl (.laid hl) ?_⟩
   rw [zaa]; unfold nxt; rw [if_neg (by rw [e]; simp [zbg]), if_pos e, el]; rfl
  ·intro l hl
   refine q l _ hl (.laid hl) ?_
   rw [zaa]; unfold nxt; rw [if_pos e1]; rfl
  ·intro p np
   refine zh6 ⟨p, rfl, .inr zaa⟩ ?_
   refine ⟨_, rfl, ?_⟩
   have hp' := zab (u := .lst [.str "zero", .str "none", .str "same"]) hp np
   have top' := zab (u := .lst [.str "zero", .str "none", .str "same"]) top np
   by_cases c : Br r.1
   ·rw [decide_eq_true c, if_pos rfl]
    obtain ⟨pre, x, er, x0, x1, ep, el⟩ := zcP F (.inr c)
    rw [er] at PA
    obtain ⟨us, ev, lu⟩ := zbl PA
    refine ⟨_, by rw [top']; rfl, _, a1, _, rfl, _, by rw [hp']; rfl, .int x, by rw [ev, ← List.cons_append]; exact zb5 _ _, fun l1 nl1 => ⟨x, rfl, by omega, by omega, x0, by omega, fun a2 na2 => ⟨_, rfl, ?_, fun l ns' nl pm st => ?_⟩⟩⟩
    ·unfold zb1; split <;> simp
    ·have S1 : Same H (upd H p (.lst [.str "zero", .str "none", .str "same"])) := .laid np
     have S2 := (S1.step nl1 (u := .lst [.int ((k : Int) + 1), .int x])).step na2 (u := SetO w a2 (zb1 ((k : Int) + 1) x))
     refine q l _ (S2.free nl) (S2.step nl) ?_
     rw [zaa, zcN pm st]
     unfold nxt
     rw [if_neg e1, if_neg e2, if_pos c, el]
   ·rw [decide_eq_false c, if_neg (by simp)]
    intro l nl
    have S1 : Same H (upd H p (.lst [.str "zero", .str "none", .str "same"])) := .laid np
    refine q l _ (S1.free nl) (S1.step nl) ?_
    rw [zaa]; unfold nxt; rw [if_neg e1, if_neg e2, if_neg c]; rfl
end
section
variable {P : Program} {w : World} {K : PySem.W.Frag} {mg : Str → Option Value} {base : Heap} {a : Ad}
theorem zel {ws : List Str} {s : Str} {neg : Bool} {p : Addr} {H : Hp} {Q : VK} (h : SqL K H p (ws.map V.str) ∨ SqT K H p (ws.map V.str)) (q : Q (.bl (if neg then !decide (s ∈ ws) else decide (s ∈ ws))) H) : rIn K neg (.str s) (.ref p) H Q := by
 refine ⟨p, ws.map V.str, rfl, h, rfl, ?_, by rw [zcQ]; exact q⟩
 rw [List.all_map]
 exact List.all_eq_true.mpr fun x _ => rfl
theorem zgv {a : Addr} {ws : List Str} (h : KRp K (.ref a) (.tuple (ws.map PyData.str))) (H : Hp) : SqT K H a (ws.map V.str) := by
 cases h with
 | tup h1 h2 h3 =>
  rename_i xs
  have e : xs = ws.map V.str := by
   apply List.ext_getElem?
   intro i
   rw [List.length_map] at h2
   by_cases c : i < ws.length
   ·have hx := List.getElem?_eq_getElem (l := xs) (i := i) (by omega)
    have := h3 i _ (.str ws[i]) hx (by rw [List.getElem?_map, List.getElem?_eq_getElem c]; rfl)
    rw [hx, List.getElem?_map, List.getElem?_eq_getElem c]
    revert this
    generalize xs[i] = v
    intro this
    cases this
    rfl
   ·rw [List.getElem?_eq_none (by omega), List.getElem?_eq_none (by rw [List.length_map]; omega)]
  rw [← e]
  exact h1 H
def WRw : List Str := ["put", "nil", "copy", "plus", "less", "make", "fetch", "read", "into", "look", "call"]
def wrV (r : Row) : V := if r.1 ∈ WRw then (match r.2.head? with | some (.inl x) => .int x | _ => .non) else .non
theorem LW_w : ∀ p ∈ LW, (p.1 ∈ WRw → p.2.cps[0]? = some 112) ∧ (p.1 ∈ WRw ↔ p.1 ∉ (["hang", "write", "lay", "jump", "zero", "none", "same", "back", "tell", "rest"] : List Str)) := by decide +kernel
theorem ziJ {words many : Int} {sg : List Sg} {r : Row} (F : zaI words many sg r) (h : r.1 ∈ WRw) : ∃ x rest, r.2 = .inl x :: rest := by
 obtain ⟨ls, m, l, pf⟩ := F
 have h0 := (LW_w _ m).1 h
 have l0 : 0 < ls.cps.size := (Array.getElem?_eq_some_iff.mp h0).1
 cases e : r.2 with
 | nil => rw [e] at l; simp at l; omega
 | cons p rest =>
  have fit := pf.at_ 0 112 p h0 (by rw [e]; rfl)
  rcases fit with ⟨_, x, e1, _⟩ | ⟨z, _⟩ | ⟨z, _⟩ | ⟨z, _⟩ | ⟨z, _⟩ | ⟨z, _⟩
  ·rw [e1]; exact ⟨x, rest, rfl⟩
  all_goals omega
def sp_writes : Sp := fun vs H Q _ => ∃ (p : Addr) (r : Row) (words many : Int) (sg : List Sg), vs = [.ref p] ∧ za4 H p r ∧ zaI words many sg r ∧ ∀ H', Same H H' → Q (wrV r) H'
set_option maxHeartbeats 2000000 in
theorem zfF (T : Txt K mg a) : FnOk P w K mg base CX0 1 a.f_writes a.d_writes ["row"] sp_writes := by
 refine T.F_writes.okC sc_writes (fun vs H Q E h => ?_) (fun cdv A outer s H vs Q E hr h => ?_)
 ·obtain ⟨p, r, words, many, sg, rfl, _⟩ := h
  rfl
 ·obtain ⟨p, r, words, many, sg, rfl, RA, F, q⟩ := h
  have hu := zaX hr
  have kw := zgv (ws := WRw) (zfZ T.k_WRITERS)
  refine ⟨_, (@zag _ _ _ (zat (zgT (zar op_in_seq (zah ix_F (pv 0) zaf (fun _ _ => rfl)) (zdl (v := .ref a.g_WRITERS) (by rfl) T.m_WRITERS (by rfl)) (by with_unfolding_all rfl)) (zah ix_F (pv 0) zaf (fun _ _ => rfl)) zdG))), ?_⟩
  obtain ⟨us, hp, PA⟩ := RA
  simp! [hp]
  refine zel (.inr (kw H)) ⟨_, rfl, ?_⟩
  rw [if_neg Bool.false_ne_true]
  have := q H (Same.refl _)
  unfold wrV at this
  by_cases c : r.1 ∈ WRw
  ·rw [if_pos c] at this
   rw [if_pos (by simpa using c)]
   obtain ⟨x, rest, er⟩ := ziJ F c
   rw [er] at PA this
   cases us with
   | nil => have := PA.len; simp at this
   | cons v us =>
    have hv := PA.at_ 0 v (.inl x) rfl rfl
    cases (show v = .int x from hv)
    exact ⟨_, by rw [hp]; rfl, _, zbu, this⟩
  ·rw [if_neg c] at this
   rw [if_neg (by simpa using c)]
   exact this
end
section
variable {P : Program} {w : World} {K : PySem.W.Frag} {mg : Str → Option Value} {base : Heap} {a : Ad}
def zaK (r : Row) (i : Nat) : V := match r.2[i]? with
 | some (.inl x) => .int x
 | _ => .non
def UST : List (Str × List (Nat × Str)) := [("put", []), ("nil", []), ("copy", []), ("plus", [(2, "n"), (3, "n")]), ("less", [(2, "n"), (3, "n")]), ("make", []), ("fetch", [(2, "h")]), ("read", [(2, "h")]), ("hang", [(1, "h"), (3, "h")]), ("write", [(1, "h"), (3, "n")]), ("into", [(2, "h")]), ("jump", []), ("zero", [(1, "n")]), ("none", [(1, "h")]), ("same", [(1, "h"), (2, "h")]), ("tell", [(1, "n")]), ("rest", [])]
def ust (w : Str) : List (Nat × Str) := (UST.lookup w).getD []
def usV (sg : List Sg) (gives : Str) (r : Row) : List (V × V) :=
 if r.1 = "call" then (match r.2 with
  | [_, .inl g, .inr l] => (l.map V.int).zip ((sg.getD g.toNat ("", "")).1.cps.toList.map fun c => V.str ⟨#[c]⟩)
  | _ => [])
 else if r.1 = "back" then [(zaK r 0, .str gives)]
 else if r.1 = "look" then [(zaK r 1, zaK r 2)]
 else if r.1 = "lay" then [(zaK r 0, zaK r 1), (zaK r 2, .str "n")]
 else (ust r.1).map fun q => (zaK r (q.1 - 1), .str q.2)
/-- a list of pairs -/
structure Prs (H : Hp) (l : Addr) (ps : List (V × V)) (rs : List Addr) : Prop where
 top : H l = some (.lst (rs.map V.ref))
 len : rs.length = ps.length
 at_ : ∀ (k : Nat) (r : Addr) (p : V × V), rs[k]? = some r → ps[k]? = some p → H r = some (.tup [p.1, p.2])
def sp_uses : Sp := fun vs H Q _ => ∃ (pl p : Addr) (f : Nat) (das : List (Addr × Addr × List Addr)) (ds : List Df) (d : Df) (r : Row) (words many : Int), vs = [.ref pl, .int f, .ref p] ∧ ProgAt H pl das ds ∧ ds[f]? = some d ∧ za4 H p r ∧ zaI words many (ds.map (·.1)) r ∧ SgFit (ds.map (·.1)) ∧
 ∀ (l : Addr) (rs : List Addr) (H' : Hp), Same H H' → Prs H' l (usV (ds.map (·.1)) d.1.2 r) rs → Q (.ref l) H'
theorem len3 {α : Type} : ∀ {l : List α}, l.length = 3 → ∃ a b c, l = [a, b, c]
 | [a, b, c], _ => ⟨a, b, c, rfl⟩
theorem LW_s : ∀ p ∈ LW, (p.1 = "back" → p.2 = ("p" : Str)) ∧ (p.1 = "look" → p.2 = ("ppp" : Str)) ∧ (p.1 = "lay" → p.2 = ("ppp" : Str)) ∧ (p.1 = "call" → p.2 = ("pfq" : Str)) := by decide +kernel
theorem zd3 {words many : Int} {sg : List Sg} {ps : List Part} {p : Part} (h : za7 words many sg ps 112 p) : ∃ x, p = .inl x := by
 rcases h with ⟨_, x, e1, _⟩ | ⟨z, _⟩ | ⟨z, _⟩ | ⟨z, _⟩ | ⟨z, _⟩ | ⟨z, _⟩
 ·exact ⟨x, e1⟩
 all_goals omega
theorem zek {words many : Int} {sg : List Sg} {r : Row} (F : zaI words many sg r) (h : r.1 = "back") : ∃ x, r.2 = [.inl x] := by
 obtain ⟨ls, m, l, pf⟩ := F
 have e := (LW_s _ m).1 h
 rw [show ls = ("p" : Str) from e] at l pf
 have l' : r.2.length = 1 := l
 obtain ⟨a, ea⟩ := List.length_eq_one_iff.mp l'
 obtain ⟨x, rfl⟩ := zd3 (pf.at_ 0 112 a rfl (by rw [ea]; rfl))
 exact ⟨x, ea⟩
theorem zc9 {words many : Int} {sg : List Sg} {r : Row} (F : zaI words many sg r) (h : r.1 = "look" ∨ r.1 = "lay") : ∃ x y z, r.2 = [.inl x, .inl y, .inl z] := by
 obtain ⟨ls, m, l, pf⟩ := F
 have e : ls = ("ppp" : Str) := by
  rcases h with h | h
  ·exact (LW_s _ m).2.1 h
  ·exact (LW_s _ m).2.2.1 h
 rw [e] at l pf
 have l' : r.2.length = 3 := l
 obtain ⟨a, b, c, ea⟩ := len3 l'
 obtain ⟨x, rfl⟩ := zd3 (pf.at_ 0 112 a rfl (by rw [ea]; rfl))
 obtain ⟨y, rfl⟩ := zd3 (pf.at_ 1 112 b rfl (by rw [ea]; rfl))
 obtain ⟨z, rfl⟩ := zd3 (pf.at_ 2 112 c rfl (by rw [ea]; rfl))
 exact ⟨x, y, z, ea⟩
theorem zb8 {words many : Int} {sg : List Sg} {r : Row} (F : zaI words many sg r) (h : r.1 = "call") : ∃ (x : Int) (g : Nat) (l : List Int) (z : Sg), r.2 = [.inl x, .inl (g : Int), .inr l] ∧ sg[g]? = some z ∧ l.length = z.1.cps.size := by
 obtain ⟨ls, m, l, pf⟩ := F
 have e := (LW_s _ m).2.2.2 h
 rw [show ls = ("pfq" : Str) from e] at l pf
 have l' : r.2.length = 3 := l
 obtain ⟨a, b, c, ea⟩ := len3 l'
 obtain ⟨x, rfl⟩ := zd3 (pf.at_ 0 112 a rfl (by rw [ea]; rfl))
 have q := pf.at_ 2 113 c rfl (by rw [ea]; rfl)
 rcases q with ⟨z, _⟩ | ⟨z, _⟩ | ⟨z, _⟩ | ⟨z, _⟩ | ⟨z, _⟩ | ⟨_, g, l1, z, h1, h2, h3, h4, _⟩
 ·omega
 ·omega
 ·omega
 ·omega
 ·omega
 ·rw [ea] at h1
  cases h1
  subst h3
  exact ⟨x, g, l1, z, ea, h2, h4⟩
theorem zhb {H : Hp} {us : List V} {x : Int} (PA : PartsAt H us [.inl x]) : us = [.int x] := by
 obtain ⟨v, e⟩ := List.length_eq_one_iff.mp PA.len
 subst e
 rw [show v = .int x from PA.at_ 0 v (.inl x) rfl rfl]
theorem zcO {H : Hp} {us : List V} {a b c : Part} (PA : PartsAt H us [a, b, c]) : ∃ u v w, us = [u, v, w] ∧ zbS H u a ∧ zbS H v b ∧ zbS H w c := by
 obtain ⟨u, v, w, e⟩ := len3 PA.len
 subst e
 exact ⟨u, v, w, rfl, PA.at_ 0 u a rfl rfl, PA.at_ 1 v b rfl rfl, PA.at_ 2 w c rfl rfl⟩
theorem Prs.one {H : Hp} {t l : Addr} {x y : V} (ht : H t = some (.tup [x, y])) (hl : H l = some (.lst [.ref t])) : Prs H l [(x, y)] [t] := ⟨hl, rfl, fun k r p h1 h2 => by
 cases k with
 | zero => cases h1; cases h2; exact ht
 | succ k => simp at h1⟩
theorem Prs.two {H : Hp} {t t2 l : Addr} {x y x2 y2 : V} (ht : H t = some (.tup [x, y])) (ht2 : H t2 = some (.tup [x2, y2])) (hl : H l = some (.lst [.ref t, .ref t2])) : Prs H l [(x, y), (x2, y2)] [t, t2] := ⟨hl, rfl, fun k r p h1 h2 => by
 match k, h1, h2 with
 | 0, h1, h2 => cases h1; cases h2; exact ht
 | 1, h1, h2 => cases h1; cases h2; exact ht2
 | k + 2, h1, h2 => simp at h1⟩
def ustD (p : Str × List (Nat × Str)) : PyData × PyData := (.str p.1, .tuple (p.2.map fun q => .tuple [.int q.1, .str q.2]))
theorem kd_uses_eq : kd_USES = .dict (UST.map ustD) := rfl
theorem zex {w : Str} {ps : List (Nat × Str)} : ∀ {D : List (Str × V)} {us : List (Str × List (Nat × Str))}, D.length = us.length → (∀ (i : Nat) (p : Str × V) (q : Str × List (Nat × Str)), D[i]? = some p → us[i]? = some q → p.1 = q.1) → (∀ (i : Nat) (p : Str × V) (q : Str × List (Nat × Str)), D[i]? = some p → us[i]? = some q → KRp K p.2 (ustD q).2) → us.lookup w = some ps → ∃ v, PyProof.Rows.KTD.datumAt w D = some v ∧ KRp K v (ustD (w, ps)).2
 | [], [], _, _, _, h => by simp at h
 | [], u :: us, h, _, _, _ => by simp at h
 | d :: D, [], h, _, _, _ => by simp at h
 | d :: D, u :: us, hl, hk, hv, h => by
  have k0 := hk 0 d u rfl rfl
  have v0 := hv 0 d u rfl rfl
  rw [List.lookup_cons] at h
  split at h
  ·rename_i e
   cases h
   have e2 := eq_of_beq e
   refine ⟨d.2, ?_, v0⟩
   obtain ⟨d1, d2⟩ := d
   have : d1 = w := by rw [e2]; exact k0
   subst this
   simp [PyProof.Rows.KTD.datumAt]
  ·rename_i e
   obtain ⟨v, g1, g2⟩ := zex (D := D) (us := us) (by simpa using hl) (fun i p q h1 h2 => hk (i + 1) p q (by simpa using h1) (by simpa using h2)) (fun i p q h1 h2 => hv (i + 1) p q (by simpa using h1) (by simpa using h2)) h
   refine ⟨v, ?_, g2⟩
   obtain ⟨d1, d2⟩ := d
   have ne : d1 ≠ w := fun z => by
    have : d1 = u.1 := k0
    rw [← this, z] at e
    simp at e
   simp only [PyProof.Rows.KTD.datumAt]
   rw [if_neg (by simpa using Ne.symm ne)]
   exact g1
theorem LW_u : ∀ p ∈ LW, p.1 ≠ "call" → p.1 ≠ "back" → p.1 ≠ "look" → p.1 ≠ "lay" → UST.lookup p.1 = some (ust p.1) ∧ ∀ q ∈ ust p.1, 1 ≤ q.1 ∧ p.2.cps[q.1 - 1]? = some 112 := by decide +kernel
theorem zgI {x : V} {i : Int} {s : Str} (h : KRp K x (.tuple [.int i, .str s])) : ∃ b, x = .ref b ∧ ∀ H, SqT K H b [.int i, .str s] := by
 cases h with
 | tup h1 h2 h3 =>
  rename_i b xs
  refine ⟨b, rfl, ?_⟩
  match xs, h2 with
  | [u, v], _ =>
   have a1 := h3 0 u _ rfl rfl
   have a2 := h3 1 v _ rfl rfl
   cases a1
   cases a2
   exact h1
theorem ust_len : ∀ p ∈ UST, p.2.length ≤ 2 := by decide
theorem zbj {w : Str} {ps : List (Nat × Str)} : ∀ {us : List (Str × List (Nat × Str))}, us.lookup w = some ps → (w, ps) ∈ us
 | [], h => by simp at h
 | u :: us, h => by
  rw [List.lookup_cons] at h
  split at h
  ·rename_i e
   cases h
   rw [eq_of_beq e]
   exact List.mem_cons_self
  ·exact List.mem_cons_of_mem _ (zbj h)
set_option maxHeartbeats 2000000 in
theorem zhm (T : Txt K mg a) : FnOk P w K mg base CX0 1 a.f_uses a.d_uses ["program", "f", "row"] sp_uses := by
 refine T.F_uses.okC sc_uses (fun vs H Q E h => ?_) (fun cdv A outer s H vs Q E hr h => ?_)
 ·obtain ⟨pl, p, f, das, ds, d, r, words, many, rfl, _⟩ := h
  rfl
 ·obtain ⟨pl, p, f, das, ds, d, r, words, many, rfl, PR, hd, RA, F, SF, q⟩ := h
  have hu := zaX hr
  refine ⟨_, (@zae _ _ _ _ _ (zaC (i := 3) sc_uses.nd (by rfl) (Or.inl rfl) (zah ix_F (pv 2) zaf (fun _ _ => rfl)))
   (@zae _ _ _ _ _ (@zaN _ _ _ _ _ _ _ _ (zar op_eq (pv 3) zak (zaB _)) (@zag _ _ _ (zat (zdU (K := K) (by rfl) (by rfl) (by rfl) T.z_list (by rfl) T.z_zip (zad (zah ix_F (pv 2) zaf (fun _ _ => rfl)) (zad (zah ix_F (zah ix_F (pv 0) (zah ix_F (pv 2) zaf (fun _ _ => rfl)) (fun _ _ => rfl)) zaf (fun _ _ => rfl)) pa_nil))))) pss_nil)
   (@zae _ _ _ _ _ (@zaN _ _ _ _ _ _ _ _ (zar op_eq (pv 3) zak (zaB _)) (@zag _ _ _ (zat (zaA (zad (zax (zad (zah ix_F (pv 2) zaf (fun _ _ => rfl)) (zad (zah ix_F (zah ix_F (pv 0) (pv 1) (fun _ _ => rfl)) zaf (fun _ _ => rfl)) pa_nil))) pa_nil)))) pss_nil)
   (@zae _ _ _ _ _ (@zaN _ _ _ _ _ _ _ _ (zar op_eq (pv 3) zak (zaB _)) (@zag _ _ _ (zat (zaA (zad (zax (zad (zah ix_F (pv 2) zaf (fun _ _ => rfl)) (zad (zah ix_F (pv 2) zaf (fun _ _ => rfl)) pa_nil))) pa_nil)))) pss_nil)
   (@zae _ _ _ _ _ (@zaN _ _ _ _ _ _ _ _ (zar op_eq (pv 3) zak (zaB _)) (@zag _ _ _ (zat (zaA (zad (zax (zad (zah ix_F (pv 2) zaf (fun _ _ => rfl)) (zad (zah ix_F (pv 2) zaf (fun _ _ => rfl)) pa_nil))) (zad (zax (zad (zah ix_F (pv 2) zaf (fun _ _ => rfl)) (@zaq _ _ _ _ _ _ pa_nil))) pa_nil))))) pss_nil)
   (@zag _ _ _ (zat (za3 (N' := ["part", "kind", "row"]) (cap := [none, none, some 2]) ⟨rfl, (by decide +kernel), (by decide +kernel), (by rfl), rfl, (by rfl)⟩ (by rfl) (ziL (zhR (K := K) (by rfl) (zdl (v := .ref a.g_USES) (by rfl) T.m_USES (by rfl)) (pv 3) (fun _ _ => rfl))) (fun C_ ex_ s_ H_ => (zb0 (n := 2) (by rfl) (zaH (zav (i := 0) (show (["part", "kind", "row"] : List Str).Nodup by decide +kernel) (by rfl) (Or.inl rfl)) (zaH (zav (i := 1) (show (["part", "kind", "row"] : List Str).Nodup by decide +kernel) (by rfl) (Or.inl rfl)) pgs_nil)))) (zdc (zaY (by rfl) (zaY (by rfl) zb4))) (fun C_ ex_ s_ H_ => zaL) (fun C_ ex_ s_ H_ => (zax (zad (zah ix_F (pv 2) (pv 0) (fun _ _ => rfl)) (@zac _ _ _ _ _ _ (pv 1) pa_nil)))))))))))), ?_⟩
  obtain ⟨us, hp, PA⟩ := RA
  simp! [hp]
  unfold usV at q
  have fl := (List.getElem?_eq_some_iff.mp hd).1
  have lp := PR.len
  have hda := List.getElem?_eq_getElem (l := das) (i := f) (by omega)
  by_cases c1 : r.1 = "call"
  ·rw [if_pos c1]
   rw [if_pos c1] at q
   obtain ⟨x, g, al, z, er, hz, lz⟩ := zb8 F c1
   rw [er] at PA q
   obtain ⟨u, v, w, rfl, p1, p2, p3⟩ := zcO PA
   cases (show u = .int x from p1)
   cases (show v = .int (g : Int) from p2)
   obtain ⟨t, rfl, ht⟩ := p3
   have gl := (List.getElem?_eq_some_iff.mp hz).1
   rw [List.length_map] at gl
   have hg := List.getElem?_eq_getElem gl
   have hga := List.getElem?_eq_getElem (l := das) (i := g) (by omega)
   have hzt := (PR.def_ g _ _ hga hg).1
   have topp := PR.top
   have ag : atI (das.map fun a => V.ref a.1) ((g : Nat) : Int) = some (.ref das[g].1) := zaF (by rw [List.getElem?_map, hga]; rfl)
   dsimp only [zeA]
   simp! [hp, topp, ag, hzt]
   rw [List.getElem?_map, hg] at hz
   cases hz
   have lz' : al.length = ds[g].1.1.cps.size := lz
   have mz : ds[g].1 ∈ ds.map (·.1) := List.mem_map.mpr ⟨_, List.getElem_mem gl, rfl⟩
   obtain ⟨z6, za⟩ := SF.asc _ mz
   have eg : ((ds.map (·.1)).getD ((g : Int)).toNat (("" : Str), ("" : Str))) = ds[g].1 := by
    rw [Int.toNat_natCast, List.getD_eq_getElem?_getD, List.getElem?_map, hg]
    rfl
   dsimp only at q
   rw [eg] at q
   refine ⟨al.map V.int, .inl ⟨t, rfl, .of ht⟩, ds[g].1.1.cps.toList.map (fun c => V.str ⟨#[c]⟩), .inr (.inr ⟨_, rfl, za, rfl⟩), by rw [List.length_map, List.length_map, Array.length_toList]; exact lz', by rw [List.length_map]; omega, fun D rs H' S nD hD lr hr' => q D rs H' S ⟨hD, ?_, fun k r' pp h1 h2 => ?_⟩⟩
   ·rw [lr, List.length_zip, List.length_map, List.length_map]
    rw [show al.length = ds[g].1.1.cps.toList.length from by rw [Array.length_toList]; exact lz', Nat.min_self]
   ·obtain ⟨g1, g2⟩ := List.getElem?_zip_eq_some.mp h2
    exact hr' k r' pp.1 pp.2 h1 g1 g2
  rw [if_neg c1]
  rw [if_neg c1] at q
  by_cases c2 : r.1 = "back"
  ·rw [if_pos c2]
   rw [if_pos c2] at q
   obtain ⟨x, er⟩ := zek F c2
   rw [er] at PA
   have eu := zhb PA
   subst eu
   have hdt := (PR.def_ f _ _ hda hd).1
   have q2 : zaK r 0 = .int x := by unfold zaK; rw [er]; rfl
   rw [q2] at q
   refine ⟨_, zbu, _, by rw [PR.top]; rfl, _, zaF (by rw [List.getElem?_map, hda]; rfl), _, rfl, _, by rw [hdt]; rfl, _, zbu, fun t nt l nl => ?_⟩
   exact q l [t] _ ((Same.laid nt).step nl) (.one (zab zaa nl) zaa)
  rw [if_neg c2]
  rw [if_neg c2] at q
  by_cases c3 : r.1 = "look"
  ·rw [if_pos c3]
   rw [if_pos c3] at q
   obtain ⟨x, y, z, er⟩ := zc9 F (.inl c3)
   rw [er] at PA
   obtain ⟨u, v, w, rfl, p1, p2, p3⟩ := zcO PA
   cases (show u = .int x from p1)
   cases (show v = .int y from p2)
   cases (show w = .int z from p3)
   have q2 : zaK r 1 = .int y := by unfold zaK; rw [er]; rfl
   have q3 : zaK r 2 = .int z := by unfold zaK; rw [er]; rfl
   rw [q2, q3] at q
   refine ⟨_, zeQ, _, zeE, fun t nt l nl => ?_⟩
   exact q l [t] _ ((Same.laid nt).step nl) (.one (zab zaa nl) zaa)
  rw [if_neg c3]
  rw [if_neg c3] at q
  by_cases c4 : r.1 = "lay"
  ·rw [if_pos c4]
   rw [if_pos c4] at q
   obtain ⟨x, y, z, er⟩ := zc9 F (.inr c4)
   rw [er] at PA
   obtain ⟨u, v, w, rfl, p1, p2, p3⟩ := zcO PA
   cases (show u = .int x from p1)
   cases (show v = .int y from p2)
   cases (show w = .int z from p3)
   have q1 : zaK r 0 = .int x := by unfold zaK; rw [er]; rfl
   have q2 : zaK r 1 = .int y := by unfold zaK; rw [er]; rfl
   have q3 : zaK r 2 = .int z := by unfold zaK; rw [er]; rfl
   rw [q1, q2, q3] at q
   refine ⟨_, zbu, _, zeQ, fun t nt => ⟨_, by rw [zab hp nt]; rfl, _, zeE, fun t2 nt2 l nl => ?_⟩⟩
   exact q l [t, t2] _ (((Same.laid nt).step nt2).step nl) (.two (zab (zab zaa nt2) nl) (zab zaa nl) zaa)
  rw [if_neg c4]
  rw [if_neg c4] at q
  obtain ⟨ls, m, l, pf⟩ := F
  obtain ⟨lk, parts⟩ := LW_u _ m c1 c2 c3 c4
  have hK := zfZ T.k_USES
  rw [kd_uses_eq] at hK
  cases hK with
  | dct g1 g2 g3 g4 =>
   rename_i D0
   rw [List.length_map] at g2
   obtain ⟨v, d1, d2⟩ := zex g2 (fun i p q h1 h2 => by
    have := g3 i p (ustD q) h1 (by rw [List.getElem?_map, h2]; rfl)
    exact (PyData.str.inj this).symm) (fun i p q h1 h2 => g4 i p (ustD q) h1 (by rw [List.getElem?_map, h2]; rfl)) lk
   have d3 : KRp K v (.tuple ((ust r.1).map fun q => .tuple [.int q.1, .str q.2])) := d2
   cases d3 with
   | tup e1 e2 e3 =>
    rename_i ta xs
    rw [List.length_map] at e2
    have ul : (ust r.1).length ≤ 2 := ust_len _ (zbj lk)
    refine compT (H1 := H) ta xs (fun Q2 h2 => ⟨_, rfl, a.g_USES, D0, r.1, _, rfl, rfl, g1, d1, h2⟩) (e1 H) (fun D i ys H2 => ∃ rs : List Addr, ys = rs.map V.ref ∧ rs.length = i ∧ Same H H2 ∧ H2 D = some (.lst ys) ∧ ∀ (k : Nat) (r' : Addr) (q : Nat × Str), rs[k]? = some r' → (ust r.1)[k]? = some q → H2 r' = some (.tup [zaK r (q.1 - 1), .str q.2]) ∧ r' ≠ D)
     (fun D nD => ⟨[], rfl, rfl, Same.laid nD, zaa, fun k r' q h => by simp at h⟩) ?_ (by rw [sizeLine_eq]; omega) ?_ ?_
    ·intro D nD i ys H2 hi ⟨rs, ey, el, S, hD, _⟩
     exact ⟨e1 H2, hD, by rw [ey, List.length_map]; omega⟩
    ·intro D nD i x ys H2 hx ⟨rs, ey, el, S, hD, at_⟩
     have il : i < (ust r.1).length := by
      have := (List.getElem?_eq_some_iff.mp hx).1
      omega
     have hq := List.getElem?_eq_getElem il
     obtain ⟨b, rfl, sq⟩ := zgI (e3 i x _ hx (by rw [List.getElem?_map, hq]; rfl))
     obtain ⟨q1, qp⟩ := parts _ (List.getElem_mem il)
     have lk2 : (ust r.1)[i].1 - 1 < r.2.length := by
      have : _ < ls.cps.size := (Array.getElem?_eq_some_iff.mp qp).1
      omega
     have hr2 := List.getElem?_eq_getElem lk2
     obtain ⟨x, ex⟩ := zd3 (pf.at_ _ 112 _ qp hr2)
     rw [ex] at hr2
     have hus := List.getElem?_eq_getElem (l := us) (i := (ust r.1)[i].1 - 1) (by rw [PA.len]; exact lk2)
     have hv := PA.at_ _ _ _ hus hr2
     rw [show us[(ust r.1)[i].1 - 1]'(by rw [PA.len]; exact lk2) = .int x from hv] at hus
     have pv : zaK r ((ust r.1)[i].1 - 1) = .int x := by unfold zaK; rw [hr2]
     have ai : atI (V.str r.1 :: us) (((ust r.1)[i].1 : Nat) : Int) = some (.int x) := zaF (by
      rw [show (ust r.1)[i].1 = ((ust r.1)[i].1 - 1) + 1 from by omega, List.getElem?_cons_succ]
      exact hus)
     have hp2 := S p _ hp
     have sqi := sq H2
     refine ⟨b, _, rfl, sqi, rfl, ?_⟩
     simp! [tTrue, zaM, hp2, ai]
     intro t nt
     have nlD : t ≠ D := fun e => by rw [e, hD] at nt; cases nt
     subst ey
     refine ⟨zab hD nt, rs ++ [t], by rw [List.map_append]; rfl, by rw [List.length_append, el]; rfl, zaz (S.step nt) nD, fun j r' m g1 g2 => ?_⟩
     rcases Nat.lt_trichotomy j i with cc | cc | cc
     ·rw [List.getElem?_append_left (by omega)] at g1
      obtain ⟨q1, q2⟩ := at_ j r' m g1 g2
      exact ⟨by rw [zaj q2]; exact zab q1 nt, q2⟩
     ·rw [List.getElem?_append_right (by omega), cc, el, Nat.sub_self] at g1
      rw [cc, hq] at g2
      cases g1
      cases g2
      exact ⟨by rw [zaj nlD, pv]; exact zaa, nlD⟩
     ·rw [List.getElem?_eq_none (by simp; omega)] at g1
      cases g1
    ·intro D nD ys H2 ⟨rs, ey, el, S, hD, at_⟩
     subst ey
     refine q D rs H2 S ⟨hD, by rw [List.length_map]; omega, fun k r' pp h1 h2 => ?_⟩
     rw [List.getElem?_map] at h2
     obtain ⟨q0, h3, rfl⟩ := Option.map_eq_some_iff.mp h2
     exact (at_ k r' q0 h1 h3).1
end
section
variable {P : Program} {w : World} {K : PySem.W.Frag} {mg : Str → Option Value} {base : Heap} {a : Ad}
theorem za4.same {H H' : Hp} {q : Addr} {r : Row} (S : Same H H') (h : za4 H q r) : za4 H' q r := h.fr (M := fun _ => False) (.of_same S)
theorem RowsOf.same {H H' : Hp} {rl : Addr} {rs : List Addr} {rws : List Row} (S : Same H H') (h : RowsOf H rl rs rws) : RowsOf H' rl rs rws := ⟨S _ _ h.top, h.len, fun i p r h1 h2 => (h.row i p r h1 h2).same S⟩
theorem ProgAt.same {H H' : Hp} {pl : Addr} {das : List (Addr × Addr × List Addr)} {ds : List Df} (S : Same H H') (h : ProgAt H pl das ds) : ProgAt H' pl das ds := ⟨S _ _ h.top, h.len, fun i a d h1 h2 => ⟨S _ _ (h.def_ i a d h1 h2).1, (h.def_ i a d h1 h2).2.same S⟩⟩
theorem ProgAt.get {H : Hp} {pl : Addr} {das : List (Addr × Addr × List Addr)} {ds : List Df} (h : ProgAt H pl das ds) {f : Nat} {d : Df} (e : ds[f]? = some d) : ∃ da, das[f]? = some da ∧ atI (das.map fun a => V.ref a.1) ((f : Nat) : Int) = some (.ref da.1) ∧ H da.1 = some (.tup [.str d.1.1, .str d.1.2, .int d.2.1, .ref da.2.1]) ∧ RowsOf H da.2.1 da.2.2 d.2.2 := by
 have fl := (List.getElem?_eq_some_iff.mp e).1
 have hda := List.getElem?_eq_getElem (l := das) (i := f) (by rw [h.len]; exact fl)
 exact ⟨das[f]'_, hda, zaF (by rw [List.getElem?_map, hda]; rfl), h.def_ f _ d hda e⟩
theorem RowsOf.get {H : Hp} {l : Addr} {rs : List Addr} {rws : List Row} (h : RowsOf H l rs rws) {k : Nat} {r : Row} (e : rws[k]? = some r) : ∃ p, rs[k]? = some p ∧ atI (rs.map V.ref) ((k : Nat) : Int) = some (.ref p) ∧ za4 H p r := by
 have fl := (List.getElem?_eq_some_iff.mp e).1
 have hda := List.getElem?_eq_getElem (l := rs) (i := k) (by rw [h.len]; exact fl)
 exact ⟨rs[k]'_, hda, zaF (by rw [List.getElem?_map, hda]; rfl), h.row k _ r hda e⟩
def sp_places : Sp := fun vs H Q _ => ∃ (pl : Addr) (f : Nat) (das : List (Addr × Addr × List Addr)) (ds : List Df) (d : Df), vs = [.ref pl, .int f] ∧ ProgAt H pl das ds ∧ ds[f]? = some d ∧ Q (.int (8 + d.2.1)) H
set_option maxHeartbeats 1000000 in
theorem zdN (T : Txt K mg a) : FnOk P w K mg base CX0 1 a.f_places_of a.d_places_of ["program", "f"] sp_places := by
 refine T.F_places_of.okC sc_places_of (fun vs H Q E h => ?_) (fun cdv A outer s H vs Q E hr h => ?_)
 ·obtain ⟨pl, f, das, ds, d, rfl, _⟩ := h
  rfl
 ·obtain ⟨pl, f, das, ds, d, rfl, PR, hd, q⟩ := h
  have hu := zaX hr
  refine ⟨_, (@zag _ _ _ (zat (zaJ op_add (zdl (v := .int (8)) (by rfl) T.m_BOXES ⟨_, rfl⟩) (zah ix_F (zah ix_F (pv 0) (pv 1) (fun _ _ => rfl)) zaf (fun _ _ => rfl))))), ?_⟩
  obtain ⟨da, _, a1, a2, _⟩ := PR.get hd
  have top := PR.top
  simp! [top, a1, a2]
  exact q
def wrI (r : Row) : Option Int := if r.1 ∈ WRw then (match r.2.head? with | some (.inl x) => some x | _ => none) else none
def cpy (r : Row) : Option (Int × Int) := if r.1 = "copy" then (match r.2 with | [.inl p, .inl q] => some (p, q) | _ => none) else none
def srcM (r : Row) (q : Int) : Option Int := match cpy r with
 | some (x, y) => if x = q then some y else some q
 | none => if wrI r = some q ∨ (r.1 = "call" ∧ q < 8) then none else some q
def optV : Option Int → V
 | none => .non
 | some x => .int x
theorem LW_c : ∀ p ∈ LW, p.1 = "copy" → p.2 = ("pp" : Str) := by decide +kernel
theorem zbN {words many : Int} {sg : List Sg} {r : Row} (F : zaI words many sg r) (h : r.1 = "copy") : ∃ x y : Int, r.2 = [.inl x, .inl y] ∧ 0 ≤ x ∧ x < 8 + words ∧ 0 ≤ y ∧ y < 8 + words := by
 obtain ⟨ls, m, l, pf⟩ := F
 have := LW_c _ m h
 dsimp only at this
 subst this
 have l2 : r.2.length = 2 := l
 match er : r.2, l2 with
 | [u, v], _ =>
  have h1 := pf.at_ 0 112 u (by decide) (by rw [er]; rfl)
  have h2 := pf.at_ 1 112 v (by decide) (by rw [er]; rfl)
  have key : ∀ {p : Part}, za7 words many sg r.2 112 p → ∃ x, p = .inl x ∧ 0 ≤ x ∧ x < 8 + words := fun {p} h => by
   rcases h with ⟨_, h⟩ | ⟨e, _⟩ | ⟨e, _⟩ | ⟨e, _⟩ | ⟨e, _⟩ | ⟨e, _⟩
   ·exact h
   all_goals exact absurd e (by decide)
  obtain ⟨x, rfl, x0, x1⟩ := key h1
  obtain ⟨y, rfl, y0, y1⟩ := key h2
  exact ⟨x, y, rfl, x0, x1, y0, y1⟩
theorem zg8 {r : Row} : wrV r = optV (wrI r) := by
 unfold wrV wrI
 by_cases c : r.1 ∈ WRw
 ·rw [if_pos c, if_pos c]
  cases r.2.head? with
  | none => rfl
  | some z => cases z <;> rfl
 ·rw [if_neg c, if_neg c]; rfl
def sp_source : Sp := fun vs H Q _ => ∃ (p : Addr) (r : Row) (q words many : Int) (sg : List Sg), vs = [.ref p, .int q] ∧ za4 H p r ∧ zaI words many sg r ∧ ∀ H', Same H H' → Q (optV (srcM r q)) H'
set_option maxHeartbeats 1000000 in
theorem zfE (T : Txt K mg a) : FnOk P w K mg base CX0 2 a.f_source a.d_source ["row", "p"] sp_source := by
 refine T.F_source.okC sc_source (fun vs H Q E h => ?_) (fun cdv A outer s H vs Q E hr h => ?_)
 ·obtain ⟨p, r, q, words, many, sg, rfl, _⟩ := h
  rfl
 ·obtain ⟨p, r, q0, words, many, sg, rfl, RA, F, q⟩ := h
  have hu := zaX hr
  refine ⟨_, (@zae _ _ _ _ _ (@zaN _ _ _ _ _ _ _ _ (PW.pt (zbe (zar op_eq (zah ix_F (pv 0) zaf (fun _ _ => rfl)) zak (zaB _)) (za6 (zar op_eq (zah ix_F (pv 0) zaf (fun _ _ => rfl)) (pv 1) (zaB _))))) (@zag _ _ _ (zat (zah ix_F (pv 0) zaf (fun _ _ => rfl)))) pss_nil)
   (@zae _ _ _ _ _ (@zaN _ _ _ _ _ _ _ _ (PW.pt (zcS (zar op_eq (zam (zfF T) (hr.mono (by decide)) (by rfl) T.m_writes T.F_writes.kp T.b_writes .nil zaD (@zac _ _ _ _ _ _ (pv 0) pa_nil)) (pv 1) (zaB _)) (zck (PW.pt (zbe (zar op_eq (zah ix_F (pv 0) zaf (fun _ _ => rfl)) zak (zaB _)) (za6 (zar op_lt (pv 1) (zdl (v := .int (8)) (by rfl) T.m_BOXES ⟨_, rfl⟩) (zaB _)))))))) (@zag _ _ _ (zat zdG)) pss_nil)
   (@zag _ _ _ (zat (pv 1))))), ?_⟩
  have RA' := RA
  obtain ⟨us, hp, PA⟩ := RA
  generalize hG : tSeq (tIfS (tOr _ _) _ _) (tRet _) = tail
  have tl : (∀ H', Same H H' → Q (optV (if wrI r = some q0 ∨ (r.1 = "call" ∧ q0 < 8) then none else some q0)) H') → tail { nx := fun x H' => Q V.non H', rt := Q } [some (V.ref p), some (V.int q0)] H := by
   intro q
   subst hG
   simp! []
   refine ⟨p, r, words, many, sg, rfl, RA', F, fun H1 S1 => ?_⟩
   have hp1 := S1 _ _ hp
   rw [zg8]
   simp! [hp1]
   have q1 := q H1 S1
   refine ⟨by cases wrI r <;> rfl, ?_⟩
   by_cases c1 : wrI r = some q0
   ·rw [if_pos (.inl c1)] at q1
    rw [if_pos (by rw [c1]; rfl)]
    exact q1
   ·rw [if_neg (fun z => c1 (by cases e : wrI r with | none => rw [e] at z; cases z | some y => rw [e] at z; cases z; rfl))]
    by_cases c2 : r.1 = "call"
    ·rw [if_pos c2]
     by_cases c3 : q0 < 8
     ·rw [if_pos (.inr ⟨c2, c3⟩)] at q1
      rw [if_pos c3]; exact q1
     ·rw [if_neg (fun z => z.elim c1 fun z => c3 z.2)] at q1
      rw [if_neg c3]; exact q1
    ·rw [if_neg (fun z => z.elim c1 fun z => c2 z.1)] at q1
     rw [if_neg c2]; exact q1
  by_cases c : r.1 = "copy"
  ·obtain ⟨x, y, er, _⟩ := zbN F c
   have eus : us = [.int x, .int y] := by
    rw [er] at PA
    match us, PA with
    | [u, v], PA => rw [show u = .int x from PA.at_ 0 u (.inl x) rfl rfl, show v = .int y from PA.at_ 1 v (.inl y) rfl rfl]
    | [], PA => cases PA.len
    | [_], PA => cases PA.len
    | _ :: _ :: _ :: _, PA => exact absurd PA.len (by simp)
   subst eus
   have es : srcM r q0 = if x = q0 then some y else some q0 := by unfold srcM cpy; rw [if_pos c, er]
   have ew : wrI r = some x := by unfold wrI; rw [if_pos (by rw [c]; decide), er]; rfl
   rw [es] at q
   simp! [hp, c]
   refine ite2 (fun cx => ?_) fun cx => tl ?_
   ·rw [if_pos cx] at q; exact q H (Same.refl _)
   ·rw [if_neg cx] at q
    rw [if_neg (fun z => by
     rcases z with z | z
     ·rw [ew] at z; exact cx (Option.some.inj z)
     ·rw [c] at z; have := z.1; simp [zbg] at this)]
    exact q
  ·have es : srcM r q0 = if wrI r = some q0 ∨ (r.1 = "call" ∧ q0 < 8) then none else some q0 := by unfold srcM cpy; rw [if_neg c]
   rw [es] at q
   simp! [hp, c]
   exact tl q
end
section
variable {P : Program} {w : World} {K : PySem.W.Frag} {mg : Str → Option Value} {base : Heap} {a : Ad}
/-- the places that a row uses -/
def usI (sg : List Sg) (gives : Str) (r : Row) : List Int := (usV sg gives r).filterMap fun p => match p.1 with | .int x => some x | _ => none
def PlI (words : Int) (x : Int) : Prop := 0 ≤ x ∧ x < 8 + words
theorem ziI {words many : Int} {sg : List Sg} {ps : List Part} {p : Part} (h : za7 words many sg ps 112 p) : ∃ x, p = .inl x ∧ PlI words x := by
 rcases h with ⟨_, h⟩ | ⟨e, _⟩ | ⟨e, _⟩ | ⟨e, _⟩ | ⟨e, _⟩ | ⟨e, _⟩
 ·exact h
 all_goals exact absurd e (by decide)
theorem zcx {words many : Int} {sg : List Sg} {r : Row} {ls : Str} {k : Nat} (l : r.2.length = ls.cps.size) (pf : PartsFit words many sg ls r.2) (h : ls.cps[k]? = some 112) : ∃ x, r.2[k]? = some (.inl x) ∧ zaK r k = .int x ∧ PlI words x := by
 have kl : k < r.2.length := by rw [l]; exact (Array.getElem?_eq_some_iff.mp h).1
 obtain ⟨x, e, hx⟩ := ziI (pf.at_ k 112 _ h (List.getElem?_eq_getElem kl))
 refine ⟨x, by rw [List.getElem?_eq_getElem kl, e], ?_, hx⟩
 unfold zaK
 rw [List.getElem?_eq_getElem kl, e]
theorem LW_p : ∀ p ∈ LW, (p.1 = "back" → p.2.cps[0]? = some 112) ∧ (p.1 = "look" → p.2.cps[1]? = some 112) ∧ (p.1 = "lay" → p.2.cps[0]? = some 112 ∧ p.2.cps[2]? = some 112) := by decide +kernel
/-- each used pair begins with a place of the def -/
theorem zf0 {words many : Int} {sg : List Sg} {gives : Str} {r : Row} (F : zaI words many sg r) : ∀ p ∈ usV sg gives r, ∃ x, p.1 = .int x ∧ PlI words x := by
 intro p hp
 have F' := F
 obtain ⟨ls, m, l, pf⟩ := F
 obtain ⟨b1, b2, b3⟩ := LW_p _ m
 unfold usV at hp
 split at hp
 ·rename_i c
  obtain ⟨x, g, lq, z, er, hz, ll⟩ := zb8 F' c
  rw [er] at hp
  dsimp only at hp
  have hl := (LW_s _ m).2.2.2 c
  dsimp only at hl
  subst hl
  have h3 := pf.at_ 2 113 (.inr lq) (by decide) (by rw [er]; rfl)
  obtain ⟨a1, a2⟩ := List.of_mem_zip (show (p.1, p.2) ∈ _ from hp)
  obtain ⟨y, hy, e⟩ := List.mem_map.mp a1
  refine ⟨y, e.symm, ?_⟩
  rcases h3 with ⟨e, _⟩ | ⟨e, _⟩ | ⟨e, _⟩ | ⟨e, _⟩ | ⟨e, _⟩ | ⟨_, f, l', z', _, _, e', _, h⟩
  ·exact absurd e (by decide)
  ·exact absurd e (by decide)
  ·exact absurd e (by decide)
  ·exact absurd e (by decide)
  ·exact absurd e (by decide)
  ·cases e'; exact h y hy
 ·split at hp
  ·rename_i c
   obtain ⟨x, _, e, hx⟩ := zcx l pf (b1 c)
   rw [List.mem_singleton.mp hp]
   exact ⟨x, e, hx⟩
  ·split at hp
   ·rename_i c
    obtain ⟨x, _, e, hx⟩ := zcx l pf (b2 c)
    rw [List.mem_singleton.mp hp]
    exact ⟨x, e, hx⟩
   ·split at hp
    ·rename_i c
     obtain ⟨x, _, e, hx⟩ := zcx l pf (b3 c).1
     obtain ⟨y, _, e2, hy⟩ := zcx l pf (b3 c).2
     simp only [List.mem_cons, List.not_mem_nil, or_false] at hp
     rcases hp with rfl | rfl
     ·exact ⟨x, e, hx⟩
     ·exact ⟨y, e2, hy⟩
    ·rename_i c1 c2 c3 c4
     obtain ⟨q, hq, rfl⟩ := List.mem_map.mp hp
     obtain ⟨x, _, e, hx⟩ := zcx l pf ((LW_u _ m c1 c2 c3 c4).2 q hq).2
     exact ⟨x, e, hx⟩
theorem zho {words many : Int} {sg : List Sg} {gives : Str} {r : Row} (F : zaI words many sg r) {x : Int} (h : x ∈ usI sg gives r) : PlI words x := by
 unfold usI at h
 obtain ⟨p, hp, e⟩ := List.mem_filterMap.mp h
 obtain ⟨y, e2, hy⟩ := zf0 F p hp
 rw [e2] at e
 cases e
 exact hy
theorem zcy {words many : Int} {sg : List Sg} {gives : Str} {r : Row} (F : zaI words many sg r) : (usV sg gives r).map (·.1) = (usI sg gives r).map V.int := by
 have key : ∀ l : List (V × V), (∀ p ∈ l, ∃ x, p.1 = .int x ∧ PlI words x) → l.map (·.1) = (l.filterMap fun p => match p.1 with | .int x => some x | _ => none).map V.int := by
  intro l
  induction l with
  | nil => intro _; rfl
  | cons p l ih =>
   intro h
   obtain ⟨x, e, _⟩ := h p (by simp)
   rw [List.map_cons, ih fun q hq => h q (by simp [hq]), List.filterMap_cons, e]
   rfl
 exact key _ (zf0 F)
end
section
variable {P : Program} {w : World} {K : PySem.W.Frag} {mg : Str → Option Value} {base : Heap} {a : Ad}
structure PrI (H : Hp) (l : Addr) (as : List Addr) (ps : List (Nat × Int)) : Prop where
 top : H l = some (.lst (as.map V.ref))
 len : as.length = ps.length
 at_ : ∀ (i : Nat) (a : Addr) (p : Nat × Int), as[i]? = some a → ps[i]? = some p → H a = some (.tup [.int p.1, .int p.2])
theorem PrI.same {H H' : Hp} {l : Addr} {as : List Addr} {ps : List (Nat × Int)} (x : PrI H l as ps) (S : Same H H') : PrI H' l as ps := ⟨S _ _ x.top, x.len, fun i a p h1 h2 => S _ _ (x.at_ i a p h1 h2)⟩
theorem PrI.app {H H' : Hp} {l m : Addr} {as bs : List Addr} {ps qs : List (Nat × Int)} (x : PrI H l as ps) (len : bs.length = qs.length) (at_ : ∀ (i : Nat) (a : Addr) (p : Nat × Int), bs[i]? = some a → qs[i]? = some p → H' a = some (.tup [.int p.1, .int p.2])) (k : ∀ q xs, H q = some (.tup xs) → H' q = some (.tup xs)) (top : H' l = some (.lst ((as ++ bs).map V.ref))) : PrI H' l (as ++ bs) (ps ++ qs) :=
 ⟨top, by rw [List.length_append, List.length_append, x.len, len], fun i a p h1 h2 => by
  by_cases c : i < ps.length
  ·rw [List.getElem?_append_left (by rw [x.len]; exact c)] at h1
   rw [List.getElem?_append_left c] at h2
   exact k _ _ (x.at_ i a p h1 h2)
  ·rw [List.getElem?_append_right (by rw [x.len]; omega), x.len] at h1
   rw [List.getElem?_append_right (by omega)] at h2
   exact at_ _ a p h1 h2⟩
def upAt (sg : List Sg) (gives : Str) (rws : List Row) (k : Nat) : List (Nat × Int) := match rws[k]? with | some r => (usI sg gives r).map fun p => (k, p) | none => []
def upTo (sg : List Sg) (gives : Str) (rws : List Row) (k : Nat) : List (Nat × Int) := (List.range k).flatMap (upAt sg gives rws)
theorem zdO {sg : List Sg} {gives : Str} {rws : List Row} {k : Nat} : upTo sg gives rws (k + 1) = upTo sg gives rws k ++ upAt sg gives rws k := by unfold upTo; rw [List.range_succ, List.flatMap_append]; simp
theorem zcm {words many : Int} {sg : List Sg} {gives : Str} {r : Row} (F : zaI words many sg r) (S : SgFit sg) : (usI sg gives r).length ≤ 6 := by
 refine Nat.le_trans (List.length_filterMap_le _ _) ?_
 have F' := F
 obtain ⟨ls, m, l, pf⟩ := F
 unfold usV
 split
 ·rename_i c
  obtain ⟨x, g, lq, z, er, hz, ll⟩ := zb8 F' c
  rw [er]
  dsimp only
  rw [List.length_zip, List.length_map]
  have := S.sz z (List.mem_of_getElem? hz)
  omega
 ·split
  ·simp
  ·split
   ·simp
   ·split
    ·simp
    ·rw [List.length_map]
     rename_i c1 c2 c3 c4
     have := (LW_u _ m c1 c2 c3 c4).1
     have := ust_len _ (zbj this)
     dsimp only at this
     omega
theorem zcU {sg : List Sg} {gives : Str} {rws : List Row} (h : ∀ r ∈ rws, (usI sg gives r).length ≤ 6) : ∀ k, (upTo sg gives rws k).length ≤ 6 * k
 | 0 => by simp [upTo]
 | k + 1 => by
  have := zcU h k
  rw [zdO, List.length_append]
  have : (upAt sg gives rws k).length ≤ 6 := by
   unfold upAt
   cases e : rws[k]? with
   | none => simp
   | some r => dsimp only; rw [List.length_map]; exact h r (List.mem_of_getElem? e)
  omega
def sp_used : Sp := fun vs H Q _ => ∃ (pl : Addr) (f : Nat) (das : List (Addr × Addr × List Addr)) (ds : List Df) (d : Df), vs = [.ref pl, .int f] ∧ ProgAt H pl das ds ∧ ds[f]? = some d ∧ ProgFit ds ∧ ∀ (l : Addr) (as : List Addr) (H' : Hp), Same H H' → PrI H' l as (upTo (ds.map (·.1)) d.1.2 d.2.2 d.2.2.length) → Q (.ref l) H'
set_option maxHeartbeats 2000000 in
theorem zc7 (T : Txt K mg a) : FnOk P w K mg base CX0 2 a.f_used_pairs a.d_used_pairs ["program", "f"] sp_used := by
 refine T.F_used_pairs.okC sc_used_pairs (fun vs H Q E h => ?_) (fun cdv A outer s H vs Q E hr h => ?_)
 ·obtain ⟨pl, f, das, ds, d, rfl, _⟩ := h
  rfl
 ·obtain ⟨pl, f, das, ds, d, rfl, PR, hd, PF, q⟩ := h
  have hu := zaX hr
  refine ⟨_, (@zae _ _ _ _ _ (zaC (i := 2) sc_used_pairs.nd (by rfl) (Or.inl rfl) (zaA pa_nil))
   (@zae _ _ _ _ _ (za0 PassesOwn.never (by rfl) (zhC (by rfl) T.z_enumerate (zad (zah ix_F (zah ix_F (pv 0) (pv 1) (fun _ _ => rfl)) zaf (fun _ _ => rfl)) pa_nil)) (zb0 (n := 2) (by rfl) (zaH (zav (i := 3) sc_used_pairs.nd (by rfl) (Or.inr rfl)) (zaH (zav (i := 4) sc_used_pairs.nd (by rfl) (Or.inl rfl)) pgs_nil)))
   (@zag _ _ _ (zaS (zbq PySem.F.plainAttrs_list PySem.F.slot_list_extend PySem.F.type_list_extend mt_extend (pv 2) (zad (za3 (N' := ["p", "kind", "at"]) (cap := [none, none, some 3]) ⟨rfl, (by decide +kernel), (by decide +kernel), (by rfl), rfl, (by rfl)⟩ (by rfl) (zaO (zam (zhm T) (hr.mono (by decide)) (by rfl) T.m_uses T.F_uses.kp T.b_uses .nil zaD (@zac _ _ _ _ _ _ (pv 0) (@zac _ _ _ _ _ _ (pv 1) (@zac _ _ _ _ _ _ (pv 4) pa_nil))))) (fun C_ ex_ s_ H_ => (zb0 (n := 2) (by rfl) (zaH (zav (i := 0) (show (["p", "kind", "at"] : List Str).Nodup by decide +kernel) (by rfl) (Or.inl rfl)) (zaH (zav (i := 1) (show (["p", "kind", "at"] : List Str).Nodup by decide +kernel) (by rfl) (Or.inl rfl)) pgs_nil)))) (zdc (zaY (by rfl) (zaY (by rfl) zb4))) (fun C_ ex_ s_ H_ => zaL) (fun C_ ex_ s_ H_ => (zax (@zac _ _ _ _ _ _ (pv 2) (@zac _ _ _ _ _ _ (pv 0) pa_nil))))) pa_nil)))))
   (@zag _ _ _ (zat (pv 2))))), ?_⟩
  obtain ⟨da, hda, a1, a2, RW⟩ := PR.get hd
  have top := PR.top
  have DF := PF.defs d (List.mem_of_getElem? hd)
  have n40 := DF.n1
  have uln := zcU (sg := ds.map (·.1)) (gives := d.1.2) (rws := d.2.2) fun r hr => zcm (DF.rows r hr) PF.sg
  generalize hG : tSeq (tFor _ _ _) _ = tail
  simp! []
  intro L nL
  have S1 : Same H (upd H L (.lst [])) := .laid nL
  have e1 : upd H L (.lst []) L = some (.lst []) := zaa
  revert S1 e1
  generalize upd H L (.lst []) = H1
  intro S1 e1
  have rt := RW.top
  have rt1 := S1 _ _ rt
  have top1 := S1 _ _ top
  have a21 := S1 _ _ a2
  subst hG
  generalize hG : tRet _ = tail
  refine forE (K := K) (H1 := H1) da.2.1 (da.2.2.map V.ref) (fun Q2 h2 => by simp! [top1, a1, a21]; exact h2) (fun i σ H2 => ∃ (as : List Addr) (v3 v4 : Option V), σ = [some (V.ref pl), some (V.int f), some (V.ref L), v3, v4] ∧ PrI H2 L as (upTo (ds.map (·.1)) d.1.2 d.2.2 i) ∧ Same H H2) ⟨[], _, _, rfl, ⟨e1, rfl, fun i a p h => by simp at h⟩, S1⟩ (fun i σ H2 _ ⟨_, _, _, _, _, S2⟩ => .of (S2 _ _ rt)) ?_ ?_
  ·rintro i x p σ H2 hx ⟨as, v3, v4, rfl, PI, S2⟩ np
   obtain ⟨rp, hrp, rfl⟩ := zay hx
   have il : i < d.2.2.length := by rw [← RW.len]; exact (List.getElem?_eq_some_iff.mp hrp).1
   have hr := List.getElem?_eq_getElem il
   have RF := DF.rows _ (List.getElem_mem il)
   revert hr RF
   generalize d.2.2[i] = r
   intro hr RF
   have RA := RW.row i rp r hrp hr
   have S23 : Same H2 (upd H2 p (.tup [.int i, .ref rp])) := .laid np
   refine zbA zaa rfl ?_
   revert S23
   generalize upd H2 p (.tup [.int i, .ref rp]) = H3
   intro S23
   have S3 := S2.trans S23
   have PI3 := PI.same S23
   simp! [tBM]
   refine ⟨.inl ⟨rfl, _, .of PI3.top⟩, ?_⟩
   refine zfm (fun ul H4 => ∃ rs, Same H3 H4 ∧ Prs H4 ul (usV (ds.map (·.1)) d.1.2 r) rs) (fun Q2 hQ => ?_) ?_
   ·simp! []
    exact ⟨pl, rp, f, das, ds, d, r, _, _, rfl, PR.same S3, hd, RA.same S3, RF, PF.sg, fun l rs H4 S4 P4 => hQ _ _ ⟨rs, S4, P4⟩⟩
   rintro ul H4 ⟨us, S4, P4⟩
   have ulen : us.length = (usI (ds.map (·.1)) d.1.2 r).length := by rw [P4.len, ← List.length_map (f := (·.1)), zcy RF, List.length_map]
   have u6 := zcm (gives := d.1.2) RF PF.sg
   refine zdz (H1 := H4) ul (us.map V.ref) (fun Q2 h2 => h2) (.of P4.top) (fun D j ys H5 => ∃ bs : List Addr, ys = bs.map V.ref ∧ bs.length = j ∧ Same H4 H5 ∧ H5 D = some (.lst ys) ∧ ∀ (k : Nat) (b : Addr) (x : Int), bs[k]? = some b → (usI (ds.map (·.1)) d.1.2 r)[k]? = some x → H5 b = some (.tup [.int i, .int x]))
    (fun D hD => ⟨[], rfl, rfl, .laid hD, zaa, fun k b x h => by simp at h⟩) ?_ (by rw [sizeLine_eq, List.length_map]; omega) ?_ ?_
   ·rintro D hD j ys H5 hj ⟨bs, rfl, lb, S5, hD5, at5⟩
    exact ⟨.of (S5 _ _ P4.top), hD5, by rw [List.length_map]; omega⟩
   ·rintro D hD j x ys H5 hx ⟨bs, rfl, lb, S5, hD5, at5⟩
    obtain ⟨ua, hua, rfl⟩ := zay hx
    have jl : j < us.length := (List.getElem?_eq_some_iff.mp hua).1
    obtain ⟨pv, hp⟩ : ∃ pv, (usV (ds.map (·.1)) d.1.2 r)[j]? = some pv := ⟨_, List.getElem?_eq_getElem (by rw [← P4.len]; exact jl)⟩
    have e4 := P4.at_ j ua _ hua hp
    obtain ⟨xv, hx2⟩ : ∃ xv, (usI (ds.map (·.1)) d.1.2 r)[j]? = some xv := ⟨_, List.getElem?_eq_getElem (by omega)⟩
    have ex : pv.1 = .int xv := by
     have := congrArg (fun l => l[j]?) (zcy (gives := d.1.2) RF)
     simp only [List.getElem?_map, hp, hx2, Option.map_some] at this
     exact Option.some.inj this
    refine zbA (S5 _ _ e4) rfl ?_
    simp! [zaM, tTrue]
    intro t nt
    refine ⟨zab hD5 nt, bs ++ [t], by rw [List.map_append]; rfl, by rw [List.length_append, lb]; rfl, ?_, fun k b x h1 h2 => ?_⟩
    ·exact zaz (fun q o h => zab (S5 _ _ h) nt) hD
    ·have nDt : t ≠ D := fun z => by rw [z, hD5] at nt; cases nt
     by_cases ck : k < bs.length
     ·rw [List.getElem?_append_left ck] at h1
      have := zab (u := .tup [V.int i, pv.1]) (at5 k b x h1 h2) nt
      rw [zaj (fun z => by rw [z, zab hD5 nt] at this; cases this)]
      exact this
     ·have hk := (List.getElem?_eq_some_iff.mp h1).1
      rw [List.length_append, List.length_singleton] at hk
      rw [List.getElem?_append_right (by omega), show k - bs.length = 0 by omega] at h1
      cases h1
      rw [show k = j by omega, hx2] at h2
      cases h2
      rw [zaj nDt, zaa, ex]
   ·rintro D hD ys H5 ⟨bs, rfl, lb, S5, hD5, at5⟩
    rw [List.length_map] at lb
    have S35 := S4.trans S5
    have PI5 := PI3.same S35
    have lp := PI5.len
    have l5 := uln i
    refine ⟨L, D, _, _, rfl, rfl, PI5.top, hD5, by rw [sizeLine_eq, List.length_map, List.length_map, lp]; omega, ?_⟩
    rw [← List.map_append]
    refine ⟨as ++ bs, ?_, zaz (fun q o h => (S3.trans S35) _ _ h) nL⟩
    rw [zdO]
    have ea : upAt (ds.map (·.1)) d.1.2 d.2.2 i = (usI (ds.map (·.1)) d.1.2 r).map fun p => (i, p) := by unfold upAt; rw [hr]
    refine PI5.app (m := D) (by rw [ea, List.length_map]; omega) (fun k b pr h1 h2 => ?_) (fun q xs h => by rw [zaj (fun z => by rw [z, PI5.top] at h; cases h)]; exact h) zaa
    rw [ea, List.getElem?_map] at h2
    obtain ⟨x, hx3, rfl⟩ := Option.map_eq_some_iff.mp h2
    have := at5 k b x h1 hx3
    rw [zaj (fun z => by rw [z, PI5.top] at this; cases this)]
    exact this
  ·rintro σ H2 ⟨as, v3, v4, rfl, PI, S2⟩
   subst hG
   simp! []
   rw [List.length_map, RW.len] at PI
   exact q L as H2 S2 PI
end
section
variable {P : Program} {w : World} {K : PySem.W.Frag} {mg : Str → Option Value} {base : Heap} {a : Ad}
theorem zia {l : List Addr} (h : l.Nodup) {i j : Nat} {x : Addr} (h1 : l[i]? = some x) (h2 : l[j]? = some x) : i = j := by
 have pw := List.pairwise_iff_getElem.mp h
 obtain ⟨i1, e1⟩ := List.getElem?_eq_some_iff.mp h1
 obtain ⟨j1, e2⟩ := List.getElem?_eq_some_iff.mp h2
 rcases Nat.lt_trichotomy i j with c | c | c
 ·exact absurd (e1.trans e2.symm) (pw i j i1 j1 c)
 ·exact c
 ·exact absurd (e2.trans e1.symm) (pw j i j1 i1 c)
theorem zfR {rws : List Row} (h : zdq rws) {k : Nat} {r : Row} (hk : rws[k]? = some r) (n1 : r.1 ≠ "back") (n2 : r.1 ≠ "jump") : k + 1 < rws.length := by
 obtain ⟨rl, e, hr⟩ := h
 have kl := (List.getElem?_eq_some_iff.mp hk).1
 by_cases c : k + 1 < rws.length
 ·exact c
 ·rw [List.getLast?_eq_getElem?, show rws.length - 1 = k by omega, hk] at e
  cases e
  rcases hr with z | z
  ·exact absurd z n1
  ·exact absurd z n2
theorem zhg {words : Int} {sg : List Sg} {rws : List Row} (L : zdq rws) (F : ∀ r ∈ rws, zaI words rws.length sg r) {k : Nat} {r : Row} (hk : rws[k]? = some r) : ∀ t ∈ nxt r k, 0 ≤ t ∧ t < rws.length := by
 intro t ht
 have RF := F r (List.mem_of_getElem? hk)
 unfold nxt at ht
 by_cases e1 : r.1 = "back"
 ·rw [if_pos e1] at ht; cases ht
 ·rw [if_neg e1] at ht
  by_cases e2 : r.1 = "jump"
  ·rw [if_pos e2] at ht
   obtain ⟨pre, x, er, x0, x1, ep, el⟩ := zcP RF (.inl e2)
   rw [List.mem_singleton.mp ht, el]
   exact ⟨x0, x1⟩
  ·rw [if_neg e2] at ht
   have := zfR L hk e1 e2
   by_cases e3 : Br r.1
   ·rw [if_pos e3] at ht
    obtain ⟨pre, x, er, x0, x1, ep, el⟩ := zcP RF (.inr e3)
    rw [el] at ht
    unfold twoI at ht
    split at ht
    ·rw [List.mem_singleton.mp ht]; omega
    ·split at ht
     ·simp only [List.mem_cons, List.not_mem_nil, or_false] at ht
      rcases ht with rfl | rfl <;> omega
     ·simp only [List.mem_cons, List.not_mem_nil, or_false] at ht
      rcases ht with rfl | rfl <;> omega
   ·rw [if_neg e3] at ht
    rw [List.mem_singleton.mp ht]; omega
theorem zif {r : Row} {k : Int} : (nxt r k).Nodup := by
 unfold nxt twoI
 split
 ·simp
 ·split
  ·simp
  ·split
   ·split
    ·simp
    ·split <;> simp <;> omega
   ·simp
theorem zhn {l : List Int} (h : l.Nodup) {j : Nat} {x : Int} (hj : l[j]? = some x) : x ∉ l.take j := fun m => by
 obtain ⟨i, hi⟩ := List.mem_iff_getElem?.mp m
 have il := (List.getElem?_eq_some_iff.mp hi).1
 rw [List.length_take] at il
 rw [List.getElem?_take_of_lt (by omega)] at hi
 obtain ⟨i1, e1⟩ := List.getElem?_eq_some_iff.mp hi
 obtain ⟨j1, e2⟩ := List.getElem?_eq_some_iff.mp hj
 exact absurd (e1.trans e2.symm) (List.pairwise_iff_getElem.mp h i j i1 j1 (by omega))
theorem zhl {r : Row} {k : Int} : (nxt r k).length ≤ 2 := by
 unfold nxt twoI
 split
 ·simp
 ·split
  ·simp
  ·split
   ·split
    ·simp
    ·split <;> simp
   ·simp
/-- whether row t may come next behind row a -/
def Nx (rws : List Row) (a t : Nat) : Prop := ∃ r, rws[a]? = some r ∧ (t : Int) ∈ nxt r a
structure FdAt (H : Hp) (l : Addr) (ls : List Addr) (n : Nat) (bf : Nat → List Nat) : Prop where
 top : H l = some (.lst (ls.map V.ref))
 len : ls.length = n
 nd : ls.Nodup
 nl : l ∉ ls
 at_ : ∀ (t : Nat) (a : Addr), ls[t]? = some a → H a = some (.lst ((bf t).map fun x : Nat => V.int x))
def sp_bef : Sp := fun vs H Q _ => ∃ (rl : Addr) (rs : List Addr) (rws : List Row) (words : Int) (sg : List Sg), vs = [.ref rl] ∧ RowsOf H rl rs rws ∧ (∀ r ∈ rws, zaI words rws.length sg r) ∧ zdq rws ∧ rws.length ≤ 40 ∧ ∀ (l : Addr) (ls : List Addr) (bf : Nat → List Nat) (H' : Hp), Same H H' → FdAt H' l ls rws.length bf → (∀ t, t < rws.length → ∀ a, a ∈ bf t ↔ Nx rws a t) → (∀ t, (bf t).length ≤ 80 ∧ (t < rws.length → (bf t).Nodup)) → Q (.ref l) H'
set_option maxHeartbeats 2000000 in
theorem ze2 (T : Txt K mg a) : FnOk P w K mg base CX0 2 a.f_befores a.d_befores ["rows"] sp_bef := by
 refine T.F_befores.okC sc_befores (fun vs H Q E h => ?_) (fun cdv A outer s H vs Q E hr h => ?_)
 ·obtain ⟨rl, rs, rws, words, sg, rfl, _⟩ := h
  rfl
 ·obtain ⟨rl, rs, rws, words, sg, rfl, RW, RF, LO, n40, q⟩ := h
  have hu := zaX hr
  refine ⟨_, (@zae _ _ _ _ _ (zco (i := 1) sc_befores.nd (by rfl) (Or.inl rfl) (N' := ["row"]) (cap := [none]) ⟨rfl, (by decide +kernel), (by decide +kernel), (by rfl), rfl, (by rfl)⟩ (by rfl) (zaO (pv 0)) (fun C_ ex_ s_ H_ => (zav (i := 0) (show (["row"] : List Str).Nodup by decide +kernel) (by rfl) (Or.inl rfl))) zaR (fun C_ ex_ s_ H_ => zaL) (fun C_ ex_ s_ H_ => (zaA pa_nil)))
   (@zae _ _ _ _ _ (za0 PassesOwn.never (by rfl) (zaW (by rfl) T.z_range (zad (zaE call_lenF (by rfl) T.z_len (by decide +kernel) (@zac _ _ _ _ _ _ (pv 0) pa_nil)) pa_nil)) (zav (i := 2) sc_befores.nd (by rfl) (Or.inl rfl))
   (@zag _ _ _ (za0 PassesOwn.never (by rfl) (zaO (zam (zgq T) (hr.mono (by decide)) (by rfl) T.m_nexts T.F_nexts.kp T.b_nexts .nil zaD (@zac _ _ _ _ _ _ (pv 0) (@zac _ _ _ _ _ _ (pv 2) pa_nil)))) (zav (i := 3) sc_befores.nd (by rfl) (Or.inl rfl))
   (@zag _ _ _ (zaS (zbq PySem.F.plainAttrs_list PySem.F.slot_list_append PySem.F.type_list_append mt_append (zah ix_F (pv 1) (pv 3) (fun _ _ => rfl)) (@zac _ _ _ _ _ _ (pv 2) pa_nil)))))))
   (@zag _ _ _ (zat (pv 1))))), ?_⟩
  have rt := RW.top
  have lrs := RW.len
  generalize hG : tSeq (tFor _ _ _) _ = tail
  simp! []
  refine zdz (H1 := H) rl (rs.map V.ref) (fun Q2 h2 => by simp! []; exact h2) (.of rt) (fun D j ys H2 => ∃ ls : List Addr, ys = ls.map V.ref ∧ ls.length = j ∧ ls.Nodup ∧ D ∉ ls ∧ Same H H2 ∧ H2 D = some (.lst ys) ∧ ∀ a ∈ ls, H2 a = some (.lst []) ∧ H a = none)
   (fun D hD => ⟨[], rfl, rfl, .nil, by simp, .laid hD, zaa, fun a h => by simp at h⟩) ?_ (by rw [sizeLine_eq, List.length_map]; omega) ?_ ?_
  ·rintro D hD j ys H2 hj ⟨ls, rfl, ll, nd, nD, S2, hD2, at2⟩
   exact ⟨.of (S2 _ _ rt), hD2, by rw [List.length_map]; omega⟩
  ·rintro D hD j x ys H2 hx ⟨ls, rfl, ll, nd, nD, S2, hD2, at2⟩
   simp! [zaM, tTrue]
   intro t nt
   have ntl : t ∉ ls := fun m => by rw [(at2 t m).1] at nt; cases nt
   have ntD : t ≠ D := fun z => by rw [z, hD2] at nt; cases nt
   refine ⟨zab hD2 nt, ls ++ [t], by rw [List.map_append]; rfl, by rw [List.length_append, ll]; rfl, ?_, ?_, ?_, fun b hb => ?_⟩
   ·rw [List.nodup_append]
    exact ⟨nd, by simp, fun x hx y hy => by rw [List.mem_singleton.mp hy]; exact fun z => ntl (z ▸ hx)⟩
   ·rw [List.mem_append, List.mem_singleton]
    exact fun z => z.elim nD fun z => ntD z.symm
   ·exact zaz (fun q o h => zab (S2 _ _ h) nt) hD
   ·rcases List.mem_append.mp hb with h | h
    ·rw [zaj (fun z => nD (by rw [← z]; exact h))]; exact ⟨zab (at2 b h).1 nt, (at2 b h).2⟩
    ·rw [List.mem_singleton.mp h, zaj ntD]; exact ⟨zaa, S2.free nt⟩
  ·rintro D hD ys H2 ⟨ls, rfl, ll, nd, nD, S2, hD2, at2⟩
   rw [List.length_map, lrs] at ll
   subst hG
   have FD0 : FdAt H2 D ls rws.length fun _ => [] := ⟨hD2, ll, nd, nD, fun t a h => (at2 a (List.mem_of_getElem? h)).1⟩
   have fresh : ∀ a ∈ ls, H a = none := fun a m => (at2 a m).2
   clear at2 hD2
   have rt2 := S2 _ _ rt
   generalize hG : tRet _ = tail
   refine for1 (H1 := H2) (rws.length : Int) (fun Q2 h2 => by simp! [rt2, List.length_map, lrs]; exact h2) (by omega) (by omega) (fun i σ H3 => ∃ (bf : Nat → List Nat) (v2 v3 : Option V), σ = [some (V.ref rl), some (V.ref D), v2, v3] ∧ FdAt H3 D ls rws.length bf ∧ (∀ t, t < rws.length → ∀ a, a ∈ bf t ↔ a < i ∧ Nx rws a t) ∧ (∀ t, (bf t).length ≤ 2 * i ∧ (t < rws.length → (bf t).Nodup)) ∧ Same H H3)
    ⟨fun _ => [], _, _, rfl, FD0, fun t _ a => by simp, fun _ => ⟨Nat.le_refl _, fun _ => .nil⟩, S2⟩ ?_ ?_
   ·rintro i σ H3 hi ⟨bf, v2, v3, rfl, FD, mem, bl, S3⟩
    have il : i < rws.length := by omega
    have hri := List.getElem?_eq_getElem il
    have RFi := RF _ (List.getElem_mem il)
    revert hri RFi
    generalize rws[i] = r
    intro hri RFi
    have nin := zhg LO RF hri
    have nlen := zhl (r := r) (k := (i : Int))
    simp! []
    refine zfb (fun nl H4 => Same H3 H4 ∧ H3 nl = none ∧ H4 nl = some (.lst ((nxt r i).map V.int))) (fun Q2 hQ => ?_) ?_
    ·simp! []
     exact ⟨rl, i, rs, rws, r, words, rws.length, sg, by simp, RW.fr (M := fun _ => False) (.of_same S3) id, hri, RFi, by omega, by omega, fun l H4 nl S4 e4 => hQ l H4 ⟨S4, nl, e4⟩⟩
    rintro nl H4 ⟨S34, nnl, e4⟩
    have S4 := S3.trans S34
    have FD4 : FdAt H4 D ls rws.length bf := ⟨S34 _ _ FD.top, FD.len, FD.nd, FD.nl, fun t a h => S34 _ _ (FD.at_ t a h)⟩
    have nlD : nl ≠ D := fun z => by rw [z, FD.top] at nnl; cases nnl
    have nll : nl ∉ ls := fun m => by
     obtain ⟨t, ht⟩ := List.mem_iff_getElem?.mp m
     rw [FD.at_ t nl ht] at nnl; cases nnl
    refine forL (H1 := H4) nl ((nxt r i).map V.int) (fun Q2 h2 => h2) (fun j σ H5 => ∃ (bf : Nat → List Nat) (v3 : Option V), σ = [some (V.ref rl), some (V.ref D), some (V.int i), v3] ∧ FdAt H5 D ls rws.length bf ∧ (∀ t, t < rws.length → ∀ a, a ∈ bf t ↔ (a < i ∧ Nx rws a t) ∨ (a = i ∧ (t : Int) ∈ (nxt r i).take j)) ∧ (∀ t, (bf t).length ≤ 2 * i + j ∧ (t < rws.length → (bf t).Nodup)) ∧ Same H H5 ∧ H5 nl = some (.lst ((nxt r i).map V.int)))
     ⟨bf, _, by rw [Int.zero_add], FD4, fun t ht a => by rw [mem t ht a]; simp, fun t => bl t, S4, e4⟩ (fun j σ H5 _ ⟨_, _, _, _, _, _, _, e5⟩ => .of e5) ?_ ?_
    ·rintro j x σ H5 hx ⟨bf, v3, rfl, FD5, mem5, bl5, S5, e5⟩
     obtain ⟨t, ht, rfl⟩ := zay hx
     obtain ⟨t0, t1⟩ := nin t (List.mem_of_getElem? ht)
     obtain ⟨tN, rfl⟩ := Int.eq_ofNat_of_zero_le t0
     have jl := (List.getElem?_eq_some_iff.mp ht).1
     obtain ⟨ta, hta⟩ : ∃ ta, ls[tN]? = some ta := ⟨_, List.getElem?_eq_getElem (by rw [FD5.len]; omega)⟩
     have eta := FD5.at_ tN ta hta
     have top5 := FD5.top
     have mta := List.mem_of_getElem? hta
     simp! [tBM, top5]
     refine ⟨.ref ta, zaF (by rw [List.getElem?_map, hta]; rfl), .inl ⟨rfl, _, .of eta⟩, ta, _, _, rfl, rfl, eta, by rw [sizeLine_eq, List.length_map]; have := (bl5 tN).1; omega, ?_⟩
     have ntD : ta ≠ D := fun z => FD5.nl (by rw [← z]; exact mta)
     refine ⟨fun t' => if t' = tN then bf t' ++ [i] else bf t', ⟨by rw [zaj (Ne.symm ntD)]; exact top5, FD5.len, FD5.nd, FD5.nl, fun t' a' ha' => ?_⟩, fun t' ht' a' => ?_, fun t' => ?_, zaz (fun q o h => S5 _ _ h) (fresh ta mta), by rw [zaj (fun z => nll (by rw [z]; exact mta))]; exact e5⟩
     ·by_cases ct : t' = tN
      ·subst ct
       rw [hta] at ha'
       cases ha'
       rw [zaa, if_pos rfl, List.map_append]; rfl
      ·rw [if_neg ct, zaj (fun z => ct ?_)]
       ·exact FD5.at_ t' a' ha'
       ·subst z
        exact zia FD5.nd ha' hta
     ·rw [List.take_succ, ht]
      dsimp only
      by_cases ct : t' = tN
      ·subst ct
       rw [if_pos rfl, List.mem_append, mem5 t' ht' a']
       simp only [List.mem_singleton, Option.toList_some, List.mem_append]
       constructor
       ·rintro ((h | h) | h)
        ·exact .inl h
        ·exact .inr ⟨h.1, .inl h.2⟩
        ·exact .inr ⟨h, .inr trivial⟩
       ·rintro (h | ⟨h, h2 | h2⟩)
        ·exact .inl (.inl h)
        ·exact .inl (.inr ⟨h, h2⟩)
        ·exact .inr h
      ·rw [if_neg ct, mem5 t' ht' a']
       simp only [Option.toList_some, List.mem_append, List.mem_singleton]
       constructor
       ·rintro (h | h)
        ·exact .inl h
        ·exact .inr ⟨h.1, .inl h.2⟩
       ·rintro (h | ⟨h, h2 | h2⟩)
        ·exact .inl h
        ·exact .inr ⟨h, h2⟩
        ·exact absurd (by omega) ct
     ·dsimp only
      by_cases ct : t' = tN
      ·rw [if_pos ct]
       refine ⟨by rw [List.length_append]; have := (bl5 t').1; simp; omega, fun tl => ?_⟩
       rw [List.nodup_append]
       refine ⟨(bl5 t').2 tl, by simp, fun x hx7 y hy => ?_⟩
       rw [List.mem_singleton.mp hy]
       intro z
       subst z
       have := (mem5 t' tl x).mp hx7
       rcases this with h | h
       ·omega
       ·have h2 := h.2; rw [ct] at h2; exact zhn zif ht h2
      ·rw [if_neg ct]; exact ⟨by have := (bl5 t').1; omega, (bl5 t').2⟩
    ·rintro σ H5 ⟨bf, v3, rfl, FD5, mem5, bl5, S5, e5⟩
     refine ⟨bf, _, _, rfl, FD5, fun t ht a => ?_, fun t => ?_, S5⟩
     ·rw [mem5 t ht a, List.length_map, List.take_length]
      constructor
      ·rintro (h | ⟨rfl, h⟩)
       ·exact ⟨by omega, h.2⟩
       ·exact ⟨by omega, r, hri, h⟩
      ·rintro ⟨h1, h2⟩
       by_cases ca : a = i
       ·subst ca
        obtain ⟨r', e1, e2⟩ := h2
        rw [hri] at e1
        cases e1
        exact .inr ⟨rfl, e2⟩
       ·exact .inl ⟨by omega, h2⟩
     ·have := bl5 t
      rw [List.length_map] at this
      exact ⟨by omega, this.2⟩
   ·rintro σ H3 ⟨bf, v2, v3, rfl, FD, mem, bl, S3⟩
    rw [Int.toNat_natCast] at mem bl
    subst hG
    simp! []
    refine q D ls bf H3 S3 FD (fun t ht a => ?_) (fun t => ⟨by have := (bl t).1; omega, (bl t).2⟩)
    rw [mem t ht a]
    exact ⟨fun h => h.2, fun h => ⟨by obtain ⟨r, e, _⟩ := h; exact (List.getElem?_eq_some_iff.mp e).1, h⟩⟩
end
section
variable {P : Program} {w : World} {K : PySem.W.Frag} {mg : Str → Option Value} {base : Heap} {a : Ad}
theorem zbk {α : Type} [DecidableEq α] : ∀ {a b : List α}, a.Nodup → (∀ x ∈ a, x ∈ b) → a.length ≤ b.length
 | [], _, _, _ => Nat.zero_le _
 | x :: r, b, n, h => by
  obtain ⟨nx, nr⟩ := List.nodup_cons.mp n
  have hx := h x List.mem_cons_self
  have := zbk (b := b.erase x) nr fun y hy => (List.mem_erase_of_ne (show y ≠ x from fun e => nx (by rw [← e]; exact hy))).mpr (h y (List.mem_cons_of_mem _ hy))
  rw [List.length_erase_of_mem hx] at this
  have := List.length_pos_of_mem hx
  rw [List.length_cons]; omega
abbrev Pr := Nat × Int
def kk (q : Pr) : List Key := [.inl (q.1 : Int), .inl q.2]
theorem zen {p q : Pr} (h : kk p = kk q) : p = q := by
 unfold kk at h
 simp only [List.cons.injEq, Sum.inl.injEq, and_true] at h
 exact Prod.ext (by omega) h.2
def boxL : List Pr := (List.range 40).flatMap fun a => (List.range 24).map fun p : Nat => (a, (p : Int))
theorem zba {words : Int} {n : Nat} (w1 : words ≤ 16) (n40 : n ≤ 40) {ps : List Pr} (nd : ps.Nodup) (h : ∀ q ∈ ps, q.1 < n ∧ PlI words q.2) : ps.length ≤ 960 := by
 have := zbk (b := boxL) nd fun q hq => by
  obtain ⟨h1, h2, h3⟩ := h q hq
  refine List.mem_flatMap.mpr ⟨q.1, List.mem_range.mpr (by omega), List.mem_map.mpr ⟨q.2.toNat, List.mem_range.mpr (by omega), ?_⟩⟩
  exact Prod.ext rfl (by show ((q.2.toNat : Nat) : Int) = q.2; omega)
 rw [show boxL.length = 960 by decide +kernel] at this
 exact this
theorem zhO {kvs : List (List Key × V)} {k : List Key} : (valV kvs k).isSome = true ↔ k ∈ kvs.map (·.1) := by
 rw [← zbo, List.any_eq_true, List.mem_map]
 constructor
 ·rintro ⟨p, hp, e⟩; exact ⟨p, hp, by simpa using e⟩
 ·rintro ⟨p, hp, e⟩; exact ⟨p, hp, by simpa using e⟩
structure Nd (sg : List Sg) (gives : Str) (rws : List Row) (words : Int) : Prop where
 sf : SgFit sg
 fit : ∀ r ∈ rws, zaI words rws.length sg r
 last : zdq rws
 w0 : 0 ≤ words
 w1 : words ≤ 16
 n40 : rws.length ≤ 40
def UsAt (sg : List Sg) (gives : Str) (rws : List Row) (q : Pr) : Prop := ∃ r, rws[q.1]? = some r ∧ q.2 ∈ usI sg gives r
/-- what is in q travels behind its row to x of row t -/
def Goes (rws : List Row) (q : Pr) (t : Nat) (x : Int) : Prop := Nx rws q.1 t ∧ ∃ r, rws[q.1]? = some r ∧ srcM r x = some q.2
def Clo (rws : List Row) (ps : List Pr) (z : Pr) : Prop := ∀ q, Goes rws q z.1 z.2 → q ∈ ps
structure NInv (sg : List Sg) (gives : Str) (rws : List Row) (words : Int) (ps T : List Pr) : Prop where
 nd : ps.Nodup
 box : ∀ q ∈ ps, q.1 < rws.length ∧ PlI words q.2
 why : ∀ q ∈ ps, UsAt sg gives rws q ∨ ∃ t x, Goes rws q t x ∧ (t, x) ∈ ps
 use : ∀ q, UsAt sg gives rws q → q ∈ ps
 clo : ∀ q ∈ ps, q ∈ T ∨ Clo rws ps q
 sub : ∀ q ∈ T, q ∈ ps
theorem zh3 {words : Int} {n : Int} {sg : List Sg} {r : Row} (F : zaI words n sg r) {x y : Int} (hx : PlI words x) (h : srcM r x = some y) : PlI words y := by
 unfold srcM at h
 by_cases c : r.1 = "copy"
 ·obtain ⟨p, q, er, p0, p1, q0, q1⟩ := zbN F c
  have : cpy r = some (p, q) := by unfold cpy; rw [if_pos c, er]
  rw [this] at h
  dsimp only at h
  split at h
  ·cases h; exact ⟨q0, q1⟩
  ·cases h; exact hx
 ·have : cpy r = none := by unfold cpy; rw [if_neg c]
  rw [this] at h
  dsimp only at h
  split at h
  ·cases h
  ·cases h; exact hx
abbrev RL := List Sg × Str × List Row
/-- what is in q comes to a use -/
inductive Need (R : RL) : Pr → Prop
 | use {q : Pr} : UsAt R.1 R.2.1 R.2.2 q → Need R q
 | go {q z : Pr} : Goes R.2.2 q z.1 z.2 → Need R z → Need R q
def VOk (R : RL) (H : Hp) (ps : List Pr) (kvs : List (List Key × V)) : Prop := ∀ (i : Nat) (p : List Key × V) (q : Pr), kvs[i]? = some p → ps[i]? = some q →
 (p.2 = .non ∧ UsAt R.1 R.2.1 R.2.2 q) ∨ ∃ (b : Addr) (z : Pr), p.2 = .ref b ∧ H b = some (.tup [.int z.1, .int z.2]) ∧ z ∈ ps.take i ∧ Goes R.2.2 q z.1 z.2
theorem VOk.tups {R : RL} {H H' : Hp} {ps : List Pr} {kvs : List (List Key × V)} (x : VOk R H ps kvs) (k : ∀ b xs, H b = some (.tup xs) → H' b = some (.tup xs)) : VOk R H' ps kvs := fun i p q h1 h2 => by
 rcases x i p q h1 h2 with h | ⟨b, z, e1, e2, e3, e4⟩
 ·exact .inl h
 ·exact .inr ⟨b, z, e1, k _ _ e2, e3, e4⟩
def StK (H : Hp) (D : Addr) (ps : List Pr) : Prop := ∃ kvs : List (List Key × V), H D = some (.dT kvs) ∧ kvs.map (·.1) = ps.map kk
def StD (R : RL) (H : Hp) (D : Addr) (ps : List Pr) : Prop := ∃ kvs : List (List Key × V), H D = some (.dT kvs) ∧ kvs.map (·.1) = ps.map kk ∧ VOk R H ps kvs
theorem StD.k {R : RL} {H : Hp} {D : Addr} {ps : List Pr} (x : StD R H D ps) : StK H D ps := let ⟨kvs, a, b, _⟩ := x; ⟨kvs, a, b⟩
theorem StD.same {R : RL} {H H' : Hp} {D : Addr} {ps : List Pr} (x : StD R H D ps) (S : Same H H') : StD R H' D ps := let ⟨kvs, a, b, c⟩ := x; ⟨kvs, S _ _ a, b, c.tups fun q xs e => S _ _ e⟩
theorem StD.fr {R : RL} {M : Addr → Prop} {H H' : Hp} {D : Addr} {ps : List Pr} (x : StD R H D ps) (f : Fr M H H') (n : ¬ M D) : StD R H' D ps := let ⟨kvs, a, b, c⟩ := x; ⟨kvs, f.keep _ _ a n, b, c.tups fun q xs e => f.tups _ _ e⟩
theorem StK.same {H H' : Hp} {D : Addr} {ps : List Pr} (x : StK H D ps) (S : Same H H') : StK H' D ps := let ⟨kvs, a, b⟩ := x; ⟨kvs, S _ _ a, b⟩
theorem StK.fr {M : Addr → Prop} {H H' : Hp} {D : Addr} {ps : List Pr} (x : StK H D ps) (f : Fr M H H') (n : ¬ M D) : StK H' D ps := let ⟨kvs, a, b⟩ := x; ⟨kvs, f.keep _ _ a n, b⟩
theorem zb9 {ps : List Pr} {kvs : List (List Key × V)} (h : kvs.map (·.1) = ps.map kk) : kvs.length = ps.length := by
 have := congrArg List.length h
 simpa using this
theorem zey {ps : List Pr} {kvs : List (List Key × V)} (h : kvs.map (·.1) = ps.map kk) {q : Pr} : (valV kvs (kk q)).isSome = decide (q ∈ ps) := by
 rw [Bool.eq_iff_iff, zhO, h, decide_eq_true_eq, List.mem_map]
 exact ⟨fun ⟨p, hp, e⟩ => by rw [← zen e]; exact hp, fun hq => ⟨q, hq, rfl⟩⟩
theorem StK.get {H : Hp} {D b : Addr} {ps : List Pr} (x : StK H D ps) {q : Pr} (hb : H b = some (.tup [.int q.1, .int q.2])) : ∃ o, DGet H D (.ref b) o ∧ o.isSome = decide (q ∈ ps) := by
 obtain ⟨kvs, e1, e2⟩ := x
 exact ⟨_, DGet.t (k := kk q) e1 hb, zey e2⟩
theorem zdy {ps : List Pr} {kvs : List (List Key × V)} (h : kvs.map (·.1) = ps.map kk) {q : Pr} (c : q ∉ ps) (v : V) : putK kvs (kk q) v = kvs ++ [(kk q, v)] := by
 rw [zgj _ (by have := zey h (q := q); rw [decide_eq_false c] at this; cases e : valV kvs (kk q) with | none => rfl | some y => rw [e] at this; cases this)]
theorem StK.put {H : Hp} {D b : Addr} {ps : List Pr} (x : StK H D ps) (l : ps.length ≤ 1000) {q : Pr} {v : V} (c : q ∉ ps) (hb : H b = some (.tup [.int q.1, .int q.2])) : ∃ H', DPut H D (.ref b) v H' ∧ StK H' D (ps ++ [q]) ∧ ∀ c, c ≠ D → H' c = H c := by
 obtain ⟨kvs, e1, e2⟩ := x
 have ln := zb9 e2
 refine ⟨_, DPut.t (k := kk q) e1 hb (by rw [sizeLine_eq]; omega), ⟨_, zaa, ?_⟩, fun c hc => zaj hc⟩
 rw [zdy e2 c, List.map_append, List.map_append, e2]
 rfl
theorem zgg {kvs : List (List Key × V)} {k : List Key} {v : V} (h : (valV kvs k).isSome = true) (i : Nat) : (putK kvs k v)[i]? = (kvs[i]?).map fun p => if p.1 = k then (p.1, v) else p := by
 unfold putK
 rw [zbo, h, if_pos rfl, List.getElem?_map]
theorem StD.put {R : RL} {H : Hp} {D b : Addr} {ps : List Pr} (x : StD R H D ps) (l : ps.length ≤ 1000) {q : Pr} (us : UsAt R.1 R.2.1 R.2.2 q) (hb : H b = some (.tup [.int q.1, .int q.2])) : ∃ H', DPut H D (.ref b) .non H' ∧ StD R H' D (if q ∈ ps then ps else ps ++ [q]) ∧ ∀ c, c ≠ D → H' c = H c := by
 obtain ⟨kvs, e1, e2, e3⟩ := x
 have ln := zb9 e2
 have tp : ∀ (o : HO) (c : Addr) (xs : List V), H c = some (.tup xs) → upd H D o c = some (.tup xs) := fun o c xs h => by rw [zaj (fun z => by rw [z, e1] at h; cases h)]; exact h
 refine ⟨_, DPut.t (k := kk q) e1 hb (by rw [sizeLine_eq]; omega), ⟨_, zaa, ?_, ?_⟩, fun c hc => zaj hc⟩
 ·by_cases c : q ∈ ps
  ·rw [if_pos c]
   unfold putK
   rw [zbo, zey e2, if_pos (by simpa using c), List.map_map, ← e2]
   refine List.map_congr_left fun p _ => ?_
   show (if p.1 = kk q then (p.1, V.non) else p).1 = p.1
   split <;> rfl
  ·rw [if_neg c, zdy e2 c, List.map_append, List.map_append, e2]
   rfl
 ·by_cases c : q ∈ ps
  ·rw [if_pos c]
   intro i p q' h1 h2
   rw [zgg (by rw [zey e2]; exact decide_eq_true c)] at h1
   obtain ⟨p0, h0, rfl⟩ := Option.map_eq_some_iff.mp h1
   have ek : p0.1 = kk q' := by
    have := congrArg (fun l => l[i]?) e2
    simp only [List.getElem?_map, h0, h2, Option.map_some] at this
    exact Option.some.inj this
   by_cases d : p0.1 = kk q
   ·rw [if_pos d]
    have : q' = q := zen (ek.symm.trans d)
    subst this
    exact .inl ⟨rfl, us⟩
   ·rw [if_neg d]
    exact e3.tups (tp _) i p0 q' h0 h2
  ·rw [if_neg c, zdy e2 c]
   intro i p q' h1 h2
   by_cases d : i < ps.length
   ·rw [List.getElem?_append_left (by omega)] at h1
    rw [List.getElem?_append_left d] at h2
    rcases e3.tups (tp _) i p q' h1 h2 with h | ⟨b, z, g1, g2, g3, g4⟩
    ·exact .inl h
    ·exact .inr ⟨b, z, g1, g2, by rw [List.take_append_of_le_length (Nat.le_of_lt d)]; exact g3, g4⟩
   ·have il := (List.getElem?_eq_some_iff.mp h2).1
    rw [List.length_append, List.length_singleton] at il
    rw [List.getElem?_append_right (by omega), show i - kvs.length = 0 by omega] at h1
    rw [List.getElem?_append_right (by omega), show i - ps.length = 0 by omega] at h2
    cases h1
    cases h2
    exact .inl ⟨rfl, us⟩
theorem StD.putN {R : RL} {H : Hp} {D b t : Addr} {ps : List Pr} (x : StD R H D ps) (l : ps.length ≤ 1000) {q z : Pr} (c : q ∉ ps) (hb : H b = some (.tup [.int q.1, .int q.2])) (ht : H t = some (.tup [.int z.1, .int z.2])) (zin : z ∈ ps) (g : Goes R.2.2 q z.1 z.2) : ∃ H', DPut H D (.ref b) (.ref t) H' ∧ StD R H' D (ps ++ [q]) ∧ ∀ c, c ≠ D → H' c = H c := by
 obtain ⟨kvs, e1, e2, e3⟩ := x
 have ln := zb9 e2
 have tp : ∀ (o : HO) (c : Addr) (xs : List V), H c = some (.tup xs) → upd H D o c = some (.tup xs) := fun o c xs h => by rw [zaj (fun z => by rw [z, e1] at h; cases h)]; exact h
 refine ⟨_, DPut.t (k := kk q) e1 hb (by rw [sizeLine_eq]; omega), ⟨_, zaa, ?_, ?_⟩, fun c hc => zaj hc⟩
 ·rw [zdy e2 c, List.map_append, List.map_append, e2]
  rfl
 ·rw [zdy e2 c]
  intro i p q' h1 h2
  by_cases d : i < ps.length
  ·rw [List.getElem?_append_left (by omega)] at h1
   rw [List.getElem?_append_left d] at h2
   rcases e3.tups (tp _) i p q' h1 h2 with h | ⟨b, z, g1, g2, g3, g4⟩
   ·exact .inl h
   ·exact .inr ⟨b, z, g1, g2, by rw [List.take_append_of_le_length (Nat.le_of_lt d)]; exact g3, g4⟩
  ·have il := (List.getElem?_eq_some_iff.mp h2).1
   rw [List.length_append, List.length_singleton] at il
   rw [List.getElem?_append_right (by omega), show i - kvs.length = 0 by omega] at h1
   rw [List.getElem?_append_right (by omega), show i - ps.length = 0 by omega] at h2
   cases h1
   cases h2
   exact .inr ⟨t, z, rfl, tp _ _ _ ht, by rw [show i = ps.length by omega, List.take_append_of_le_length (Nat.le_refl _), List.take_length]; exact zin, g⟩
theorem StD.need {R : RL} {H : Hp} {D : Addr} {ps : List Pr} (x : StD R H D ps) : ∀ (i : Nat) (q : Pr), ps[i]? = some q → Need R q := by
 obtain ⟨kvs, e1, e2, e3⟩ := x
 intro i
 induction i using Nat.strongRecOn with
 | ind i ih =>
  intro q hq
  have il := (List.getElem?_eq_some_iff.mp hq).1
  have hp := List.getElem?_eq_getElem (l := kvs) (i := i) (by rw [zb9 e2]; exact il)
  rcases e3 i _ q hp hq with ⟨_, u⟩ | ⟨b, z, _, _, m, g⟩
  ·exact .use u
  ·obtain ⟨j, hj⟩ := List.mem_iff_getElem?.mp m
   have jl := (List.getElem?_eq_some_iff.mp hj).1
   rw [List.length_take] at jl
   rw [List.getElem?_take_of_lt (by omega)] at hj
   exact .go g (ih j (by omega) z hj)
theorem NInv.need {sg : List Sg} {gives : Str} {rws : List Row} {words : Int} {ps : List Pr} (x : NInv sg gives rws words ps []) {q : Pr} (h : Need (sg, gives, rws) q) : q ∈ ps := by
 induction h with
 | use u => exact x.use _ u
 | go g _ ih =>
  rcases x.clo _ ih with z | z
  ·cases z
  ·exact z _ g
end
section
variable {P : Program} {w : World} {K : PySem.W.Frag} {mg : Str → Option Value} {base : Heap} {a : Ad}
def SrcA (rws : List Row) (b : Nat) (p : Int) : Option Int := (rws[b]?).bind fun r => srcM r p
def newF (rws : List Row) (ps : List Pr) (p : Int) (b : Nat) : Option Pr := match SrcA rws b p with | some y => if (b, y) ∈ ps then none else some (b, y) | none => none
theorem zbE {rws : List Row} {ps : List Pr} {p : Int} {b : Nat} {q : Pr} (h : newF rws ps p b = some q) : q.1 = b ∧ SrcA rws b p = some q.2 ∧ q ∉ ps := by
 unfold newF at h
 split at h
 ·rename_i y e
  split at h
  ·cases h
  ·rename_i c; cases h; exact ⟨rfl, e, c⟩
 ·cases h
theorem zhJ {rws : List Row} {ps : List Pr} {p : Int} {B : List Nat} (nd : B.Nodup) : (B.filterMap (newF rws ps p)).Nodup := by
 induction B with
 | nil => exact .nil
 | cons b B ih =>
  obtain ⟨h1, h2⟩ := List.nodup_cons.mp nd
  rw [List.filterMap_cons]
  split
  ·exact ih h2
  ·rename_i q e
   refine List.nodup_cons.mpr ⟨fun m => ?_, ih h2⟩
   obtain ⟨b', hb', e'⟩ := List.mem_filterMap.mp m
   have := (zbE e).1.symm.trans (zbE e').1
   exact h1 (this ▸ hb')
theorem zff {rws : List Row} {ps : List Pr} {z q : Pr} {B : List Nat} {F : List Pr} (hF : B.filterMap (newF rws ps z.2) = F) (hB : ∀ b, b ∈ B ↔ Nx rws b z.1) (h : q ∈ F) : Goes rws q z.1 z.2 := by
 rw [← hF] at h
 obtain ⟨b, hb, e⟩ := List.mem_filterMap.mp h
 obtain ⟨e1, e2, e3⟩ := zbE e
 obtain ⟨r, hr, e4⟩ := Option.bind_eq_some_iff.mp e2
 rw [← e1] at hr
 exact ⟨by rw [e1]; exact (hB b).mp hb, r, hr, e4⟩
structure MInv (sg : List Sg) (gives : Str) (rws : List Row) (words : Int) (ps M T : List Pr) : Prop where
 nd : (ps ++ M).Nodup
 box : ∀ q ∈ ps ++ M, q.1 < rws.length ∧ PlI words q.2
 why : ∀ q ∈ ps ++ M, UsAt sg gives rws q ∨ ∃ t x, Goes rws q t x ∧ (t, x) ∈ ps ++ M
 use : ∀ q, UsAt sg gives rws q → q ∈ ps ++ M
 clo : ∀ q ∈ ps ++ M, q ∈ T ∨ q ∈ M ∨ Clo rws (ps ++ M) q
 sub : ∀ q ∈ T, q ∈ ps
theorem MInv.step {sg : List Sg} {gives : Str} {rws : List Row} {words : Int} {ps M T : List Pr} {z : Pr} {B : List Nat} (N : Nd sg gives rws words) (x : MInv sg gives rws words ps M (z :: T)) (hB : ∀ b, b ∈ B ↔ Nx rws b z.1) (nB : B.Nodup) : MInv sg gives rws words ps (M ++ B.filterMap (newF rws (ps ++ M) z.2)) T := by
 have mem : ∀ {q : Pr}, q ∈ ps ++ (M ++ B.filterMap (newF rws (ps ++ M) z.2)) ↔ q ∈ ps ++ M ∨ q ∈ B.filterMap (newF rws (ps ++ M) z.2) := by intro q; simp only [List.mem_append, or_assoc]
 have zin : z ∈ ps ++ M := List.mem_append_left _ (x.sub z (by simp))
 have zpl := (x.box z zin).2
 have new : ∀ q ∈ B.filterMap (newF rws (ps ++ M) z.2), Goes rws q z.1 z.2 ∧ q ∉ ps ++ M ∧ ∃ r, rws[q.1]? = some r ∧ srcM r z.2 = some q.2 := fun q hq => by
  obtain ⟨b, hb, e⟩ := List.mem_filterMap.mp hq
  obtain ⟨e1, e2, e3⟩ := zbE e
  obtain ⟨r, hr, e4⟩ := Option.bind_eq_some_iff.mp e2
  rw [← e1] at hr
  exact ⟨⟨by rw [e1]; exact (hB b).mp hb, r, hr, e4⟩, e3, r, hr, e4⟩
 refine ⟨?_, fun q hq => ?_, fun q hq => ?_, fun q hq => mem.mpr (.inl (x.use q hq)), fun q hq => ?_, fun q hq => x.sub q (by simp [hq])⟩
 ·rw [← List.append_assoc, List.nodup_append]
  exact ⟨x.nd, zhJ nB, fun u hu v hv e => (new v hv).2.1 (e ▸ hu)⟩
 ·rcases mem.mp hq with h | h
  ·exact x.box q h
  ·obtain ⟨_, _, r, hr, e⟩ := new q h
   exact ⟨(List.getElem?_eq_some_iff.mp hr).1, zh3 (N.fit r (List.mem_of_getElem? hr)) zpl e⟩
 ·rcases mem.mp hq with h | h
  ·rcases x.why q h with u | ⟨t, y, g, m⟩
   ·exact .inl u
   ·exact .inr ⟨t, y, g, mem.mpr (.inl m)⟩
  ·exact .inr ⟨z.1, z.2, (new q h).1, mem.mpr (.inl zin)⟩
 ·rcases mem.mp hq with h | h
  ·rcases x.clo q h with m | m | c
   ·rcases List.mem_cons.mp m with rfl | m
    ·refine .inr (.inr fun p gp => ?_)
     obtain ⟨nx, r, hr, e⟩ := gp
     by_cases c : p ∈ ps ++ M
     ·exact mem.mpr (.inl c)
     ·refine mem.mpr (.inr (List.mem_filterMap.mpr ⟨p.1, (hB p.1).mpr nx, ?_⟩))
      unfold newF
      rw [show SrcA rws p.1 q.2 = some p.2 by unfold SrcA; rw [hr]; exact e]
      dsimp only
      rw [if_neg c]
    ·exact .inl m
   ·exact .inr (.inl (List.mem_append_left _ m))
   ·exact .inr (.inr fun p gp => mem.mpr (.inl (c p gp)))
  ·exact .inr (.inl (List.mem_append_right _ h))
def sp_steps : Sp := fun vs H Q _ => ∃ (pl : Addr) (f : Nat) (das : List (Addr × Addr × List Addr)) (ds : List Df) (d : Df), vs = [.ref pl, .int f] ∧ ProgAt H pl das ds ∧ ds[f]? = some d ∧ ProgFit ds ∧ ∀ (D : Addr) (ps : List Pr) (H' : Hp), Same H H' → StD (ds.map (·.1), d.1.2, d.2.2) H' D ps → NInv (ds.map (·.1)) d.1.2 d.2.2 d.2.1 ps [] → Q (.ref D) H'
theorem DfFit.nd {ds : List Df} {d : Df} (PF : ProgFit ds) (h : d ∈ ds) : Nd (ds.map (·.1)) d.1.2 d.2.2 d.2.1 := by
 have DF := PF.defs d h
 exact ⟨PF.sg, DF.rows, DF.last, DF.w0, DF.w1, DF.n1⟩
theorem zc6 {sg : List Sg} {gives : Str} {rws : List Row} {q : Pr} : q ∈ upTo sg gives rws rws.length ↔ UsAt sg gives rws q := by
 unfold upTo UsAt
 rw [List.mem_flatMap]
 constructor
 ·rintro ⟨a, ha, hq⟩
  unfold upAt at hq
  cases e : rws[a]? with
  | none => rw [e] at hq; cases hq
  | some r =>
   rw [e] at hq
   obtain ⟨p, hp, rfl⟩ := List.mem_map.mp hq
   exact ⟨r, e, hp⟩
 ·rintro ⟨r, e, hp⟩
  refine ⟨q.1, List.mem_range.mpr (List.getElem?_eq_some_iff.mp e).1, ?_⟩
  unfold upAt
  rw [e]
  exact List.mem_map.mpr ⟨q.2, hp, rfl⟩
theorem zfd {sg : List Sg} {gives : Str} {rws : List Row} {words : Int} (N : Nd sg gives rws words) {q : Pr} (h : UsAt sg gives rws q) : q.1 < rws.length ∧ PlI words q.2 := by
 obtain ⟨r, e, hp⟩ := h
 exact ⟨(List.getElem?_eq_some_iff.mp e).1, zho (N.fit r (List.mem_of_getElem? e)) hp⟩
set_option maxHeartbeats 4000000 in
theorem zbb (T : Txt K mg a) : FnOk P w K mg base CX0 3 a.f_steps_to_uses a.d_steps_to_uses ["program", "f"] sp_steps := by
 refine T.F_steps_to_uses.okC sc_steps_to_uses (fun vs H Q E h => ?_) (fun cdv A outer s H vs Q E hr h => ?_)
 ·obtain ⟨pl, f, das, ds, d, rfl, _⟩ := h
  rfl
 ·obtain ⟨pl, f, das, ds, d, rfl, PR, hd, PF, q⟩ := h
  have hu := zaX hr
  refine ⟨_, (@zae _ _ _ _ _ (zaC (i := 2) sc_steps_to_uses.nd (by rfl) (Or.inr rfl) (zah ix_F (zah ix_F (pv 0) (pv 1) (fun _ _ => rfl)) zaf (fun _ _ => rfl)))
   (@zae _ _ _ _ _ (zaC (i := 3) sc_steps_to_uses.nd (by rfl) (Or.inl rfl) (zam (ze2 T) (hr.mono (by decide)) (by rfl) T.m_befores T.F_befores.kp T.b_befores .nil zaD (@zac _ _ _ _ _ _ (pv 2) pa_nil)))
   (@zae _ _ _ _ _ (zaC (i := 4) sc_steps_to_uses.nd (by rfl) (Or.inr rfl) pe_dnewT)
   (@zae _ _ _ _ _ (za0 PassesOwn.never (by rfl) (zaO (zam (zc7 T) (hr.mono (by decide)) (by rfl) T.m_used_pairs T.F_used_pairs.kp T.b_used_pairs .nil zaD (@zac _ _ _ _ _ _ (pv 0) (@zac _ _ _ _ _ _ (pv 1) pa_nil)))) (zav (i := 5) sc_steps_to_uses.nd (by rfl) (Or.inl rfl))
   (@zag _ _ _ (zec hu (pv 4) (pv 5) zdG (by rfl))))
   (@zae _ _ _ _ _ (zaC (i := 6) sc_steps_to_uses.nd (by rfl) (Or.inl rfl) (za1 (zcp (by rfl)) (by rfl) T.z_list (by decide +kernel) (@zac _ _ _ _ _ _ (pv 4) pa_nil)))
   (@zae _ _ _ _ _ (zdj PassesOwn.never (zgE (pv 6) (fun _ => rfl)) (@zae _ _ _ _ _ (zaC (i := 7) sc_steps_to_uses.nd (by rfl) (Or.inl rfl) (zaA pa_nil))
   (@zae _ _ _ _ _ (za0 PassesOwn.never (by rfl) (zaO (pv 6)) (zb0 (n := 2) (by rfl) (zaH (zav (i := 8) sc_steps_to_uses.nd (by rfl) (Or.inl rfl)) (zaH (zav (i := 9) sc_steps_to_uses.nd (by rfl) (Or.inr rfl)) pgs_nil)))
   (@zae _ _ _ _ _ (zco (i := 10) sc_steps_to_uses.nd (by rfl) (Or.inl rfl) (N' := ["before", "p", "rows"]) (cap := [none, some 9, some 2]) ⟨rfl, (by decide +kernel), (by decide +kernel), (by rfl), rfl, (by rfl)⟩ (by rfl) (zaO (zah ix_F (pv 3) (pv 8) (fun _ _ => rfl))) (fun C_ ex_ s_ H_ => (zav (i := 0) (show (["before", "p", "rows"] : List Str).Nodup by decide +kernel) (by rfl) (Or.inl rfl))) zaR (fun C_ ex_ s_ H_ => zaL) (fun C_ ex_ s_ H_ => (zax (@zac _ _ _ _ _ _ (pv 0) (zad (zam (zfE T) (by exact hr.mono (by decide)) (by rfl) T.m_source T.F_source.kp T.b_source .nil zaD (zad (zah ix_F (pv 2) (pv 0) (fun _ _ => rfl)) (@zac _ _ _ _ _ _ (pv 1) pa_nil))) pa_nil)))))
   (@zag _ _ _ (za0 PassesOwn.never (by rfl) (zaO (za3 (N' := ["pair", "steps"]) (cap := [none, some 4]) ⟨rfl, (by decide +kernel), (by decide +kernel), (by rfl), rfl, (by rfl)⟩ (by rfl) (zaO (pv 10)) (fun C_ ex_ s_ H_ => (zav (i := 0) (show (["pair", "steps"] : List Str).Nodup by decide +kernel) (by rfl) (Or.inl rfl))) zaR (fun C_ ex_ s_ H_ => (zep (PW.pt (zbe (zcs (zdW (zah ix_F (pv 0) zaf (fun _ _ => rfl)))) (za6 (zcs (zcr (by exact hu) (pv 0) (pv 1)))))))) (fun C_ ex_ s_ H_ => (pv 0)))) (zav (i := 5) sc_steps_to_uses.nd (by rfl) (Or.inl rfl))
   (@zae _ _ _ _ _ (zec hu (pv 4) (pv 5) (zax (@zac _ _ _ _ _ _ (pv 8) (@zac _ _ _ _ _ _ (pv 9) pa_nil))) (by rfl))
   (@zag _ _ _ (zaS (zbq PySem.F.plainAttrs_list PySem.F.slot_list_append PySem.F.type_list_append mt_append (pv 7) (@zac _ _ _ _ _ _ (pv 5) pa_nil)))))))))
   (@zag _ _ _ (zaC (i := 6) sc_steps_to_uses.nd (by rfl) (Or.inl rfl) (pv 7))))))
   (@zag _ _ _ (zat (pv 4))))))))), ?_⟩
  obtain ⟨da, hda, a1, a2, RW⟩ := PR.get hd
  have top := PR.top
  have N := DfFit.nd PF (List.mem_of_getElem? hd)
  have n40 := N.n40
  have uln := zcU (sg := ds.map (·.1)) (gives := d.1.2) (rws := d.2.2) (fun r hr => zcm (N.fit r hr) PF.sg) d.2.2.length
  generalize hG : tSeq (tFor _ _ _) _ = tail
  simp! [top, a1, a2]
  refine ⟨da.2.1, da.2.2, d.2.2, d.2.1, ds.map (·.1), rfl, RW, N.fit, N.last, n40, fun bl ls bf H1 S1 FD mb bb => ?_⟩
  intro D nD
  have S2 := S1.step nD (u := .dT [])
  have FD2 : FdAt (upd H1 D (.dT [])) bl ls d.2.2.length bf := ⟨zab FD.top nD, FD.len, FD.nd, FD.nl, fun t a h => zab (FD.at_ t a h) nD⟩
  have ST2 : StD (ds.map (·.1), d.1.2, d.2.2) (upd H1 D (.dT [])) D [] := ⟨[], zaa, rfl, fun i p q h => by simp at h⟩
  have nDH := S1.free nD
  revert S2 FD2 ST2
  generalize upd H1 D (.dT []) = H2
  intro S2 FD2 ST2
  subst hG
  generalize hG : tSeq (tAsg _ (za2 6)) _ = tail
  refine zfb (fun ul H3 => ∃ as, Same H2 H3 ∧ PrI H3 ul as (upTo (ds.map (·.1)) d.1.2 d.2.2 d.2.2.length)) (fun Q2 hQ => ?_) ?_
  ·simp! []
   exact ⟨pl, f, das, ds, d, rfl, PR.same S2, hd, PF, fun l as H3 S3 P3 => hQ l H3 ⟨as, S3, P3⟩⟩
  rintro ul H3 ⟨as, S23, PI⟩
  have S3 := S2.trans S23
  have ST3 : StD (ds.map (·.1), d.1.2, d.2.2) H3 D [] := ST2.same S23
  have FD3 : FdAt H3 bl ls d.2.2.length bf := ⟨S23 _ _ FD2.top, FD2.len, FD2.nd, FD2.nl, fun t a h => S23 _ _ (FD2.at_ t a h)⟩
  have dD : ∃ kvs, H3 D = some (.dT kvs) := ST3.imp fun _ h => h.1
  have ulD : ul ≠ D := fun z => by obtain ⟨kvs, e⟩ := dD; have := PI.top; rw [z, e] at this; cases this
  refine forL (H1 := H3) ul (as.map V.ref) (fun Q2 h2 => h2) (fun i σ H4 => ∃ (ps : List Pr) (v5 : Option V), σ = [some (V.ref pl), some (V.int f), some (V.ref da.2.1), some (V.ref bl), some (V.ref D), v5, none, none, none, none, none] ∧ StD (ds.map (·.1), d.1.2, d.2.2) H4 D ps ∧ ps.Nodup ∧ (∀ q, q ∈ ps ↔ q ∈ (upTo (ds.map (·.1)) d.1.2 d.2.2 d.2.2.length).take i) ∧ ∀ c, c ≠ D → H4 c = H3 c)
   ⟨[], _, rfl, ST3, .nil, fun q => by simp, fun c _ => rfl⟩ (fun i σ H4 _ ⟨_, _, _, _, _, _, k4⟩ => .of (by rw [k4 _ ulD]; exact PI.top)) ?_ ?_
  ·rintro i x σ H4 hx ⟨ps, v5, rfl, ST4, nd4, m4, k4⟩
   obtain ⟨ta, hta, rfl⟩ := zay hx
   have il : i < (upTo (ds.map (·.1)) d.1.2 d.2.2 d.2.2.length).length := by rw [← PI.len]; exact (List.getElem?_eq_some_iff.mp hta).1
   obtain ⟨qq, hqq⟩ : ∃ q, (upTo (ds.map (·.1)) d.1.2 d.2.2 d.2.2.length)[i]? = some q := ⟨_, List.getElem?_eq_getElem il⟩
   have et := PI.at_ i ta qq hta hqq
   have taD : ta ≠ D := fun z => by obtain ⟨kvs, e⟩ := dD; rw [z, e] at et; cases et
   have lps : ps.length ≤ 960 := zba N.w1 n40 nd4 fun q hq => zfd N (zc6.mp (List.mem_of_mem_take ((m4 q).mp hq)))
   obtain ⟨H5, P5, ST5, k5⟩ := ST4.put (by omega) (q := qq) (b := ta) (zc6.mp (List.mem_of_getElem? hqq)) (by rw [k4 _ taD]; exact et)
   simp! [zgw]
   refine ⟨H5, P5, _, ST5, ?_, fun q => ?_, fun c hc => (k5 c hc).trans (k4 c hc)⟩
   ·by_cases c : qq ∈ ps
    ·rw [if_pos c]; exact nd4
    ·rw [if_neg c, List.nodup_append]
     exact ⟨nd4, by simp, fun x hx y hy => by rw [List.mem_singleton.mp hy]; exact fun z => c (z ▸ hx)⟩
   ·rw [List.take_succ, hqq, List.mem_append, ← m4 q]
    by_cases c : qq ∈ ps
    ·rw [if_pos c]
     simp only [Option.toList_some, List.mem_singleton]
     exact ⟨.inl, fun h => h.elim id fun h => by rw [h]; exact c⟩
    ·rw [if_neg c, List.mem_append]; simp
  ·rintro σ H4 ⟨ps, v5, rfl, ST4, nd4, m4, k4⟩
   rw [List.length_map, PI.len, List.take_length] at m4
   have m4' : ∀ q, q ∈ ps ↔ UsAt (ds.map (·.1)) d.1.2 d.2.2 q := fun q => (m4 q).trans zc6
   have S4 : Same H H4 := fun c o e => by rw [k4 c (fun z => by rw [z, nDH] at e; cases e)]; exact S3 _ _ e
   have blD : bl ≠ D := fun z => by obtain ⟨kvs, e⟩ := dD; have := FD3.top; rw [z, e] at this; cases this
   have lsD : ∀ x ∈ ls, x ≠ D := fun x hx z => by
    obtain ⟨t, ht⟩ := List.mem_iff_getElem?.mp hx
    obtain ⟨kvs, e⟩ := dD
    have := FD3.at_ t x ht
    rw [z, e] at this; cases this
   have FD4 : FdAt H4 bl ls d.2.2.length bf := ⟨by rw [k4 _ blD]; exact FD3.top, FD3.len, FD3.nd, FD3.nl, fun t x h => by rw [k4 _ (lsD x (List.mem_of_getElem? h))]; exact FD3.at_ t x h⟩
   have NI : NInv (ds.map (·.1)) d.1.2 d.2.2 d.2.1 ps ps := ⟨nd4, fun q hq => zfd N ((m4' q).mp hq), fun q hq => .inl ((m4' q).mp hq), fun q hq => (m4' q).mpr hq, fun q hq => .inl hq, fun q hq => hq⟩
   clear PI FD3 FD2 FD ST3 ST2 S23 S3 S2 S1 m4 m4' nD top a1 a2 dD ulD k4
   subst hG
   generalize hG : tSeq (zej _ _) _ = tail
   simp! []
   obtain ⟨kvs, e1, e2, e3⟩ := id ST4
   refine ⟨D, kvs, rfl, e1, fun tl tas ntl lt att => ?_⟩
   have S45 : Same H4 (upd H4 tl (.lst (tas.map V.ref))) := .laid ntl
   have lkv := zb9 e2
   have PT : PrI (upd H4 tl (.lst (tas.map V.ref))) tl tas ps := ⟨zaa, by omega, fun i b q h1 h2 => by
    obtain ⟨p, hp⟩ : ∃ p, kvs[i]? = some p := ⟨_, List.getElem?_eq_getElem (by have := (List.getElem?_eq_some_iff.mp h2).1; omega)⟩
    have ek : p.1 = kk q := by
     have := congrArg (fun l => l[i]?) e2
     simp only [List.getElem?_map, hp, h2, Option.map_some] at this
     exact Option.some.inj this
    have := att i b p h1 hp
    rw [ek] at this
    exact zab this ntl⟩
   have tlD : tl ≠ D := fun z => by rw [z, e1] at ntl; cases ntl
   have ST5 : StD (ds.map (·.1), d.1.2, d.2.2) (upd H4 tl (.lst (tas.map V.ref))) D ps := ST4.same S45
   have FD5 : FdAt (upd H4 tl (.lst (tas.map V.ref))) bl ls d.2.2.length bf := ⟨zab FD4.top ntl, FD4.len, FD4.nd, FD4.nl, fun t x h => zab (FD4.at_ t x h) ntl⟩
   have S5 := S4.trans S45
   revert PT ST5 FD5 S5
   generalize upd H4 tl (.lst (tas.map V.ref)) = H5
   intro PT ST5 FD5 S5
   clear e1 e2 e3 lkv att lt ntl S45 FD4 S4 ST4 nd4
   subst hG
   generalize hG : tRet _ = tail
   refine ⟨fun m σ H6 => ∃ (ps T : List Pr) (tl : Addr) (tas : List Addr) (v5 v7 v8 v9 v10 : Option V), σ = [some (V.ref pl), some (V.int f), some (V.ref da.2.1), some (V.ref bl), some (V.ref D), v5, some (V.ref tl), v7, v8, v9, v10] ∧ m = 2 * (1000 - ps.length) + T.length ∧ StD (ds.map (·.1), d.1.2, d.2.2) H6 D ps ∧ PrI H6 tl tas T ∧ FdAt H6 bl ls d.2.2.length bf ∧ NInv (ds.map (·.1)) d.1.2 d.2.2 d.2.1 ps T ∧ Same H H6, ⟨_, ps, ps, tl, tas, _, _, _, _, _, rfl, rfl, ST5, PT, FD5, NI, S5⟩, ?_⟩
   clear PT ST5 FD5 S5 NI tlD
   rintro m σ H6 ⟨ps, T, tl, tas, v5, v7, v8, v9, v10, rfl, rfl, ST, PT, FD, NI, S6⟩
   have lps := zba N.w1 n40 NI.nd NI.box
   refine ⟨_, rfl, _, .inl ⟨_, .of PT.top, rfl⟩, ?_⟩
   have lT := PT.len
   by_cases cT : T = []
   ·have : tas = [] := List.eq_nil_of_length_eq_zero (by rw [lT, cT]; rfl)
    subst this
    subst cT
    dsimp only
    rw [if_neg (by simp)]
    subst hG
    simp! []
    exact q D ps H6 S6 ST NI
   ·have tpos : 0 < T.length := List.length_pos_iff.mpr cT
    dsimp only
    rw [if_pos (by
     cases tas with
     | nil => rw [← lT] at tpos; simp at tpos
     | cons _ _ => rfl)]
    refine ⟨fun σ' H' => ∃ (M : List Pr) (ml : Addr) (mas : List Addr) (v5 v7 v8 v9 v10 : Option V), σ' = [some (V.ref pl), some (V.int f), some (V.ref da.2.1), some (V.ref bl), some (V.ref D), v5, some (V.ref ml), v7, v8, v9, v10] ∧ StD (ds.map (·.1), d.1.2, d.2.2) H' D (ps ++ M) ∧ PrI H' ml mas M ∧ FdAt H' bl ls d.2.2.length bf ∧ MInv (ds.map (·.1)) d.1.2 d.2.2 d.2.1 ps M [] ∧ Same H H', ?_, ?_⟩
    ·rintro σ' H' ⟨M, ml, mas, v5, v7, v8, v9, v10, rfl, ST', PM, FD', MI, S'⟩
     have lM := zba N.w1 n40 MI.nd MI.box
     rw [List.length_append] at lM
     refine ⟨_, ?_, ps ++ M, M, ml, mas, _, _, _, _, _, rfl, rfl, ST', PM, FD', ⟨MI.nd, MI.box, MI.why, MI.use, fun q hq => (MI.clo q hq).elim (fun h => by cases h) id, fun q hq => List.mem_append_right _ hq⟩, S'⟩
     rw [List.length_append]; omega
    ·clear hG
     generalize hG : tSeq (tFor _ _ _) _ = tail2
     simp! []
     intro ml nml
     have S67 : Same H6 (upd H6 ml (.lst [])) := .laid nml
     obtain ⟨kv6, k61, k62, k63⟩ := id ST
     have mlD : ml ≠ D := fun z => by rw [z, k61] at nml; cases nml
     have PM7 : PrI (upd H6 ml (.lst [])) ml [] [] := ⟨zaa, rfl, fun i a p h => by simp at h⟩
     have ST7 : StD (ds.map (·.1), d.1.2, d.2.2) (upd H6 ml (.lst [])) D ps := ST.same S67
     have mlo : ∀ c o, H6 c = some o → c ≠ ml := fun c o e => zaw e nml
     have mltl := mlo _ _ PT.top
     have PT7 := PT.same S67
     have FD7 : FdAt (upd H6 ml (.lst [])) bl ls d.2.2.length bf := ⟨S67 _ _ FD.top, FD.len, FD.nd, FD.nl, fun t x h => S67 _ _ (FD.at_ t x h)⟩
     have mlbl := mlo _ _ FD.top
     have mlls : ∀ x ∈ ls, x ≠ ml := fun x hx => by obtain ⟨t, ht⟩ := List.mem_iff_getElem?.mp hx; exact mlo _ _ (FD.at_ t x ht)
     have nmlH : H ml = none := S6.free nml
     have S7 := S6.trans S67
     have tlD : tl ≠ D := fun z => by have := PT.top; rw [z, k61] at this; cases this
     have blD : bl ≠ D := fun z => by have := FD.top; rw [z, k61] at this; cases this
     have lsD : ∀ x ∈ ls, x ≠ D := fun x hx z => by obtain ⟨t, ht⟩ := List.mem_iff_getElem?.mp hx; have := FD.at_ t x ht; rw [z, k61] at this; cases this
     revert PM7 ST7 PT7 FD7 S7
     generalize upd H6 ml (.lst []) = H7
     intro PM7 ST7 PT7 FD7 S7
     clear S67 nml mlo k61 k62 k63 ST PT FD S6
     subst hG
     generalize hG : tAsg (tVar 7) _ = tail2
     refine forL (H1 := H7) tl (tas.map V.ref) (fun Q2 h2 => by simp! []; exact h2) (fun i σ H8 => ∃ (M : List Pr) (mas : List Addr) (v5 v8 v9 v10 : Option V), σ = [some (V.ref pl), some (V.int f), some (V.ref da.2.1), some (V.ref bl), some (V.ref D), v5, some (V.ref tl), some (V.ref ml), v8, v9, v10] ∧ StD (ds.map (·.1), d.1.2, d.2.2) H8 D (ps ++ M) ∧ PrI H8 ml mas M ∧ PrI H8 tl tas T ∧ FdAt H8 bl ls d.2.2.length bf ∧ MInv (ds.map (·.1)) d.1.2 d.2.2 d.2.1 ps M (T.drop i) ∧ Same H H8)
      ⟨[], [], _, _, _, _, rfl, by rw [List.append_nil]; exact ST7, PM7, PT7, FD7, ⟨by rw [List.append_nil]; exact NI.nd, by rw [List.append_nil]; exact NI.box, by rw [List.append_nil]; exact NI.why, by rw [List.append_nil]; exact NI.use, by rw [List.append_nil]; exact fun q hq => (NI.clo q hq).imp id .inr, NI.sub⟩, S7⟩ (fun i σ H8 _ ⟨_, _, _, _, _, _, _, _, _, P8, _⟩ => .of P8.top) ?_ ?_
     ·clear PM7 ST7 PT7 FD7 S7
      rintro i x σ H8 hx ⟨M, mas, v5, v8, v9, v10, rfl, ST8, PM8, PT8, FD8, MI, S8⟩
      obtain ⟨za, hza, rfl⟩ := zay hx
      have il : i < T.length := by rw [← lT]; exact (List.getElem?_eq_some_iff.mp hza).1
      obtain ⟨z, hz⟩ : ∃ z, T[i]? = some z := ⟨_, List.getElem?_eq_getElem il⟩
      have ez := PT8.at_ i za z hza hz
      have dr : T.drop i = z :: T.drop (i + 1) := by rw [List.drop_eq_getElem_cons il]; congr 1; rw [List.getElem?_eq_getElem il] at hz; exact Option.some.inj hz
      rw [dr] at MI
      have zin := MI.sub z (by simp)
      have zbox := MI.box z (List.mem_append_left _ zin)
      have lM := zba N.w1 n40 MI.nd MI.box
      rw [List.length_append] at lM
      obtain ⟨ba, hba⟩ : ∃ x, ls[z.1]? = some x := ⟨_, List.getElem?_eq_getElem (by rw [FD8.len]; exact zbox.1)⟩
      have eb := FD8.at_ z.1 ba hba
      obtain ⟨b80, bnd⟩ := bb z.1
      have bnd := bnd zbox.1
      have btop := FD8.top
      refine zbA ez rfl ?_
      generalize hG3 : tFor _ _ _ = tail3
      simp! []
      refine zdz (H1 := H8) ba ((bf z.1).map fun x : Nat => V.int x) (fun Q2 h2 => by simp! [btop]; exact ⟨.ref ba, zaF (by rw [List.getElem?_map, hba]; rfl), h2⟩) (.of eb) (fun L j ys H9 => ∃ pas : List Addr, ys = pas.map V.ref ∧ pas.length = j ∧ Same H8 H9 ∧ H9 L = some (.lst ys) ∧ ∀ (k : Nat) (x : Addr) (b : Nat), pas[k]? = some x → (bf z.1)[k]? = some b → H9 x = some (.tup [.int b, optV (SrcA d.2.2 b z.2)]))
       (fun L hL => ⟨[], rfl, rfl, .laid hL, zaa, fun k x b h => by simp at h⟩) ?_ (by rw [sizeLine_eq, List.length_map]; omega) ?_ ?_
      ·rintro L hL j ys H9 hj ⟨pas, rfl, lp, S9, hL9, at9⟩
       exact ⟨.of (S9 _ _ eb), hL9, by rw [List.length_map]; omega⟩
      ·rintro L hL j x ys H9 hx ⟨pas, rfl, lp, S9, hL9, at9⟩
       obtain ⟨b, hb, rfl⟩ := zay hx
       have nxb := (mb z.1 zbox.1 b).mp (List.mem_of_getElem? hb)
       obtain ⟨rb, hrb, _⟩ := id nxb
       have S89 := S8.trans S9
       have RW9 := RW.same S89
       obtain ⟨rp, _, ar, RAb⟩ := RW9.get hrb
       have rt9 := RW9.top
       simp! [zaM, tTrue, rt9, ar]
       refine ⟨rp, rb, z.2, d.2.1, d.2.2.length, ds.map (·.1), rfl, RAb, N.fit rb (List.mem_of_getElem? hrb), fun H10 S10 t nt => ?_⟩
       have hL10 := zab (u := .tup [V.int b, optV (srcM rb z.2)]) (S10 _ _ hL9) nt
       have eS : SrcA d.2.2 b z.2 = srcM rb z.2 := by unfold SrcA; rw [hrb]; rfl
       refine ⟨hL10, pas ++ [t], by rw [List.map_append]; rfl, by rw [List.length_append, lp]; rfl, zaz (fun q o h => zab (S10 _ _ (S9 _ _ h)) nt) hL, fun k x b' h1 h2 => ?_⟩
       have ntL : t ≠ L := fun z' => by rw [z', S10 _ _ hL9] at nt; cases nt
       by_cases ck : k < pas.length
       ·rw [List.getElem?_append_left ck] at h1
        have := zab (u := .tup [V.int b, optV (srcM rb z.2)]) (S10 _ _ (at9 k x b' h1 h2)) nt
        rw [zaj (fun z' => by rw [z', hL10] at this; cases this)]
        exact this
       ·have hk := (List.getElem?_eq_some_iff.mp h1).1
        rw [List.length_append, List.length_singleton] at hk
        rw [List.getElem?_append_right (by omega), show k - pas.length = 0 by omega] at h1
        cases h1
        rw [show k = j by omega, hb] at h2
        cases h2
        rw [zaj ntL, zaa, eS]
      ·rintro L hL ys H9 ⟨pas, rfl, lp, S9, hL9, at9⟩
       rw [List.length_map] at lp
       subst hG3
       have ST9 : StD (ds.map (·.1), d.1.2, d.2.2) H9 D (ps ++ M) := ST8.same S9
       refine zfb (fun fl H10 => ∃ fas, Same H9 H10 ∧ H9 fl = none ∧ PrI H10 fl fas ((bf z.1).filterMap (newF d.2.2 (ps ++ M) z.2))) (fun Q2 hQ => ?_) ?_
       ·refine zdz (H1 := H9) L (pas.map V.ref) (fun Q3 h3 => by simp! []; exact h3) (.of hL9) (fun L2 j ys H10 => ∃ fas : List Addr, ys = fas.map V.ref ∧ Same H9 H10 ∧ PrI H10 L2 fas (((bf z.1).take j).filterMap (newF d.2.2 (ps ++ M) z.2)))
         (fun L2 h2 => ⟨[], rfl, .laid h2, ⟨zaa, rfl, fun i a p h => by simp at h⟩⟩) ?_ (by rw [sizeLine_eq, List.length_map]; omega) ?_ ?_
        ·rintro L2 h2 j ys H10 hj ⟨fas, rfl, S10, P10⟩
         refine ⟨.of (S10 _ _ hL9), P10.top, ?_⟩
         rw [List.length_map, P10.len]
         exact Nat.le_trans (List.length_filterMap_le _ _) (by rw [List.length_take]; omega)
        ·rintro L2 h2 j x ys H10 hx ⟨fas, rfl, S10, P10⟩
         obtain ⟨xa, hxa, rfl⟩ := zay hx
         have jl : j < (bf z.1).length := by rw [← lp]; exact (List.getElem?_eq_some_iff.mp hxa).1
         obtain ⟨b, hb⟩ : ∃ b, (bf z.1)[j]? = some b := ⟨_, List.getElem?_eq_getElem jl⟩
         have ex9 := at9 j xa b hxa hb
         have ex := S10 _ _ ex9
         have ST10 : StD (ds.map (·.1), d.1.2, d.2.2) H10 D (ps ++ M) := ST9.same S10
         have tk : ((bf z.1).take (j + 1)).filterMap (newF d.2.2 (ps ++ M) z.2) = ((bf z.1).take j).filterMap (newF d.2.2 (ps ++ M) z.2) ++ (newF d.2.2 (ps ++ M) z.2 b).toList := by
          rw [List.take_succ, hb, List.filterMap_append]
          congr 1
         simp! [zaM, zhX, zdb, ex]
         cases es : SrcA d.2.2 b z.2 with
         | none =>
          have en : newF d.2.2 (ps ++ M) z.2 b = none := by unfold newF; rw [es]
          rw [if_neg (fun h => h rfl), tk, en]
          exact ⟨fas, rfl, S10, by simpa using P10⟩
         | some y =>
          rw [es] at ex
          obtain ⟨o, go, so⟩ := ST10.k.get (q := (b, y)) (b := xa) ex
          rw [if_pos (fun h => by cases h)]
          refine ⟨o, go, ?_⟩
          rw [so, tk]
          by_cases cm : (b, y) ∈ ps ++ M
          ·have en : newF d.2.2 (ps ++ M) z.2 b = none := by unfold newF; rw [es]; dsimp only; rw [if_pos cm]
           rw [decide_eq_true cm, if_neg (by simp), en]
           exact ⟨fas, rfl, S10, by simpa using P10⟩
          ·have en : newF d.2.2 (ps ++ M) z.2 b = some (b, y) := by unfold newF; rw [es]; dsimp only; rw [if_neg cm]
           rw [decide_eq_false cm, if_pos rfl, en]
           refine ⟨P10.top, fas ++ [xa], by rw [List.map_append]; rfl, zaz (fun c o e => S10 _ _ e) h2, ?_⟩
           have F12 : Fr (· = L2) H10 (upd H10 L2 (.lst (fas.map V.ref ++ [V.ref xa]))) := .put rfl (zaP P10.top)
           exact P10.app (m := L2) (bs := [xa]) (qs := [(b, y)]) rfl (fun i c p g1 g2 => by
            match i, g1, g2 with
            | 0, g1, g2 => cases g1; cases g2; exact F12.tups _ _ ex
            | i + 1, g1, g2 => simp at g1) (fun c xs h => F12.tups c xs h) (by rw [zaa, List.map_append]; rfl)
        ·rintro L2 h2 ys H10 ⟨fas, rfl, S10, P10⟩
         rw [List.length_map, lp, List.take_length] at P10
         exact hQ L2 H10 ⟨fas, S10, h2, P10⟩
       rintro fl H10 ⟨fas, S10, nfl, PF10⟩
       generalize hF : (bf z.1).filterMap (newF d.2.2 (ps ++ M) z.2) = F at PF10
       have MI' := MI.step N (fun b => mb z.1 zbox.1 b) bnd
       rw [hF] at MI'
       have S810 := S9.trans S10
       have lF := zba N.w1 n40 MI'.nd MI'.box
       rw [List.length_append, List.length_append] at lF
       have ST10 : StD (ds.map (·.1), d.1.2, d.2.2) H10 D (ps ++ M) := ST9.same S10
       have PM10 := PM8.same S810
       have PT10 := PT8.same S810
       have FD10 : FdAt H10 bl ls d.2.2.length bf := ⟨S810 _ _ FD8.top, FD8.len, FD8.nd, FD8.nl, fun t x h => S810 _ _ (FD8.at_ t x h)⟩
       have SH10 := S8.trans S810
       have flo : ∀ c o, H9 c = some o → c ≠ fl := fun c o e => zaw e nfl
       have flml := flo _ _ ((PM8.same S9).top)
       have flD : D ≠ fl := by obtain ⟨kv, g1, g2, g3⟩ := ST9; exact flo _ _ g1
       refine forL (H1 := H10) fl (fas.map V.ref) (fun Q2 h2 => h2) (fun j σ H11 => ∃ (mas : List Addr) (v5 : Option V), σ = [some (V.ref pl), some (V.int f), some (V.ref da.2.1), some (V.ref bl), some (V.ref D), v5, some (V.ref tl), some (V.ref ml), some (V.int z.1), some (V.int z.2), some (V.ref L)] ∧ StD (ds.map (·.1), d.1.2, d.2.2) H11 D (ps ++ (M ++ F.take j)) ∧ PrI H11 ml mas (M ++ F.take j) ∧ PrI H11 fl fas F ∧ PrI H11 tl tas T ∧ FdAt H11 bl ls d.2.2.length bf ∧ Same H H11)
        ⟨mas, _, rfl, by simpa using ST10, by simpa using PM10, PF10, PT10, FD10, SH10⟩ (fun j σ H11 _ ⟨_, _, _, _, _, P11, _⟩ => .of P11.top) ?_ ?_
       ·rintro j x σ H11 hx ⟨mas, v5, rfl, ST11, PM11, PF11, PT11, FD11, S11⟩
        obtain ⟨xa, hxa, rfl⟩ := zay hx
        obtain ⟨qq, hqq⟩ : ∃ q, F[j]? = some q := ⟨_, List.getElem?_eq_getElem (by rw [← PF11.len]; exact (List.getElem?_eq_some_iff.mp hxa).1)⟩
        have ex := PF11.at_ j xa qq hxa hqq
        have jF := (List.getElem?_eq_some_iff.mp hqq).1
        simp! [zgw]
        intro t nt
        have S12 : Same H11 (upd H11 t (.tup [V.int z.1, V.int z.2])) := .laid nt
        have ex12 := S12 _ _ ex
        have ST12 : StD (ds.map (·.1), d.1.2, d.2.2) (upd H11 t (.tup [V.int z.1, V.int z.2])) D (ps ++ (M ++ F.take j)) := ST11.same S12
        have PM12 := PM11.same S12
        have PF12 := PF11.same S12
        have PT12 := PT11.same S12
        have FD12 : FdAt (upd H11 t (.tup [V.int z.1, V.int z.2])) bl ls d.2.2.length bf := ⟨S12 _ _ FD11.top, FD11.len, FD11.nd, FD11.nl, fun t x h => S12 _ _ (FD11.at_ t x h)⟩
        have S112 := S11.trans S12
        have nq : qq ∉ ps ++ (M ++ F.take j) := fun m => by
         have nd := MI'.nd
         rw [← List.append_assoc] at nd m
         rcases List.mem_append.mp m with m | m
         ·exact (List.nodup_append.mp nd).2.2 qq m qq (List.mem_of_getElem? hqq) rfl
         ·obtain ⟨i', hi'⟩ := List.mem_iff_getElem?.mp m
          have il' := (List.getElem?_eq_some_iff.mp hi').1
          rw [List.length_take] at il'
          rw [List.getElem?_take_of_lt (by omega)] at hi'
          obtain ⟨i1, e1⟩ := List.getElem?_eq_some_iff.mp hi'
          obtain ⟨j1, e2⟩ := List.getElem?_eq_some_iff.mp hqq
          exact absurd (e1.trans e2.symm) (List.pairwise_iff_getElem.mp (List.nodup_append.mp nd).2.1 i' j i1 j1 (by omega))
        have lnow : (ps ++ (M ++ F.take j)).length ≤ 1000 := by rw [List.length_append, List.length_append, List.length_take]; omega
        obtain ⟨H13, P13, ST13, k13⟩ := ST12.putN lnow (q := qq) (z := z) nq ex12 zaa (List.mem_append_left _ zin) (zff hF (fun b => mb z.1 zbox.1 b) (List.mem_of_getElem? hqq))
        refine ⟨H13, P13, ?_⟩
        have keepP : ∀ {l : Addr} {as : List Addr} {qs : List Pr}, l ≠ D → PrI (upd H11 t (.tup [V.int z.1, V.int z.2])) l as qs → PrI H13 l as qs := fun {l as qs} nl P => ⟨by rw [k13 _ nl]; exact P.top, P.len, fun i a p h1 h2 => by
         have := P.at_ i a p h1 h2
         rw [k13 _ (fun zz => by obtain ⟨kv, g1, g2, g3⟩ := ST12; rw [zz, g1] at this; cases this)]
         exact this⟩
        have PM13 := keepP mlD PM12
        have PF13 := keepP (Ne.symm flD) PF12
        have PT13 := keepP tlD PT12
        have FD13 : FdAt H13 bl ls d.2.2.length bf := ⟨by rw [k13 _ blD]; exact FD12.top, FD12.len, FD12.nd, FD12.nl, fun t x h => by rw [k13 _ (lsD x (List.mem_of_getElem? h))]; exact FD12.at_ t x h⟩
        have S13 : Same H H13 := fun c o e => by rw [k13 c (fun zz => by rw [zz, nDH] at e; cases e)]; exact S112 _ _ e
        have ex13 : H13 xa = some (.tup [.int qq.1, .int qq.2]) := PF13.at_ j xa qq hxa hqq
        have lm := PM13.len
        rw [List.length_append, List.length_take] at lm
        simp! [tBM]
        refine ⟨.inl ⟨rfl, _, .of PM13.top⟩, ml, _, _, rfl, rfl, PM13.top, by rw [sizeLine_eq, List.length_map]; omega, ?_⟩
        have tkF : F.take (j + 1) = F.take j ++ [qq] := by rw [List.take_succ, hqq]; rfl
        have F14 : Fr (· = ml) H13 (upd H13 ml (.lst (mas.map V.ref ++ [V.ref xa]))) := .put rfl (zaP PM13.top)
        refine ⟨?_, mas ++ [xa], ?_, ?_, ?_, ?_, zaz (fun c o e => S13 _ _ e) nmlH⟩
        ·rw [tkF, ← List.append_assoc, ← List.append_assoc]
         rw [← List.append_assoc] at ST13
         exact ST13.fr F14 (Ne.symm mlD)
        ·rw [tkF, ← List.append_assoc]
         exact PM13.app (m := ml) (bs := [xa]) (qs := [qq]) rfl (fun i b p h1 h2 => by
          match i, h1, h2 with
          | 0, h1, h2 => cases h1; cases h2; exact F14.tups _ _ ex13
          | i + 1, h1, h2 => simp at h1) (fun c xs h => F14.tups c xs h) (by rw [zaa, List.map_append]; rfl)
        ·exact ⟨F14.keep _ _ PF13.top (Ne.symm flml), PF13.len, fun i b p h1 h2 => F14.tups _ _ (PF13.at_ i b p h1 h2)⟩
        ·exact ⟨F14.keep _ _ PT13.top mltl, PT13.len, fun i b p h1 h2 => F14.tups _ _ (PT13.at_ i b p h1 h2)⟩
        ·exact ⟨F14.keep _ _ FD13.top mlbl, FD13.len, FD13.nd, FD13.nl, fun t x h => F14.keep _ _ (FD13.at_ t x h) (mlls x (List.mem_of_getElem? h))⟩
       ·rintro σ H11 ⟨mas, v5, rfl, ST11, PM11, PF11, PT11, FD11, S11⟩
        rw [List.length_map, PF11.len, List.take_length] at ST11 PM11
        exact ⟨M ++ F, mas, _, _, _, _, rfl, ST11, PM11, PT11, FD11, MI', S11⟩
     ·rintro σ H8 ⟨M, mas, v5, v8, v9, v10, rfl, ST8, PM8, PT8, FD8, MI, S8⟩
      rw [List.length_map, lT, List.drop_length] at MI
      subst hG
      exact ⟨_, rfl, M, ml, mas, _, _, _, _, _, rfl, ST8, PM8, FD8, MI, S8⟩
end
section
variable {P : Program} {w : World} {K : PySem.W.Frag} {mg : Str → Option Value} {base : Heap} {a : Ad}
def ndL (ps : List Pr) (at_ : Nat) (places : Nat) : List Int := ((List.range places).filter fun p => decide ((at_, ((p : Nat) : Int)) ∈ ps)).map fun p : Nat => (p : Int)
def sp_nat : Sp := fun vs H Q _ => ∃ (D : Addr) (ps : List Pr) (k n : Nat), vs = [.ref D, .int k, .int n] ∧ StK H D ps ∧ n ≤ 100 ∧ ∀ (l : Addr) (H' : Hp), H l = none → Same H H' → H' l = some (.lst ((ndL ps k n).map V.int)) → Q (.ref l) H'
set_option maxHeartbeats 1000000 in
theorem zdR (T : Txt K mg a) : FnOk P w K mg base CX0 1 a.f_needed_at a.d_needed_at ["steps", "at", "places"] sp_nat := by
 refine T.F_needed_at.okC sc_needed_at (fun vs H Q E h => ?_) (fun cdv A outer s H vs Q E hr h => ?_)
 ·obtain ⟨D, ps, k, n, rfl, _⟩ := h
  rfl
 ·obtain ⟨D, ps, k, n, rfl, ST, n1, q⟩ := h
  have hu := zaX hr
  refine ⟨_, (@zag _ _ _ (zat (za3 (N' := ["p", "steps", "at"]) (cap := [none, some 0, some 1]) ⟨rfl, (by decide +kernel), (by decide +kernel), (by rfl), rfl, (by rfl)⟩ (by rfl) (zaW (by rfl) T.z_range (@zac _ _ _ _ _ _ (pv 2) pa_nil)) (fun C_ ex_ s_ H_ => (zav (i := 0) (show (["p", "steps", "at"] : List Str).Nodup by decide +kernel) (by rfl) (Or.inl rfl))) zaR (fun C_ ex_ s_ H_ => (zep (zcs (zh8 (by exact hu) (zax (@zac _ _ _ _ _ _ (pv 2) (@zac _ _ _ _ _ _ (pv 0) pa_nil))) (pv 1))))) (fun C_ ex_ s_ H_ => (pv 0))))), ?_⟩
  simp! []
  refine ziB (H1 := H) (n : Int) (fun i => if (k, ((i : Nat) : Int)) ∈ ps then some (.int (i : Int)) else none) (fun Q2 h2 => by simp! []; exact h2) (by omega) (by omega) (by rw [sizeLine_eq]; omega) ?_ ?_
  ·intro i H2 R N hi S hy hn
   simp! [zaM, tDIn]
   intro t nt
   have ST2 : StK (upd H2 t (.tup [V.int k, V.int (0 + i)])) D ps := (ST.same S).same (.laid nt)
   obtain ⟨o, go, so⟩ := ST2.get (q := (k, (i : Int))) (b := t) (by rw [zaa, Int.zero_add])
   refine ⟨o, go, ?_⟩
   rw [so]
   by_cases c : (k, ((i : Nat) : Int)) ∈ ps
   ·rw [decide_eq_true c, if_pos rfl, Int.zero_add]
    exact hy _ _ (by rw [if_pos c]) (.laid nt)
   ·rw [decide_eq_false c, if_neg (by simp)]
    exact hn (by rw [if_neg c]) _ (.laid nt)
  ·intro L H2 nL S2 hL
   refine q L H2 nL S2 ?_
   rw [hL]
   congr 2
   unfold ndL
   rw [Int.toNat_natCast]
   generalize List.range n = l
   induction l with
   | nil => rfl
   | cons x l ih =>
    rw [List.filterMap_cons, List.filter_cons]
    by_cases c : (k, ((x : Nat) : Int)) ∈ ps
    ·rw [if_pos c, if_pos (decide_eq_true c), List.map_cons, List.map_cons, ih]
    ·rw [if_neg c, if_neg (by simpa using c), ih]
structure NdAt (H : Hp) (l : Addr) (ls : List Addr) (ps : List Pr) (n places : Nat) : Prop where
 top : H l = some (.lst (ls.map V.ref))
 len : ls.length = n
 at_ : ∀ (t : Nat) (x : Addr), ls[t]? = some x → H x = some (.lst ((ndL ps t places).map V.int))
def sp_needed : Sp := fun vs H Q _ => ∃ (pl : Addr) (f : Nat) (das : List (Addr × Addr × List Addr)) (ds : List Df) (d : Df), vs = [.ref pl, .int f] ∧ ProgAt H pl das ds ∧ ds[f]? = some d ∧ ProgFit ds ∧ ∀ (l : Addr) (ls : List Addr) (ps : List Pr) (H' : Hp), Same H H' → H l = none → (∀ x ∈ ls, H x = none) → NdAt H' l ls ps d.2.2.length (8 + d.2.1).toNat → (∀ q, q ∈ ps ↔ Need (ds.map (·.1), d.1.2, d.2.2) q) → (∀ q ∈ ps, PlI d.2.1 q.2) → Q (.ref l) H'
set_option maxHeartbeats 1000000 in
theorem ze7 (T : Txt K mg a) : FnOk P w K mg base CX0 4 a.f_needed a.d_needed ["program", "f"] sp_needed := by
 refine T.F_needed.okC sc_needed (fun vs H Q E h => ?_) (fun cdv A outer s H vs Q E hr h => ?_)
 ·obtain ⟨pl, f, das, ds, d, rfl, _⟩ := h
  rfl
 ·obtain ⟨pl, f, das, ds, d, rfl, PR, hd, PF, q⟩ := h
  have hu := zaX hr
  refine ⟨_, (@zae _ _ _ _ _ (zaC (i := 2) sc_needed.nd (by rfl) (Or.inr rfl) (zam (zbb T) (hr.mono (by decide)) (by rfl) T.m_steps_to_uses T.F_steps_to_uses.kp T.b_steps_to_uses .nil zaD (@zac _ _ _ _ _ _ (pv 0) (@zac _ _ _ _ _ _ (pv 1) pa_nil))))
   (@zag _ _ _ (zat (za3 (N' := ["at", "steps", "program", "f"]) (cap := [none, some 2, some 0, some 1]) ⟨rfl, (by decide +kernel), (by decide +kernel), (by rfl), rfl, (by rfl)⟩ (by rfl) (zaW (by rfl) T.z_range (zad (zaE call_lenF (by rfl) T.z_len (by decide +kernel) (zad (zah ix_F (zah ix_F (pv 0) (pv 1) (fun _ _ => rfl)) zaf (fun _ _ => rfl)) pa_nil)) pa_nil)) (fun C_ ex_ s_ H_ => (zav (i := 0) (show (["at", "steps", "program", "f"] : List Str).Nodup by decide +kernel) (by rfl) (Or.inl rfl))) zaR (fun C_ ex_ s_ H_ => zaL) (fun C_ ex_ s_ H_ => (zam (zdR T) (by exact hr.mono (by decide)) (by rfl) T.m_needed_at T.F_needed_at.kp T.b_needed_at .nil zaD (@zac _ _ _ _ _ _ (pv 1) (@zac _ _ _ _ _ _ (pv 0) (zad (zam (zdN T) (by exact hr.mono (by decide)) (by rfl) T.m_places_of T.F_places_of.kp T.b_places_of .nil zaD (@zac _ _ _ _ _ _ (pv 2) (@zac _ _ _ _ _ _ (pv 3) pa_nil))) pa_nil))))))))), ?_⟩
  have N := DfFit.nd PF (List.mem_of_getElem? hd)
  have n40 := N.n40
  have w0 := N.w0
  have w1 := N.w1
  simp! []
  refine ⟨pl, f, das, ds, d, rfl, PR, hd, PF, fun D ps H1 S1 ST NI => ?_⟩
  have PR1 := PR.same S1
  obtain ⟨da, hda, a1, a2, RW⟩ := PR1.get hd
  have top1 := PR1.top
  have rt := RW.top
  refine zeD (H1 := H1) (d.2.2.length : Int) (fun Q2 h2 => by simp! [top1, a1, a2, rt, List.length_map, RW.len]; exact h2) (by omega) (by omega) (fun L j ys H2 => ∃ ls : List Addr, ys = ls.map V.ref ∧ ls.length = j ∧ Same H1 H2 ∧ H2 L = some (.lst ys) ∧ ∀ (t : Nat) (x : Addr), ls[t]? = some x → H2 x = some (.lst ((ndL ps t (8 + d.2.1).toNat).map V.int)) ∧ x ≠ L ∧ H x = none)
   (fun L hL => ⟨[], rfl, rfl, .laid hL, zaa, fun t x h => by simp at h⟩) ?_ (by rw [sizeLine_eq]; omega) ?_ ?_
  ·rintro L hL j ys H2 hj ⟨ls, rfl, ll, S2, hL2, at2⟩
   exact ⟨hL2, by rw [List.length_map]; omega⟩
  ·rintro L hL j ys H2 hj ⟨ls, rfl, ll, S2, hL2, at2⟩
   simp! [zaM, tTrue]
   refine ⟨pl, f, das, ds, d, by simp, PR1.same S2, hd, D, ps, j, (8 + d.2.1).toNat, ?_, ?_, by omega, fun x H3 nx S3 e3 => ?_⟩
   ·rw [Int.zero_add, show (((8 + d.2.1).toNat : Nat) : Int) = 8 + d.2.1 by omega]
   ·exact ST.k.same S2
   have hL3 := S3 _ _ hL2
   have nxL : x ≠ L := fun z => by rw [z, hL2] at nx; cases nx
   refine ⟨hL3, ls ++ [x], by rw [List.map_append]; rfl, by rw [List.length_append, ll]; rfl, zaz (fun c o e => S3 _ _ (S2 _ _ e)) hL, fun t y h1 => ?_⟩
   by_cases ct : t < ls.length
   ·rw [List.getElem?_append_left ct] at h1
    obtain ⟨g1, g2, g3⟩ := at2 t y h1
    exact ⟨by rw [zaj g2]; exact S3 _ _ g1, g2, g3⟩
   ·have hk := (List.getElem?_eq_some_iff.mp h1).1
    rw [List.length_append, List.length_singleton] at hk
    rw [List.getElem?_append_right (by omega), show t - ls.length = 0 by omega] at h1
    cases h1
    exact ⟨by rw [zaj nxL, show t = j by omega]; exact e3, nxL, (S1.trans S2).free nx⟩
  ·rintro L hL ys H2 ⟨ls, rfl, ll, S2, hL2, at2⟩
   rw [Int.toNat_natCast] at ll
   exact q L ls ps H2 (S1.trans S2) (S1.free hL) (fun x hx => by obtain ⟨t, ht⟩ := List.mem_iff_getElem?.mp hx; exact (at2 t x ht).2.2) ⟨hL2, ll, fun t x h => (at2 t x h).1⟩ (fun q => ⟨fun m => by obtain ⟨i, hi⟩ := List.mem_iff_getElem?.mp m; exact ST.need i q hi, NI.need⟩) (fun q m => (NI.box q m).2)
end
section
variable {P : Program} {w : World} {K : PySem.W.Frag} {mg : Str → Option Value} {base : Heap} {a : Ad}
theorem zfU {i j : Int} (h1 : -(10 ^ 70) ≤ i) (h2 : i ≤ 10 ^ 70) (h3 : -(10 ^ 70) ≤ j) (h4 : j ≤ 10 ^ 70) : zgn i j := by
 have p : (10 : Nat) ^ 70 < 2 ^ 1000 := by decide
 have e : ((10 ^ 70 : Nat) : Int) = 10 ^ 70 := by decide
 refine ⟨Nat.lt_of_le_of_lt ?_ p, Nat.lt_of_le_of_lt ?_ p⟩ <;> omega
def SzA (H : Hp) (sz : Addr) (words many : Int) : Prop := H sz = some (.tup [.int (8 + words), .int many])
def sp_part : Sp := fun vs H Q _ => ∃ (b c sz : Addr) (cs : List Int) (ch : Nat) (low near words many : Int) (sg : List Sg), vs = [.ref b, .str ⟨#[ch]⟩, .int low, .int near, .ref sz] ∧ BagAt H b c cs ∧ SzA H sz words many ∧
 (ch = 112 ∨ ch = 107 ∨ ch = 116 ∨ ch = 105) ∧ 0 ≤ low ∧ 0 < near ∧ near ≤ 100 ∧ 0 ≤ words ∧ words ≤ 16 ∧ 0 < many ∧ many ≤ 40 ∧
 ∀ (r : Int) (H' : Hp), (∀ ps, za7 words many sg ps ch (.inl r)) → BagAt H' b c cs → Kp b H H' → Q (.int r) H'
set_option maxHeartbeats 1000000 in
theorem zbz (T : Txt K mg a) : FnOk P w K mg base CX0 2 a.f_law_part a.d_law_part ["bag", "letter", "low", "near", "size"] sp_part := by
 refine T.F_law_part.okC sc_law_part (fun vs H Q E h => ?_) (fun cdv A outer s H vs Q E hr h => ?_)
 ·obtain ⟨b, c, sz, cs, ch, low, near, words, many, sg, rfl, _⟩ := h
  rfl
 ·obtain ⟨b, c, sz, cs, ch, low, near, words, many, sg, rfl, hb, hs, hch, l0, n0, n1, w0, w1, m0, m1, q⟩ := h
  have hu := zaX hr
  refine ⟨_, (@zae _ _ _ _ _ (@zaN _ _ _ _ _ _ _ _ (zar op_eq (pv 1) zak (zaB _)) (@zag _ _ _ (zat (zaJ op_mod (zaJ op_add (pv 2) (zam (zao T) (hr.mono (by decide)) (by rfl) T.m_law_draw T.F_law_draw.kp T.b_law_draw .nil zaD (@zac _ _ _ _ _ _ (pv 0) (@zac _ _ _ _ _ _ (pv 3) pa_nil)))) (zah ix_F (pv 4) zaf (fun _ _ => rfl))))) pss_nil)
   (@zae _ _ _ _ _ (@zaN _ _ _ _ _ _ _ _ (zar op_eq (pv 1) zak (zaB _)) (@zag _ _ _ (zat (zam (zao T) (hr.mono (by decide)) (by rfl) T.m_law_draw T.F_law_draw.kp T.b_law_draw .nil zaD (@zac _ _ _ _ _ _ (pv 0) (zad (zah ix_F (pv 4) zaf (fun _ _ => rfl)) pa_nil))))) pss_nil)
   (@zae _ _ _ _ _ (@zaN _ _ _ _ _ _ _ _ (zar op_eq (pv 1) zak (zaB _)) (@zag _ _ _ (zat (zam (zao T) (hr.mono (by decide)) (by rfl) T.m_law_draw T.F_law_draw.kp T.b_law_draw .nil zaD (@zac _ _ _ _ _ _ (pv 0) (@zan _ _ _ _ _ _ pa_nil))))) pss_nil)
   (@zag _ _ _ (zat (zaJ ze6 (zam (zao T) (hr.mono (by decide)) (by rfl) T.m_law_draw T.F_law_draw.kp T.b_law_draw .nil zaD (@zac _ _ _ _ _ _ (pv 0) (zad (zaJ op_pow zaf zaf) pa_nil))) (zaJ op_sub zaf (zaJ ze6 zaf (zam (zao T) (hr.mono (by decide)) (by rfl) T.m_law_draw T.F_law_draw.kp T.b_law_draw .nil zaD (@zac _ _ _ _ _ _ (pv 0) (@zan _ _ _ _ _ _ pa_nil))))))))))), ?_⟩
  have hs : H sz = some (.tup [.int (8 + words), .int many]) := hs
  have e1 : ∀ {x y : Nat}, ((⟨#[x]⟩ : Str) = ⟨#[y]⟩) → x = y := fun h => by injection h with h; simpa using h
  simp! [hs]
  rw [show Str.ofString "p" = ⟨#[112]⟩ by decide, show Str.ofString "k" = ⟨#[107]⟩ by decide, show Str.ofString "t" = ⟨#[116]⟩ by decide]
  refine ite2 (fun h => ?_) fun n1 => ite2 (fun h => ?_) fun n2 => ite2 (fun h => ?_) fun n3 => ?_
  ·refine ⟨b, c, cs, _, rfl, hb, n0, by omega, fun r H1 r0 r1 hb1 k1 => ?_⟩
   have hs1 := hb.tup k1 hs
   have p8 : 0 < 8 + words := by omega
   exact ⟨_, rfl, _, by rw [hs1]; rfl, _, zda, _, rfl, p8, q _ H1 (fun ps => .inl ⟨e1 h, _, rfl, Int.emod_nonneg _ (by omega), Int.emod_lt_of_pos _ p8⟩) hb1 k1⟩
  ·refine ⟨b, c, cs, _, rfl, hb, m0, by omega, fun r H1 r0 r1 hb1 k1 => q r H1 (fun ps => .inr (.inr (.inl ⟨e1 h, r, rfl, r0, r1⟩))) hb1 k1⟩
  ·exact ⟨b, c, cs, _, rfl, hb, by omega, by omega, fun r H1 r0 r1 hb1 k1 => q r H1 (fun ps => .inr (.inl ⟨e1 h, r, rfl, r0, r1⟩)) hb1 k1⟩
  ·have hi : ch = 105 := by
    rcases hch with rfl | rfl | rfl | h
    ·exact absurd rfl n1
    ·exact absurd rfl n3
    ·exact absurd rfl n2
    ·exact h
   have cp : CPow 10 60 := ⟨by decide, by decide, by decide⟩
   have e60 : (10 : Int) ^ Int.toNat 60 = 10 ^ 60 := rfl
   have p1 : (10 : Int) ^ 60 ≤ 10 ^ 70 := by decide
   have p3 : (0 : Int) < 10 ^ 60 := by decide
   have p0 : (2 : Int) ≤ 10 ^ 70 := by decide
   rw [e60]
   refine ⟨cp, b, c, cs, _, rfl, hb, p3, by decide, fun x H1 x0 x1 hb1 k1 => ⟨b, c, cs, 2, rfl, hb1, by decide, by decide, fun y H2 y0 y1 hb2 k2 => ⟨y, rfl, zfU (by omega) (by omega) (by omega) (by omega), x, rfl, zfU (by omega) (by omega) (by omega) (by omega), ?_⟩⟩⟩
   refine q _ H2 (fun ps => .inr (.inr (.inr (.inr (.inl ⟨hi, _, rfl, ?_, ?_⟩))))) hb2 (k1.trans k2)
   ·have : y = 0 ∨ y = 1 := by omega
    rcases this with rfl | rfl <;> omega
   ·have : y = 0 ∨ y = 1 := by omega
    rcases this with rfl | rfl <;> omega
def SW : List (Str × Str) := [("put", "pi"), ("copy", "pp"), ("plus", "ppp"), ("tell", "p"), ("zero", "pt"), ("rest", ""), ("jump", "t"), ("nil", "p"), ("less", "ppp"), ("make", "pkk"), ("fetch", "ppk"), ("read", "ppk"), ("hang", "pkp"), ("write", "pkp"), ("into", "ppk"), ("look", "ppp"), ("lay", "ppp"), ("none", "pt"), ("same", "ppt"), ("back", "p"), ("call", "p")]
def wk (l : List (Str × Str)) : List (Key × V) := l.map fun p => (.inr p.1, .str p.2)
theorem wk1 : zbc [] (wk [("put", "pi"), ("copy", "pp"), ("plus", "ppp"), ("tell", "p"), ("zero", "pt"), ("rest", ""), ("jump", "t"), ("nil", "p")]) = wk [("put", "pi"), ("copy", "pp"), ("plus", "ppp"), ("tell", "p"), ("zero", "pt"), ("rest", ""), ("jump", "t"), ("nil", "p")] := by rfl
theorem wk2 : zbc [] (wk [("less", "ppp"), ("make", "pkk"), ("fetch", "ppk"), ("read", "ppk"), ("hang", "pkp"), ("write", "pkp")]) = wk [("less", "ppp"), ("make", "pkk"), ("fetch", "ppk"), ("read", "ppk"), ("hang", "pkp"), ("write", "pkp")] := by rfl
theorem wk3 : zbc [] (wk [("into", "ppk"), ("look", "ppp"), ("lay", "ppp"), ("none", "pt"), ("same", "ppt"), ("back", "p"), ("call", "p")]) = wk [("into", "ppk"), ("look", "ppp"), ("lay", "ppp"), ("none", "pt"), ("same", "ppt"), ("back", "p"), ("call", "p")] := by rfl
theorem wk12 : zbc (wk [("put", "pi"), ("copy", "pp"), ("plus", "ppp"), ("tell", "p"), ("zero", "pt"), ("rest", ""), ("jump", "t"), ("nil", "p")]) (wk [("less", "ppp"), ("make", "pkk"), ("fetch", "ppk"), ("read", "ppk"), ("hang", "pkp"), ("write", "pkp")]) = wk [("put", "pi"), ("copy", "pp"), ("plus", "ppp"), ("tell", "p"), ("zero", "pt"), ("rest", ""), ("jump", "t"), ("nil", "p"), ("less", "ppp"), ("make", "pkk"), ("fetch", "ppk"), ("read", "ppk"), ("hang", "pkp"), ("write", "pkp")] := by rfl
theorem wk123 : zbc (wk [("put", "pi"), ("copy", "pp"), ("plus", "ppp"), ("tell", "p"), ("zero", "pt"), ("rest", ""), ("jump", "t"), ("nil", "p"), ("less", "ppp"), ("make", "pkk"), ("fetch", "ppk"), ("read", "ppk"), ("hang", "pkp"), ("write", "pkp")]) (wk [("into", "ppk"), ("look", "ppp"), ("lay", "ppp"), ("none", "pt"), ("same", "ppt"), ("back", "p"), ("call", "p")]) = wk SW := by rfl
def WN : List Str := (SW.map (·.1)) ++ (["copy", "copy", "copy", "copy", "zero", "none", "rest", "same"] : List Str)
theorem WN_ok : ∀ w ∈ WN, ∃ ls, (w, ls) ∈ SW := by
 intro w hw
 simp only [WN, List.mem_append] at hw
 rcases hw with h | h
 ·obtain ⟨p, hp, rfl⟩ := List.mem_map.mp h; exact ⟨p.2, hp⟩
 ·have key : ∀ w ∈ (["copy", "copy", "copy", "copy", "zero", "none", "rest", "same"] : List Str), (w, ("pp" : Str)) ∈ SW ∨ (w, ("pt" : Str)) ∈ SW ∨ (w, ("" : Str)) ∈ SW ∨ (w, ("ppt" : Str)) ∈ SW := by decide +kernel
  rcases key w h with h | h | h | h
  ·exact ⟨_, h⟩
  ·exact ⟨_, h⟩
  ·exact ⟨_, h⟩
  ·exact ⟨_, h⟩
theorem SW_ok : ∀ p ∈ SW, p.2.cps.size ≤ 3 ∧ p.2.cps.all (· < 128) = true ∧ valV (wk SW) (.inr p.1) = some (.str p.2) ∧ (p.1 ≠ "call" → p ∈ LW) ∧ (p.1 = "call" → p.2 = "p") := by
 intro p hp
 simp only [SW, List.mem_cons, List.not_mem_nil, or_false] at hp
 rcases hp with rfl | rfl | rfl | rfl | rfl | rfl | rfl | rfl | rfl | rfl | rfl | rfl | rfl | rfl | rfl | rfl | rfl | rfl | rfl | rfl | rfl <;> refine ⟨by decide +kernel, by decide +kernel, by rfl, fun h => ?_, fun h => ?_⟩ <;> first | rfl | (simp [zbg] at h; done) | decide +kernel | exact absurd rfl h
theorem SW_letter : ∀ p ∈ SW, ∀ c ∈ p.2.cps.toList, c = 112 ∨ c = 107 ∨ c = 116 ∨ c = 105 := by decide +kernel
end
section
variable {P : Program} {w : World} {K : PySem.W.Frag} {mg : Str → Option Value} {base : Heap} {a : Ad}
def sp_lrow : Sp := fun vs H Q _ => ∃ (b c sl sz : Addr) (cs : List Int) (as : List Addr) (sg : List Sg) (low near words many : Int), vs = [.ref b, .ref sl, .int low, .int near, .ref sz] ∧ BagAt H b c cs ∧ SgAt H sl as sg ∧ SgFit sg ∧ 0 < sg.length ∧ sg.length ≤ 100 ∧ sl ≠ b ∧ SzA H sz words many ∧ 0 ≤ low ∧ 0 < near ∧ near ≤ 100 ∧ 0 ≤ words ∧ words ≤ 16 ∧ 0 < many ∧ many ≤ 40 ∧ ∀ (p : Addr) (r : Row) (H' : Hp), za4 H' p r → zaI words many sg r → BagAt H' b c cs → Kp b H H' → Q (.ref p) H'
set_option maxHeartbeats 4000000 in
theorem zeU (T : Txt K mg a) : FnOk P w K mg base CX0 3 a.f_law_row a.d_law_row ["bag", "signs", "low", "near", "size"] sp_lrow := by
 refine T.F_law_row.okC sc_law_row (fun vs H Q E h => ?_) (fun cdv A outer s H vs Q E hr h => ?_)
 ·obtain ⟨b, c, sl, sz, cs, as, sg, low, near, words, many, rfl, _⟩ := h
  rfl
 ·obtain ⟨b, c, sl, sz, cs, as, sg, low, near, words, many, rfl, hb, SG, SF, g0, g1, nsb, hz, l0, n0, n1, w0, w1, m0, m1, q⟩ := h
  have hu := zaX hr
  refine ⟨_, (@zae _ _ _ _ _ (@zfJ _ 5 _ _ _ _ _ _ _ sc_law_row.nd (by rfl) (Or.inl rfl) (@zau _ _ _ _ _ _ _ _ _ zak zak (@zau _ _ _ _ _ _ _ _ _ zak zak (@zau _ _ _ _ _ _ _ _ _ zak zak (@zau _ _ _ _ _ _ _ _ _ zak zak (@zau _ _ _ _ _ _ _ _ _ zak zak (@zau _ _ _ _ _ _ _ _ _ zak zak (@zau _ _ _ _ _ _ _ _ _ zak zak (@zau _ _ _ _ _ _ _ _ _ zak zak zbf)))))))) (by rfl) (by rfl) (List.cons_ne_nil _ _) (Nat.le_of_ble_eq_true (by rfl)) (by first | exact .inl (by rfl) | exact .inr (by rfl) | assumption))
   (@zae _ _ _ _ _ (zaS (zbq PySem.F.plainAttrs_dict PySem.F.slot_dict_update PySem.F.type_dict_update mt_update (pv 5) (@zad _ _ _ _ _ (@zbQ _ _ _ _ _ (@zau _ _ _ _ _ _ _ _ _ zak zak (@zau _ _ _ _ _ _ _ _ _ zak zak (@zau _ _ _ _ _ _ _ _ _ zak zak (@zau _ _ _ _ _ _ _ _ _ zak zak (@zau _ _ _ _ _ _ _ _ _ zak zak (@zau _ _ _ _ _ _ _ _ _ zak zak zbf)))))) (by rfl) (by rfl) (List.cons_ne_nil _ _) (Nat.le_of_ble_eq_true (by rfl))) pa_nil (by rfl))))
   (@zae _ _ _ _ _ (zaS (zbq PySem.F.plainAttrs_dict PySem.F.slot_dict_update PySem.F.type_dict_update mt_update (pv 5) (@zad _ _ _ _ _ (@zbQ _ _ _ _ _ (@zau _ _ _ _ _ _ _ _ _ zak zak (@zau _ _ _ _ _ _ _ _ _ zak zak (@zau _ _ _ _ _ _ _ _ _ zak zak (@zau _ _ _ _ _ _ _ _ _ zak zak (@zau _ _ _ _ _ _ _ _ _ zak zak (@zau _ _ _ _ _ _ _ _ _ zak zak (@zau _ _ _ _ _ _ _ _ _ zak zak zbf))))))) (by rfl) (by rfl) (List.cons_ne_nil _ _) (Nat.le_of_ble_eq_true (by rfl))) pa_nil (by rfl))))
   (@zae _ _ _ _ _ (zaC (i := 6) sc_law_row.nd (by rfl) (Or.inl rfl) (@zah _ _ _ _ _ _ _ ix_F (@zaJ _ _ _ _ _ _ _ _ op_cat (za1 (zcC (by rfl)) (by rfl) T.z_list (by decide +kernel) (@zac _ _ _ _ _ _ (pv 5) pa_nil)) (@zaA _ _ _ _ (@zaq _ _ _ _ _ _ (@zaq _ _ _ _ _ _ (@zaq _ _ _ _ _ _ (@zaq _ _ _ _ _ _ (@zaq _ _ _ _ _ _ (@zaq _ _ _ _ _ _ (@zaq _ _ _ _ _ _ (@zaq _ _ _ _ _ _ pa_nil)))))))))) (zam (zao T) (hr.mono (by decide)) (by rfl) T.m_law_draw T.F_law_draw.kp T.b_law_draw .nil zaD (@zac _ _ _ _ _ _ (pv 0) (@zan _ _ _ _ _ _ pa_nil))) (fun _ _ => rfl)))
   (@zae _ _ _ _ _ (zaC (i := 7) sc_law_row.nd (by rfl) (Or.inl rfl) (@zax _ _ _ _ _ (@zac _ _ _ _ _ _ (pv 6) pa_nil)))
   (@zae _ _ _ _ _ (za0 PassesOwn.never (by rfl) (zg2 (zgQ hu (pv 5) (pv 6) (fun _ _ => rfl))) (zav (i := 8) sc_law_row.nd (by rfl) (Or.inl rfl))
   (@zag _ _ _ (zaC (i := 7) sc_law_row.nd (by rfl) (Or.inl rfl) (@zaJ _ _ _ _ _ _ _ _ op_catT (pv 7) (@zax _ _ _ _ _ (@zad _ _ _ _ _ (zam (zbz T) (hr.mono (by decide)) (by rfl) T.m_law_part T.F_law_part.kp T.b_law_part .nil zaD (@zac _ _ _ _ _ _ (pv 0) (@zac _ _ _ _ _ _ (pv 8) (@zac _ _ _ _ _ _ (pv 2) (@zac _ _ _ _ _ _ (pv 3) (@zac _ _ _ _ _ _ (pv 4) pa_nil)))))) pa_nil (by rfl)))))))
   (@zae _ _ _ _ _ (@zaN _ _ _ _ _ _ _ _ (@zar _ _ _ _ _ _ _ _ op_eq (pv 6) zak (zaB _)) (@zae _ _ _ _ _ (zaC (i := 9) sc_law_row.nd (by rfl) (Or.inl rfl) (zam (zao T) (hr.mono (by decide)) (by rfl) T.m_law_draw T.F_law_draw.kp T.b_law_draw .nil zaD (@zac _ _ _ _ _ _ (pv 0) (@zad _ _ _ _ _ (zaE call_lenF (by rfl) T.z_len (by decide +kernel) (@zac _ _ _ _ _ _ (pv 1) pa_nil)) pa_nil (by rfl)))))
   (@zae _ _ _ _ _ (zaC (i := 10) sc_law_row.nd (by rfl) (Or.inl rfl) (@zaA _ _ _ _ pa_nil))
   (@zae _ _ _ _ _ (za0 PassesOwn.never (by rfl) (zg2 (@zah _ _ _ _ _ _ _ ix_F (@zah _ _ _ _ _ _ _ ix_F (pv 1) (pv 9) (fun _ _ => rfl)) zaf (fun _ _ => rfl))) (zav (i := 8) sc_law_row.nd (by rfl) (Or.inl rfl))
   (@zag _ _ _ (zaS (zbq PySem.F.plainAttrs_list PySem.F.slot_list_append PySem.F.type_list_append mt_append (pv 10) (@zad _ _ _ _ _ (zam (zbz T) (hr.mono (by decide)) (by rfl) T.m_law_part T.F_law_part.kp T.b_law_part .nil zaD (@zac _ _ _ _ _ _ (pv 0) (@zaq _ _ _ _ _ _ (@zac _ _ _ _ _ _ (pv 2) (@zac _ _ _ _ _ _ (pv 3) (@zac _ _ _ _ _ _ (pv 4) pa_nil)))))) pa_nil (by rfl))))))
   (@zag _ _ _ (zaC (i := 7) sc_law_row.nd (by rfl) (Or.inl rfl) (@zaJ _ _ _ _ _ _ _ _ op_catT (pv 7) (@zax _ _ _ _ _ (@zac _ _ _ _ _ _ (pv 9) (@zad _ _ _ _ _ (za1 call_tuple_of (by rfl) T.z_tuple (by decide +kernel) (@zac _ _ _ _ _ _ (pv 10) pa_nil)) pa_nil (by rfl)))))))))) pss_nil)
   (@zag _ _ _ (@zat _ _ _ _ (pv 7)))))))))), ?_⟩
  generalize hG : tSeq (zcX _) _ = tail
  simp! [zdk, tPairs, tC]
  intro sd nsd
  refine ⟨wk [("put", "pi"), ("copy", "pp"), ("plus", "ppp"), ("tell", "p"), ("zero", "pt"), ("rest", ""), ("jump", "t"), ("nil", "p")], rfl, by decide, ?_⟩
  rw [wk1, zcf]
  have S1 : Same H (upd H sd (.dK (wk [("put", "pi"), ("copy", "pp"), ("plus", "ppp"), ("tell", "p"), ("zero", "pt"), ("rest", ""), ("jump", "t"), ("nil", "p")]))) := .laid nsd
  have e1 : upd H sd (.dK (wk [("put", "pi"), ("copy", "pp"), ("plus", "ppp"), ("tell", "p"), ("zero", "pt"), ("rest", ""), ("jump", "t"), ("nil", "p")])) sd = some (.dK (wk [("put", "pi"), ("copy", "pp"), ("plus", "ppp"), ("tell", "p"), ("zero", "pt"), ("rest", ""), ("jump", "t"), ("nil", "p")])) := zaa
  revert S1 e1
  generalize upd H sd (.dK (wk [("put", "pi"), ("copy", "pp"), ("plus", "ppp"), ("tell", "p"), ("zero", "pt"), ("rest", ""), ("jump", "t"), ("nil", "p")])) = H1
  intro S1 e1
  subst hG
  generalize hG : tSeq (zcX _) (tSeq (tAsg _ (za2 6)) _) = tail
  simp! [tBM, zdk, tPairs, tC]
  refine ⟨.inr (.inr (.inl ⟨rfl, .inl ⟨_, e1⟩⟩)), fun q2 n2 => ⟨wk [("less", "ppp"), ("make", "pkk"), ("fetch", "ppk"), ("read", "ppk"), ("hang", "pkp"), ("write", "pkp")], rfl, by decide, ?_⟩⟩
  rw [wk2, zcf]
  have ne2 : sd ≠ q2 := zaw e1 n2
  refine ⟨sd, q2, _, _, rfl, rfl, ne2, zab e1 n2, zaa, by decide, ?_⟩
  rw [wk12]
  have S2 : Same H (upd (upd H1 q2 (.dK (wk [("less", "ppp"), ("make", "pkk"), ("fetch", "ppk"), ("read", "ppk"), ("hang", "pkp"), ("write", "pkp")]))) sd (.dK (wk [("put", "pi"), ("copy", "pp"), ("plus", "ppp"), ("tell", "p"), ("zero", "pt"), ("rest", ""), ("jump", "t"), ("nil", "p"), ("less", "ppp"), ("make", "pkk"), ("fetch", "ppk"), ("read", "ppk"), ("hang", "pkp"), ("write", "pkp")]))) := zaz (fun c o e => zab (S1 _ _ e) n2) nsd
  have e2 : upd (upd H1 q2 (.dK (wk [("less", "ppp"), ("make", "pkk"), ("fetch", "ppk"), ("read", "ppk"), ("hang", "pkp"), ("write", "pkp")]))) sd (.dK (wk [("put", "pi"), ("copy", "pp"), ("plus", "ppp"), ("tell", "p"), ("zero", "pt"), ("rest", ""), ("jump", "t"), ("nil", "p"), ("less", "ppp"), ("make", "pkk"), ("fetch", "ppk"), ("read", "ppk"), ("hang", "pkp"), ("write", "pkp")])) sd = some (.dK (wk [("put", "pi"), ("copy", "pp"), ("plus", "ppp"), ("tell", "p"), ("zero", "pt"), ("rest", ""), ("jump", "t"), ("nil", "p"), ("less", "ppp"), ("make", "pkk"), ("fetch", "ppk"), ("read", "ppk"), ("hang", "pkp"), ("write", "pkp")])) := zaa
  revert S2 e2
  generalize upd (upd H1 q2 (.dK (wk [("less", "ppp"), ("make", "pkk"), ("fetch", "ppk"), ("read", "ppk"), ("hang", "pkp"), ("write", "pkp")]))) sd (.dK (wk [("put", "pi"), ("copy", "pp"), ("plus", "ppp"), ("tell", "p"), ("zero", "pt"), ("rest", ""), ("jump", "t"), ("nil", "p"), ("less", "ppp"), ("make", "pkk"), ("fetch", "ppk"), ("read", "ppk"), ("hang", "pkp"), ("write", "pkp")])) = H2
  intro S2 e2
  subst hG
  generalize hG : tSeq (tAsg _ (za2 6)) _ = tail
  simp! [tBM, zdk, tPairs, tC]
  refine ⟨.inr (.inr (.inl ⟨rfl, .inl ⟨_, e2⟩⟩)), fun q3 n3 => ⟨wk [("into", "ppk"), ("look", "ppp"), ("lay", "ppp"), ("none", "pt"), ("same", "ppt"), ("back", "p"), ("call", "p")], rfl, by decide, ?_⟩⟩
  rw [wk3, zcf]
  have ne3 : sd ≠ q3 := zaw e2 n3
  refine ⟨sd, q3, _, _, rfl, rfl, ne3, zab e2 n3, zaa, by decide, ?_⟩
  rw [wk123]
  have S3 : Same H (upd (upd H2 q3 (.dK (wk [("into", "ppk"), ("look", "ppp"), ("lay", "ppp"), ("none", "pt"), ("same", "ppt"), ("back", "p"), ("call", "p")]))) sd (.dK (wk SW))) := zaz (fun c o e => zab (S2 _ _ e) n3) nsd
  have e3 : upd (upd H2 q3 (.dK (wk [("into", "ppk"), ("look", "ppp"), ("lay", "ppp"), ("none", "pt"), ("same", "ppt"), ("back", "p"), ("call", "p")]))) sd (.dK (wk SW)) sd = some (.dK (wk SW)) := zaa
  revert S3 e3
  generalize upd (upd H2 q3 (.dK (wk [("into", "ppk"), ("look", "ppp"), ("lay", "ppp"), ("none", "pt"), ("same", "ppt"), ("back", "p"), ("call", "p")]))) sd (.dK (wk SW)) = H3
  intro S3 e3
  clear e1 e2 S1 S2 n2 n3 ne2 ne3
  have hb3 := hb.keep S3
  have SG3 : SgAt H3 sl as sg := ⟨S3 _ _ SG.top, SG.len, fun i p x h1 h2 => S3 _ _ (SG.row i p x h1 h2)⟩
  have hz3 : SzA H3 sz words many := S3 _ _ hz
  have sdb : sd ≠ b := (hb.apart nsd).1
  subst hG
  generalize hG : tSeq (tAsg (tTup _) (za2 7)) _ = tail
  simp! [e3]
  intro q4 n4 q5 n5
  refine ⟨q4, q5, _, _, rfl, rfl, zab zaa n5, zaa, by decide, fun q6 n6 => ?_⟩
  have eWN : ((wk SW).map fun p => kV p.1) ++ [V.str (Str.ofString "copy"), V.str (Str.ofString "copy"), V.str (Str.ofString "copy"), V.str (Str.ofString "copy"), V.str (Str.ofString "zero"), V.str (Str.ofString "none"), V.str (Str.ofString "rest"), V.str (Str.ofString "same")] = WN.map V.str := by rfl
  rw [eWN] at *
  have S6 := ((Same.laid n4 (u := .lst ((wk SW).map fun p => kV p.1))).step n5 (u := .lst [V.str (Str.ofString "copy"), V.str (Str.ofString "copy"), V.str (Str.ofString "copy"), V.str (Str.ofString "copy"), V.str (Str.ofString "zero"), V.str (Str.ofString "none"), V.str (Str.ofString "rest"), V.str (Str.ofString "same")])).step n6 (u := .lst (WN.map V.str))
  have e6 : upd (upd (upd H3 q4 (.lst ((wk SW).map fun p => kV p.1))) q5 (.lst [V.str (Str.ofString "copy"), V.str (Str.ofString "copy"), V.str (Str.ofString "copy"), V.str (Str.ofString "copy"), V.str (Str.ofString "zero"), V.str (Str.ofString "none"), V.str (Str.ofString "rest"), V.str (Str.ofString "same")])) q6 (.lst (WN.map V.str)) q6 = some (.lst (WN.map V.str)) := zaa
  have n63 := ((Same.laid n4 (u := .lst ((wk SW).map fun p => kV p.1))).step n5 (u := .lst [V.str (Str.ofString "copy"), V.str (Str.ofString "copy"), V.str (Str.ofString "copy"), V.str (Str.ofString "copy"), V.str (Str.ofString "zero"), V.str (Str.ofString "none"), V.str (Str.ofString "rest"), V.str (Str.ofString "same")])).free n6
  revert S6 e6
  generalize upd (upd (upd H3 q4 (.lst ((wk SW).map fun p => kV p.1))) q5 (.lst [V.str (Str.ofString "copy"), V.str (Str.ofString "copy"), V.str (Str.ofString "copy"), V.str (Str.ofString "copy"), V.str (Str.ofString "zero"), V.str (Str.ofString "none"), V.str (Str.ofString "rest"), V.str (Str.ofString "same")])) q6 (.lst (WN.map V.str)) = H6
  intro S6 e6
  have hb6 := hb3.keep S6
  have q6b := (hb3.apart n63).1
  refine ⟨b, c, cs, 29, rfl, hb6, by decide, by decide, fun x H7 x0 x1 hb7 k7 => ?_⟩
  obtain ⟨xN, rfl⟩ := Int.eq_ofNat_of_zero_le x0
  have xl : xN < WN.length := (by have : WN.length = 29 := (by decide +kernel); omega)
  obtain ⟨word, hw⟩ : ∃ w, WN[xN]? = some w := ⟨_, List.getElem?_eq_getElem xl⟩
  obtain ⟨ls, hls⟩ := WN_ok word (List.mem_of_getElem? hw)
  obtain ⟨z1, z2, z3, z4, z5⟩ := SW_ok _ hls
  have zl := SW_letter _ hls
  dsimp only at z1 z2 z3 z4 z5 zl
  refine ⟨_, rfl, _, rfl, _, by rw [k7 _ _ e6 q6b]; rfl, _, zaF (by rw [List.getElem?_map, hw]; rfl), ?_⟩
  have k37 : Kp b H H7 := fun q o e n => k7 _ _ (S6 _ _ (S3 _ _ e)) n
  have e7 := k7 _ _ (S6 _ _ e3) sdb
  have SG7 := SG.kp hb k37 nsb
  have hz7 : SzA H7 sz words many := hb.tup k37 hz
  clear e6 n63 n4 n5 n6 S6 S3 hb6 k7 hb3 SG3 hz3 e3 q6b
  subst hG
  generalize hG : tSeq (tIfS _ _ _) _ = tail
  simp! []
  intro rp0 nr0
  have S8 : Same H7 (upd H7 rp0 (.tup [V.str word])) := .laid nr0
  have e8 : upd H7 rp0 (.tup [V.str word]) rp0 = some (.tup [V.str word]) := zaa
  revert S8 e8
  generalize upd H7 rp0 (.tup [V.str word]) = H8
  intro S8 e8
  have hb8 := hb7.keep S8
  have sd8 := S8 _ _ e7
  have k8 : Kp b H H8 := fun q o e n => S8 _ _ (k37 _ _ e n)
  refine forS (H1 := H8) ls (fun Q2 hQ => by simp! [sd8, z3]; exact hQ) z2 (fun i σ H9 => ∃ (rp : Addr) (ps : List Part) (v8 : Option V), σ = [some (V.ref b), some (V.ref sl), some (V.int low), some (V.int near), some (V.ref sz), some (V.ref sd), some (V.str word), some (V.ref rp), v8, none, none] ∧ ps.length = i ∧ za4 H9 rp (word, ps) ∧ PartsFit words many sg ls ps ∧ BagAt H9 b c cs ∧ Kp b H H9)
   ⟨rp0, [], _, rfl, rfl, ⟨[], e8, rfl, fun i v p h => by simp at h⟩, ⟨fun i c p _ h => by simp at h⟩, hb8, k8⟩ ?_ ?_
  ·rintro i ch σ H9 hch ⟨rp, ps, v8, rfl, li, ⟨vs, hrp, PA⟩, F, hb9, k9⟩
   have il : i < 3 := by have := (Array.getElem?_eq_some_iff.mp hch).1; omega
   have vl := PA.len
   dsimp only at vl hrp PA
   have hz9 : SzA H9 sz words many := hb.tup k9 hz
   simp! []
   refine ⟨b, c, sz, cs, ch, low, near, words, many, sg, rfl, hb9, hz9, zl ch (Array.mem_toList_iff.mpr (Array.mem_of_getElem? hch)), l0, n0, n1, w0, w1, m0, m1, fun x H10 fit hb10 k10 p1 hp1 => ?_⟩
   have hrp3 := hb9.tup k10 hrp
   refine ⟨rp, p1, _, _, rfl, rfl, .of (zab hrp3 hp1), .of zaa, by simp, by rw [sizeLine_eq]; simp; omega, (fun e => by cases e), fun _ p2 hp2 => ?_⟩
   have S4 : Same H10 (upd (upd H10 p1 (.tup [.int x])) p2 (.tup (.str word :: vs ++ [.int x]))) := (Same.laid hp1).step hp2
   have K4 : Kp b H9 (upd (upd H10 p1 (.tup [.int x])) p2 (.tup (.str word :: vs ++ [.int x]))) := (k10.laid hp1).laid hp2
   exact ⟨p2, rfl, ps ++ [.inl x], by rw [List.length_append, li]; rfl, ⟨vs ++ [.int x], zaa, (PA.kp hb9 K4).snoc (v := .int x) (p := .inl x) rfl⟩, F.snoc (by rw [li]; exact hch) (fit _), hb10.keep S4, k9.trans K4⟩
  ·rintro σ H9 ⟨rp, ps, v8, rfl, li, ⟨vs, hrp, PA⟩, F, hb9, k9⟩
   subst hG
   have vl := PA.len
   dsimp only at vl hrp PA
   have hz9 : SzA H9 sz words many := hb.tup k9 hz
   by_cases cw : word = "call"
   ·subst cw
    have elp := z5 rfl
    subst elp
    have SG9 := SG.kp hb k9 nsb
    have sl9 := SG9.top
    generalize hG : tSeq (tAsg (tLst tNil) _) _ = tail
    simp! [sl9, List.length_map, SG.len]
    refine ⟨b, c, cs, _, rfl, hb9, by omega, by omega, fun f H10 f0 f1 hb10 k10 => ?_⟩
    obtain ⟨fN, rfl⟩ := Int.eq_ofNat_of_zero_le f0
    have fl : fN < sg.length := by omega
    obtain ⟨zz, hzz⟩ : ∃ z, sg[fN]? = some z := ⟨_, List.getElem?_eq_getElem fl⟩
    have asc := SF.asc _ (List.mem_of_getElem? hzz)
    have K10 := k9.trans k10
    have SG10 := SG.kp hb K10 nsb
    obtain ⟨sa, hsa, hsr⟩ := SG10.at_ hzz
    have hz10 : SzA H10 sz words many := hb.tup K10 hz
    have hrp10 := hb9.tup k10 hrp
    have PA10 := PA.kp hb9 k10
    subst hG
    generalize hG : tSeq (tFor _ _ _) _ = tail
    simp! []
    intro L nL
    have nLb := hb10.apart nL
    have SL : Same H10 (upd H10 L (.lst [])) := .laid nL
    have eL : upd H10 L (.lst []) L = some (.lst []) := zaa
    have hb11 := hb10.laid nL (u := .lst [])
    revert SL eL hb11
    generalize upd H10 L (.lst []) = H11
    intro SL eL hb11
    have K11 : Kp b H H11 := fun q o e n => SL _ _ (K10 _ _ e n)
    have sl11 := SL _ _ SG10.top
    have hsr11 := SL _ _ hsr
    have as11 : atI (as.map V.ref) ((fN : Nat) : Int) = some (.ref sa) := zaF (by rw [List.getElem?_map, hsa]; rfl)
    have LH : H L = none := za9 K10 nLb.1 nL
    subst hG
    generalize hG : tAsg (tOp _ _ _) _ = tail
    refine forS (H1 := H11) zz.1 (fun Q2 hQ => by simp! [sl11, as11, hsr11]; exact hQ) asc.2 (fun j σ H12 => ∃ (is : List Int) (v8 : Option V), σ = [some (V.ref b), some (V.ref sl), some (V.int low), some (V.int near), some (V.ref sz), some (V.ref sd), some (V.str (Str.ofString "call")), some (V.ref rp), v8, some (V.int fN), some (V.ref L)] ∧ is.length = j ∧ (∀ x ∈ is, 0 ≤ x ∧ x < 8 + words) ∧ H12 L = some (.lst (is.map V.int)) ∧ BagAt H12 b c cs ∧ (∀ q o, H11 q = some o → q ≠ b → q ≠ L → H12 q = some o))
     ⟨[], _, rfl, rfl, fun x hx => (by cases hx), eL, hb11, fun q o e _ _ => e⟩ ?_ ?_
    ·rintro j ch σ H12 hch ⟨is, v8, rfl, lj, isb, eL12, hb12, k12⟩
     have j6 : j < 6 := by have := (Array.getElem?_eq_some_iff.mp hch).1; have := asc.1; omega
     have tup12 : ∀ {q : Addr} {xs : List V}, H11 q = some (.tup xs) → H12 q = some (.tup xs) := fun {q xs} e => k12 q _ e (fun z => by obtain ⟨o, h⟩ := hb11.ex; obtain ⟨v, st, n, h, _⟩ := h; rw [z, h] at e; cases e) (fun z => by rw [z, eL] at e; cases e)
     have hz12 : SzA H12 sz words many := tup12 (SL _ _ hz10)
     simp! [tBM]
     refine ⟨.inl ⟨rfl, _, .of eL12⟩, b, c, sz, cs, 112, low, near, words, many, sg, by rw [show Str.ofString "p" = ⟨#[112]⟩ by decide], hb12, hz12, .inl rfl, l0, n0, n1, w0, w1, m0, m1, fun x H13 fit hb13 k13 => ?_⟩
     have eL13 := k13 _ _ eL12 nLb.1
     refine ⟨L, _, _, rfl, rfl, eL13, by rw [sizeLine_eq, List.length_map]; omega, is ++ [x], by rw [List.length_append, lj]; rfl, fun y hy => ?_, by rw [zaa, List.map_append]; rfl, hb13.other nLb.1 nLb.2, fun q o e n1 n2 => by rw [zaj n2]; exact k13 _ _ (k12 _ _ e n1 n2) n1⟩
     rcases List.mem_append.mp hy with h | h
     ·exact isb y h
     ·rw [List.mem_singleton.mp h]
      rcases fit [] with ⟨_, x', e, x0', x1'⟩ | ⟨e, _⟩ | ⟨e, _⟩ | ⟨e, _⟩ | ⟨e, _⟩ | ⟨e, _⟩
      ·cases e; exact ⟨x0', x1'⟩
      all_goals exact absurd e (by decide)
    ·rintro σ H12 ⟨is, v8, rfl, lj, isb, eL12, hb12, k12⟩
     have tup12 : ∀ {q : Addr} {xs : List V}, H11 q = some (.tup xs) → H12 q = some (.tup xs) := fun {q xs} e => k12 q _ e (fun z => by obtain ⟨o, h⟩ := hb11.ex; obtain ⟨v, st, n, h, _⟩ := h; rw [z, h] at e; cases e) (fun z => by rw [z, eL] at e; cases e)
     have hrp12 := tup12 (SL _ _ hrp10)
     subst hG
     have PA12 : PartsAt H12 vs ps := ⟨PA.len, fun i v p h1 h2 => by
      have := PA10.at_ i v p h1 h2
      cases p with
      | inl y => exact this
      | inr l => obtain ⟨t, e, h⟩ := this; exact ⟨t, e, tup12 (SL _ _ h)⟩⟩
     simp! []
     refine ⟨_, .inl ⟨.of eL12, fun tq ntq p1 np1 => ?_⟩⟩
     refine ⟨rp, p1, _, _, rfl, rfl, .of (zab (zab hrp12 ntq) np1), .of zaa, by simp, by rw [sizeLine_eq]; simp at *; omega, (fun e => by cases e), fun _ p2 np2 => ?_⟩
     have SA := ((Same.laid ntq (u := .tup (is.map V.int))).step np1 (u := .tup [V.int fN, V.ref tq])).step np2 (u := .tup (V.str (Str.ofString "call") :: vs ++ [V.int fN, V.ref tq]))
     have etq := zab (u := .tup (V.str (Str.ofString "call") :: vs ++ [V.int fN, V.ref tq])) (zab (u := .tup [V.int fN, V.ref tq]) (zaa (H := H12) (a := tq) (o := .tup (is.map V.int))) np1) np2
     have hbA := hb12.keep SA
     have PAA : PartsAt (upd (upd (upd H12 tq (.tup (is.map V.int))) p1 (.tup [V.int fN, V.ref tq])) p2 (.tup (V.str (Str.ofString "call") :: vs ++ [V.int fN, V.ref tq]))) (vs ++ [V.int fN, V.ref tq]) (ps ++ [.inl (fN : Int), .inr is]) := by
      have P1 : PartsAt (upd (upd (upd H12 tq (.tup (is.map V.int))) p1 (.tup [V.int fN, V.ref tq])) p2 (.tup (V.str (Str.ofString "call") :: vs ++ [V.int fN, V.ref tq]))) vs ps := ⟨PA12.len, fun i v p h1 h2 => by
       have := PA12.at_ i v p h1 h2
       cases p with
       | inl y => exact this
       | inr l => obtain ⟨t, e, h⟩ := this; exact ⟨t, e, SA _ _ h⟩⟩
      have P2 := (P1.snoc (v := .int fN) (p := .inl (fN : Int)) rfl).snoc (v := .ref tq) (p := .inr is) ⟨tq, rfl, etq⟩
      rw [List.append_assoc, List.append_assoc] at P2
      exact P2
     refine q p2 ("call", ps ++ [.inl (fN : Int), .inr is]) _ ⟨vs ++ [V.int fN, V.ref tq], zaa, PAA⟩ ?_ hbA (fun c o e n => SA _ _ (k12 _ _ (K11 _ _ e n) n (fun z => by rw [z, LH] at e; cases e)))
     have l1 : ps.length = 1 := li
     match ps, l1 with
     | [pp], _ =>
      have fp := F.at_ 0 112 pp (by decide) rfl
      refine ⟨"pfq", (show ((Str.ofString "call" : Str), (Str.ofString "pfq" : Str)) ∈ LW by decide +kernel), by rfl, ⟨fun i c0 p0 h1 h2 => ?_⟩⟩
      match i, h1, h2 with
      | 0, h1, h2 =>
       cases h2
       have : c0 = 112 := by have h1 : (Str.ofString "pfq").cps[0]? = some c0 := h1; rw [show (Str.ofString "pfq").cps[0]? = some 112 by decide] at h1; cases h1; rfl
       subst this
       rcases fp with h | ⟨e, _⟩ | ⟨e, _⟩ | ⟨e, _⟩ | ⟨e, _⟩ | ⟨e, _⟩
       ·exact .inl h
       all_goals exact absurd e (by decide)
      | 1, h1, h2 =>
       cases h2
       have : c0 = 102 := by have h1 : (Str.ofString "pfq").cps[1]? = some c0 := h1; rw [show (Str.ofString "pfq").cps[1]? = some 102 by decide] at h1; cases h1; rfl
       exact .inr (.inr (.inr (.inl ⟨this, _, rfl, by omega, by omega⟩)))
      | 2, h1, h2 =>
       cases h2
       have : c0 = 113 := by have h1 : (Str.ofString "pfq").cps[2]? = some c0 := h1; rw [show (Str.ofString "pfq").cps[2]? = some 113 by decide] at h1; cases h1; rfl
       exact .inr (.inr (.inr (.inr (.inr ⟨this, fN, is, zz, rfl, hzz, rfl, lj, isb⟩))))
      | i + 3, h1, h2 => simp at h2
   ·simp! [cw]
    exact q rp (word, ps) H9 ⟨vs, hrp, PA⟩ ⟨ls, z4 cw, li, F⟩ hb9 k9
end
section
variable {P : Program} {w : World} {K : PySem.W.Frag} {mg : Str → Option Value} {base : Heap} {a : Ad}
theorem WDS_ok : ∀ x : Nat, x < 8 → ∃ n : Int, 0 ≤ n ∧ n ≤ 16 ∧ atI [V.int 0, V.int 3, V.int 16, V.int 1, V.int 8, V.int 2, V.int 5, V.int 16] ((x : Nat) : Int) = some (.int n)
 | 0, _ => ⟨0, by decide, by decide, rfl⟩
 | 1, _ => ⟨3, by decide, by decide, rfl⟩
 | 2, _ => ⟨16, by decide, by decide, rfl⟩
 | 3, _ => ⟨1, by decide, by decide, rfl⟩
 | 4, _ => ⟨8, by decide, by decide, rfl⟩
 | 5, _ => ⟨2, by decide, by decide, rfl⟩
 | 6, _ => ⟨5, by decide, by decide, rfl⟩
 | 7, _ => ⟨16, by decide, by decide, rfl⟩
 | n + 8, h => absurd h (by omega)
theorem MNY_ok : ∀ x : Nat, x < 2 → ∃ n : Int, 0 < n ∧ n < 41 ∧ atI [V.int 8, V.int 40] ((x : Nat) : Int) = some (.int n)
 | 0, _ => ⟨8, by decide, by decide, rfl⟩
 | 1, _ => ⟨40, by decide, by decide, rfl⟩
 | n + 2, h => absurd h (by omega)
theorem NR_ok : ∀ x : Nat, x < 3 → ∃ n : Int, 0 < n ∧ n < 100 ∧ atI [V.int 3, V.int 24, V.int 6] ((x : Nat) : Int) = some (.int n)
 | 0, _ => ⟨3, by decide, by decide, rfl⟩
 | 1, _ => ⟨24, by decide, by decide, rfl⟩
 | 2, _ => ⟨6, by decide, by decide, rfl⟩
 | n + 3, h => absurd h (by omega)
def sp_ldef : Sp := fun vs H Q _ => ∃ (b c sl sa : Addr) (cs : List Int) (as : List Addr) (sg : List Sg) (z : Sg), vs = [.ref b, .ref sl, .ref sa] ∧ BagAt H b c cs ∧ SgAt H sl as sg ∧ SgFit sg ∧ 0 < sg.length ∧ sg.length ≤ 100 ∧ sl ≠ b ∧ H sa = some (.tup [.str z.1, .str z.2]) ∧
 ∀ (p rl : Addr) (rs : List Addr) (d : Df) (H' : Hp), H' p = some (.tup [.str d.1.1, .str d.1.2, .int d.2.1, .ref rl]) → RowsOf H' rl rs d.2.2 → d.1 = z → DfFit sg d → H rl = none → BagAt H' b c cs → Kp b H H' → Q (.ref p) H'
set_option maxHeartbeats 4000000 in
theorem zeT (T : Txt K mg a) : FnOk P w K mg base CX0 4 a.f_law_def a.d_law_def ["bag", "signs", "sign"] sp_ldef := by
  refine T.F_law_def.okC sc_law_def (fun vs H Q E h => ?_) (fun cdv A outer s H vs Q E hr h => ?_)
  · obtain ⟨b, c, sl, sa, cs, as, sg, z, rfl, _⟩ := h
    rfl
  · obtain ⟨b, c, sl, sa, cs, as, sg, z, rfl, hb, SG, SF, g0, g1, nsb, hsa, q⟩ := h
    have hu := zaX hr
    refine ⟨_, (@zae _ _ _ _ _ (zaC (i := 3) sc_law_def.nd (by rfl) (Or.inr rfl) (zah ix_F (zaA (@zan _ _ _ _ _ _ (@zan _ _ _ _ _ _ (@zan _ _ _ _ _ _ (@zan _ _ _ _ _ _ (@zan _ _ _ _ _ _ (@zan _ _ _ _ _ _ (@zan _ _ _ _ _ _ (@zan _ _ _ _ _ _ pa_nil))))))))) (zam (zao T) (hr.mono (by decide)) (by rfl) T.m_law_draw T.F_law_draw.kp T.b_law_draw .nil zaD (@zac _ _ _ _ _ _ (pv 0) (@zan _ _ _ _ _ _ pa_nil))) (fun _ _ => rfl)))
      (@zae _ _ _ _ _ (zaC (i := 4) sc_law_def.nd (by rfl) (Or.inr rfl) (zaJ op_add zaf (zam (zao T) (hr.mono (by decide)) (by rfl) T.m_law_draw T.F_law_draw.kp T.b_law_draw .nil zaD (@zac _ _ _ _ _ _ (pv 0) (zad (zah ix_F (zaA (@zan _ _ _ _ _ _ (@zan _ _ _ _ _ _ pa_nil))) (zam (zao T) (hr.mono (by decide)) (by rfl) T.m_law_draw T.F_law_draw.kp T.b_law_draw .nil zaD (@zac _ _ _ _ _ _ (pv 0) (@zan _ _ _ _ _ _ pa_nil))) (fun _ _ => rfl)) pa_nil)))))
      (@zae _ _ _ _ _ (zaC (i := 5) sc_law_def.nd (by rfl) (Or.inr rfl) (zam (zao T) (hr.mono (by decide)) (by rfl) T.m_law_draw T.F_law_draw.kp T.b_law_draw .nil zaD (@zac _ _ _ _ _ _ (pv 0) (zad (zaJ op_add zaf (pv 3)) pa_nil))))
      (@zae _ _ _ _ _ (zaC (i := 6) sc_law_def.nd (by rfl) (Or.inr rfl) (zah ix_F (zaA (@zan _ _ _ _ _ _ (@zan _ _ _ _ _ _ (@zan _ _ _ _ _ _ pa_nil)))) (zam (zao T) (hr.mono (by decide)) (by rfl) T.m_law_draw T.F_law_draw.kp T.b_law_draw .nil zaD (@zac _ _ _ _ _ _ (pv 0) (@zan _ _ _ _ _ _ pa_nil))) (fun _ _ => rfl)))
      (@zae _ _ _ _ _ (zco (i := 7) sc_law_def.nd (by rfl) (Or.inl rfl) (N' := ["k", "bag", "signs", "low", "near", "many", "words"]) (cap := [none, some 0, some 1, some 5, some 6, some 4, some 3]) ⟨rfl, (by decide +kernel), (by decide +kernel), (by rfl), rfl, (by rfl)⟩ (by rfl) (zaW (by rfl) T.z_range (zad (zaJ op_sub (pv 4) zaf) pa_nil)) (fun C_ ex_ s_ H_ => (zav (i := 0) (show (["k", "bag", "signs", "low", "near", "many", "words"] : List Str).Nodup by decide +kernel) (by rfl) (Or.inl rfl))) zaR (fun C_ ex_ s_ H_ => zaL) (fun C_ ex_ s_ H_ => (zam (zeU T) (by exact hr.mono (by decide)) (by rfl) T.m_law_row T.F_law_row.kp T.b_law_row .nil zaD (@zac _ _ _ _ _ _ (pv 1) (@zac _ _ _ _ _ _ (pv 2) (@zac _ _ _ _ _ _ (pv 3) (@zac _ _ _ _ _ _ (pv 4) (zad (zax (zad (zaJ op_add zaf (pv 6)) (@zac _ _ _ _ _ _ (pv 5) pa_nil))) pa_nil))))))))
      (@zae _ _ _ _ _ (zaC (i := 8) sc_law_def.nd (by rfl) (Or.inl rfl) (zam (zbz T) (hr.mono (by decide)) (by rfl) T.m_law_part T.F_law_part.kp T.b_law_part .nil zaD (@zac _ _ _ _ _ _ (pv 0) (@zaq _ _ _ _ _ _ (@zac _ _ _ _ _ _ (pv 5) (@zac _ _ _ _ _ _ (pv 6) (zad (zax (zad (zaJ op_add zaf (pv 3)) (@zac _ _ _ _ _ _ (pv 4) pa_nil))) pa_nil)))))))
      (@zae _ _ _ _ _ (zaS (zbq PySem.F.plainAttrs_list PySem.F.slot_list_append PySem.F.type_list_append mt_append (pv 7) (zad (zah ix_F (zaA (zad (zax (@zaq _ _ _ _ _ _ (zad (zam (zao T) (hr.mono (by decide)) (by rfl) T.m_law_draw T.F_law_draw.kp T.b_law_draw .nil zaD (@zac _ _ _ _ _ _ (pv 0) (@zac _ _ _ _ _ _ (pv 4) pa_nil))) pa_nil))) (zad (zax (@zaq _ _ _ _ _ _ (@zac _ _ _ _ _ _ (pv 8) pa_nil))) pa_nil))) (zam (zao T) (hr.mono (by decide)) (by rfl) T.m_law_draw T.F_law_draw.kp T.b_law_draw .nil zaD (@zac _ _ _ _ _ _ (pv 0) (@zan _ _ _ _ _ _ pa_nil))) (fun _ _ => rfl)) pa_nil)))
      (@zag _ _ _ (zat (zax (zad (zah ix_F (pv 2) zaf (fun _ _ => rfl)) (zad (zah ix_F (pv 2) zaf (fun _ _ => rfl)) (@zac _ _ _ _ _ _ (pv 3) (@zac _ _ _ _ _ _ (pv 7) pa_nil)))))))))))))), ?_⟩
    generalize hG : tSeq (tAsg _ (za2 4)) _ = tail
    simp! []
    intro l1 nl1
    have l1b := (hb.apart nl1).1
    refine ⟨b, c, cs, 8, rfl, hb.laid nl1, by decide, by decide, fun x H1 x0 x1 hb1 k1 => ?_⟩
    have e1 := k1 _ _ zaa l1b
    have k1 : Kp b H H1 := (Kp.refl.laid nl1).trans k1
    obtain ⟨x, rfl⟩ := Int.eq_ofNat_of_zero_le x0
    obtain ⟨words, w0, w1, ew⟩ := WDS_ok x (by omega)
    refine ⟨_, rfl, _, by rw [e1]; rfl, _, ew, ?_⟩
    clear e1 nl1 l1b ew x1 x0
    subst hG
    generalize hG : tSeq (tAsg _ (za2 5)) _ = tail
    simp! []
    intro l2 nl2
    have l2b := (hb1.apart nl2).1
    refine ⟨b, c, cs, 2, rfl, hb1.laid nl2, by decide, by decide, fun x H2 x0 x1 hb2 k2 => ?_⟩
    have e2 := k2 _ _ zaa l2b
    have k2 : Kp b H H2 := (k1.laid nl2).trans k2
    obtain ⟨x, rfl⟩ := Int.eq_ofNat_of_zero_le x0
    obtain ⟨mm, mm0, mm1, em⟩ := MNY_ok x (by omega)
    refine ⟨_, rfl, _, by rw [e2]; rfl, _, em, b, c, cs, mm, rfl, hb2, mm0, by omega, fun y H3 y0 y1 hb3 k3 => ?_⟩
    have k3 := k2.trans k3
    clear e2 nl2 l2b em x1 x0 hb1 k1 k2 hb2
    obtain ⟨yN, rfl⟩ := Int.eq_ofNat_of_zero_le y0
    have ey : (yN : Int) < 40 := by omega
    clear mm0 mm1 y1
    subst hG
    generalize hG : tSeq (tAsg _ (za2 6)) _ = tail
    simp! []
    refine ⟨b, c, cs, _, rfl, hb3, by omega, by omega, fun low H4 l0 l1' hb4 k4 => ?_⟩
    have k4 := k3.trans k4
    clear hb3 k3
    subst hG
    generalize hG : tSeq (tAsg _ (za2 7)) _ = tail
    simp! []
    intro l3 nl3
    have l3b := (hb4.apart nl3).1
    refine ⟨b, c, cs, 3, rfl, hb4.laid nl3, by decide, by decide, fun x H5 x0 x1 hb5 k5 => ?_⟩
    have e5 := k5 _ _ zaa l3b
    have k5 : Kp b H H5 := (k4.laid nl3).trans k5
    obtain ⟨x, rfl⟩ := Int.eq_ofNat_of_zero_le x0
    obtain ⟨near, n0, n1, en⟩ := NR_ok x (by omega)
    refine ⟨_, rfl, _, by rw [e5]; rfl, _, en, ?_⟩
    clear e5 nl3 l3b en x1 x0 hb4 k4
    subst hG
    generalize hG : tSeq (tAsg _ (za2 8)) _ = tail
    simp! []
    have H5n : ∀ {q : Addr}, q ≠ b → H5 q = none → H q = none := fun n e => za9 k5 n e
    refine zeD (H1 := H5) (1 + (yN : Int) - 1) (fun Q2 h2 => by simp! []; exact h2) (by omega) (by omega) (fun L j ys H6 => ∃ (rs : List Addr) (rws : List Row), ys = rs.map V.ref ∧ RowsOf H6 L rs rws ∧ rws.length = j ∧ (∀ r ∈ rws, zaI words (1 + yN) sg r) ∧ BagAt H6 b c cs ∧ Kp b H5 H6)
      (fun L hL => ⟨[], [], rfl, ⟨zaa, rfl, fun i p r h => by simp at h⟩, rfl, by simp, hb5.laid hL, Kp.refl.laid hL⟩) ?_ (by rw [sizeLine_eq]; omega) ?_ ?_
    · rintro L hL j ys H6 hj ⟨rs, rws, rfl, R, lr, rf, hb6, k6⟩
      exact ⟨R.top, by rw [List.length_map, R.len]; omega⟩
    · rintro L hL j ys H6 hj ⟨rs, rws, rfl, R, lr, rf, hb6, k6⟩
      obtain ⟨Lb, Lc⟩ := hb5.apart hL
      simp! [zaM, tTrue]
      intro sz nsz
      refine ⟨b, c, sl, sz, cs, as, sg, low, near, words, 1 + yN, rfl, hb6.laid nsz, SG.kp hb ((k5.trans k6).laid nsz) nsb, SF, g0, g1, nsb, zaa, l0, n0, by omega, w0, w1, by omega, by omega, fun p r H7 RA RF hb7 k7 => ?_⟩
      have k67 : Kp b H6 H7 := (Kp.refl.laid nsz).trans k7
      have R7 := R.kp hb6 k67 Lb
      have F : Fr (· = L) H7 (upd H7 L (.lst (rs.map V.ref ++ [.ref p]))) := .put rfl (zaP R7.top)
      refine ⟨R7.top, rs ++ [p], by rw [List.map_append]; rfl, rws ++ [r], RowsOf.snoc F R7.row R7.len zaa (RA.fr F), by rw [List.length_append, lr]; rfl, fun r' hr' => ?_, hb7.other Lb Lc, fun q o h n => ?_⟩
      · rcases List.mem_append.mp hr' with h | h
        · exact rf r' h
        · rw [List.mem_singleton.mp h]; exact RF
      · rw [zaj (zaw h hL)]
        exact k67 _ _ (k6 _ _ h n) n
    · rintro L hL ys H6 ⟨rs, rws, rfl, R, lr, rf, hb6, k6⟩
      obtain ⟨Lb, Lc⟩ := hb5.apart hL
      subst hG
      have lr : rws.length = yN := by rw [lr]; omega
      have k6' := k5.trans k6
      generalize hG : tSeq (zcX _) _ = tail
      simp! []
      intro sz nsz
      refine ⟨b, c, sz, cs, 112, low, near, words, 1 + yN, sg, by rw [show Str.ofString "p" = ⟨#[112]⟩ by decide], hb6.laid nsz, zaa, .inl rfl, l0, n0, by omega, w0, w1, by omega, by omega, fun last H7 fit hb7 k7 => ?_⟩
      have k67 : Kp b H6 H7 := (Kp.refl.laid nsz).trans k7
      have R7 := R.kp hb6 k67 Lb
      have k7' := k6'.trans k67
      have top7 := R7.top
      subst hG
      generalize hG : tRet _ = tail
      simp! [tBM]
      refine ⟨.inl ⟨rfl, _, .of top7⟩, b, c, cs, _, rfl, hb7, by omega, by omega, fun jt H8 j0 j1 hb8 k8 => ?_⟩
      have R8 := R7.kp hb7 k8 Lb
      have k8' := k7'.trans k8
      intro p1 np1 p2 np2 p3 np3
      have p3b := (((hb8.laid np1).laid np2).apart np3).1
      refine ⟨b, c, cs, 2, rfl, ((hb8.laid np1).laid np2).laid np3, by decide, by decide, fun x H9 x0 x1 hb9 k9 => ?_⟩
      have e3 := k9 _ _ zaa p3b
      have e2 := k9 _ _ (zab zaa np3) ((hb8.laid np1).apart np2).1
      have e1 := k9 _ _ (zab (zab zaa np2) np3) (hb8.apart np1).1
      have k89 : Kp b H8 H9 := (((Kp.refl.laid np1).laid np2).laid np3).trans k9
      have k9' := k8'.trans k89
      have R9 := R8.kp hb8 k89 Lb
      have hp : ∃ (pp : Addr) (r : Row), atI [V.ref p1, V.ref p2] x = some (.ref pp) ∧ za4 H9 pp r ∧ zaI words (1 + yN) sg r ∧ (r.1 = "back" ∨ r.1 = "jump") := by
        obtain ⟨x, rfl⟩ := Int.eq_ofNat_of_zero_le x0
        match x, x1 with
        | 0, _ => exact ⟨p1, ("jump", [.inl jt]), zda, ⟨[.int jt], e1, ⟨rfl, fun i v p h1 h2 => by
            match i, h1, h2 with
            | 0, h1, h2 => cases h1; cases h2; rfl
            | i + 1, h1, h2 => simp at h1⟩⟩, ⟨"t", (show ((Str.ofString "jump" : Str), (Str.ofString "t" : Str)) ∈ LW by decide +kernel), by rfl, ⟨fun i c0 p0 h1 h2 => by
            match i, h1, h2 with
            | 0, h1, h2 =>
              cases h2
              have : c0 = 116 := by have h1 : (Str.ofString "t").cps[0]? = some c0 := h1; rw [show (Str.ofString "t").cps[0]? = some 116 by decide] at h1; cases h1; rfl
              exact .inr (.inr (.inl ⟨this, jt, rfl, j0, j1⟩))
            | i + 1, h1, h2 => simp at h2⟩⟩, .inr rfl⟩
        | 1, _ => exact ⟨p2, ("back", [.inl last]), zbu, ⟨[.int last], e2, ⟨rfl, fun i v p h1 h2 => by
            match i, h1, h2 with
            | 0, h1, h2 => cases h1; cases h2; rfl
            | i + 1, h1, h2 => simp at h1⟩⟩, ⟨"p", (show ((Str.ofString "back" : Str), (Str.ofString "p" : Str)) ∈ LW by decide +kernel), by rfl, ⟨fun i c0 p0 h1 h2 => by
            match i, h1, h2 with
            | 0, h1, h2 =>
              cases h2
              have : c0 = 112 := by have h1 : (Str.ofString "p").cps[0]? = some c0 := h1; rw [show (Str.ofString "p").cps[0]? = some 112 by decide] at h1; cases h1; rfl
              rw [this]
              exact fit _
            | i + 1, h1, h2 => simp at h2⟩⟩, .inl rfl⟩
        | n + 2, h => omega
      obtain ⟨pp, r, ap, RA, RF, ro⟩ := hp
      refine ⟨_, rfl, _, by rw [e3]; rfl, _, ap, ?_⟩
      have F : Fr (· = L) H9 (upd H9 L (.lst (rs.map V.ref ++ [.ref pp]))) := .put rfl (zaP R9.top)
      refine ⟨L, _, _, rfl, rfl, R9.top, by rw [sizeLine_eq, List.length_map, R9.len]; omega, ?_⟩
      have RX := RowsOf.snoc F R9.row R9.len zaa (RA.fr F)
      have hbX := hb9.other Lb Lc (u := .lst (rs.map V.ref ++ [.ref pp]))
      have LH := H5n Lb hL
      have kX : Kp b H (upd H9 L (.lst (rs.map V.ref ++ [.ref pp]))) := fun q o h n => by
        rw [zaj (zaw h LH)]
        exact k9' _ _ h n
      revert RX hbX kX
      generalize upd H9 L (.lst (rs.map V.ref ++ [.ref pp])) = HX
      intro RX hbX kX
      have saX := hb.tup kX hsa
      subst hG
      simp! [saX]
      intro pd npd
      have ll : (rws ++ [r]).length = 1 + yN := by rw [List.length_append, lr, List.length_singleton]; omega
      have SX : Same HX (upd HX pd (.tup [V.str z.1, V.str z.2, V.int words, V.ref L])) := .laid npd
      refine q pd L _ (z, words, rws ++ [r]) _ zaa (RX.same SX) rfl ⟨w0, w1, by show 0 < (rws ++ [r]).length; omega, by show (rws ++ [r]).length ≤ 40; omega, fun r' hr' => ?_, ⟨r, by rw [List.getLast?_append]; rfl, ro⟩⟩ LH (hbX.laid npd) (kX.laid npd)
      show zaI words ((rws ++ [r]).length : Nat) sg r'
      rw [ll]
      rcases List.mem_append.mp hr' with h | h
      · have := rf r' h; simpa using this
      · rw [List.mem_singleton.mp h]; simpa using RF
end
section
variable {P : Program} {w : World} {K : PySem.W.Frag} {mg : Str → Option Value} {base : Heap} {a : Ad}
def sp_program : Sp := fun vs H Q _ => ∃ (b c : Addr) (cs : List Int), vs = [.ref b] ∧ BagAt H b c cs ∧
 ∀ (pl : Addr) (das : List (Addr × Addr × List Addr)) (ds : List Df) (H' : Hp), ProgAt H' pl das ds → ProgFit ds → H pl = none → (∀ (i : Nat) (a : Addr × Addr × List Addr), das[i]? = some a → H a.2.1 = none) → BagAt H' b c cs → Kp b H H' → Q (.ref pl) H'
set_option maxHeartbeats 4000000 in
theorem zeK (T : Txt K mg a) : FnOk P w K mg base CX0 5 a.f_law_any a.d_law_any ["bag"] sp_program := by
 refine T.F_law_any.okC sc_law_any (fun vs H Q E h => ?_) (fun cdv A outer s H vs Q E hr h => ?_)
 ·obtain ⟨b, c, cs, rfl, _⟩ := h
  rfl
 ·obtain ⟨b, c, cs, rfl, hb, q⟩ := h
  have hu := zaX hr
  refine ⟨_, (@zae _ _ _ _ _ (@zef _ 1 _ _ _ _ _ _ sc_law_any.nd (by rfl) (Or.inr rfl) (zad (zax (zad (zbG sl_str zak po_none (zcz (zam (zao T) (hr.mono (by decide)) (by rfl) T.m_law_draw T.F_law_draw.kp T.b_law_draw .nil zaD (@zac _ _ _ _ _ _ (pv 0) (@zan _ _ _ _ _ _ pa_nil))))) (@zaq _ _ _ _ _ _ pa_nil))) pa_nil) (by first | exact .inl (by rfl) | exact .inr (by rfl) | assumption))
   (@zae _ _ _ _ _ (za0 PassesOwn.never (by rfl) (zaW (by rfl) T.z_range (zad (zah ix_F (zaA (@zan _ _ _ _ _ _ (@zan _ _ _ _ _ _ (@zan _ _ _ _ _ _ (@zan _ _ _ _ _ _ (@zan _ _ _ _ _ _ (@zan _ _ _ _ _ _ (@zan _ _ _ _ _ _ (@zan _ _ _ _ _ _ pa_nil))))))))) (zam (zao T) (hr.mono (by decide)) (by rfl) T.m_law_draw T.F_law_draw.kp T.b_law_draw .nil zaD (@zac _ _ _ _ _ _ (pv 0) (@zan _ _ _ _ _ _ pa_nil))) (fun _ _ => rfl)) pa_nil)) (zav (i := 2) sc_law_any.nd (by rfl) (Or.inl rfl))
   (@zae _ _ _ _ _ (zaC (i := 3) sc_law_any.nd (by rfl) (Or.inl rfl) (zbq PySem.F.plainAttrs_str PySem.F.slot_str_join PySem.F.type_str_join mt_join zak (zad (za3 (N' := ["j", "bag"]) (cap := [none, some 0]) ⟨rfl, (by decide +kernel), (by decide +kernel), (by rfl), rfl, (by rfl)⟩ (by rfl) (zaW (by rfl) T.z_range (zad (zam (zao T) (hr.mono (by decide)) (by rfl) T.m_law_draw T.F_law_draw.kp T.b_law_draw .nil zaD (@zac _ _ _ _ _ _ (pv 0) (@zan _ _ _ _ _ _ pa_nil))) pa_nil)) (fun C_ ex_ s_ H_ => (zav (i := 0) (show (["j", "bag"] : List Str).Nodup by decide +kernel) (by rfl) (Or.inl rfl))) zaR (fun C_ ex_ s_ H_ => zaL) (fun C_ ex_ s_ H_ => (zah ix_str zak (zam (zao T) (by exact hr.mono (by decide)) (by rfl) T.m_law_draw T.F_law_draw.kp T.b_law_draw .nil zaD (@zac _ _ _ _ _ _ (pv 1) (@zan _ _ _ _ _ _ pa_nil))) (fun _ _ => rfl)))) pa_nil)))
   (@zag _ _ _ (zaS (zbq PySem.F.plainAttrs_list PySem.F.slot_list_append PySem.F.type_list_append mt_append (pv 1) (zad (zax (@zac _ _ _ _ _ _ (pv 3) (zad (zah ix_str zak (zam (zao T) (hr.mono (by decide)) (by rfl) T.m_law_draw T.F_law_draw.kp T.b_law_draw .nil zaD (@zac _ _ _ _ _ _ (pv 0) (@zan _ _ _ _ _ _ pa_nil))) (fun _ _ => rfl)) pa_nil))) pa_nil))))))
   (@zag _ _ _ (zat (za3 (N' := ["sign", "bag", "signs"]) (cap := [none, some 0, some 1]) ⟨rfl, (by decide +kernel), (by decide +kernel), (by rfl), rfl, (by rfl)⟩ (by rfl) (zaO (pv 1)) (fun C_ ex_ s_ H_ => (zav (i := 0) (show (["sign", "bag", "signs"] : List Str).Nodup by decide +kernel) (by rfl) (Or.inl rfl))) zaR (fun C_ ex_ s_ H_ => zaL) (fun C_ ex_ s_ H_ => (zam (zeT T) (by exact hr.mono (by decide)) (by rfl) T.m_law_def T.F_law_def.kp T.b_law_def .nil zaD (@zac _ _ _ _ _ _ (pv 1) (@zac _ _ _ _ _ _ (pv 2) (@zac _ _ _ _ _ _ (pv 0) pa_nil)))))))))), ?_⟩
  simp! [tSl, tNoPart, zhI, rSlS]
  have nh : Str.ofString "nh" = ⟨#[110, 104]⟩ := by decide
  have hn : Str.ofString "hn" = ⟨#[104, 110]⟩ := by decide
  have pick2 : ∀ x : Nat, (x : Int) < 2 → ∃ c, atI (Str.ofString "hn").cps.toList (x : Int) = some c ∧ NH c := fun x hx => by
   rw [hn]
   match x, hx with
   | 0, _ => exact ⟨104, zda, .inr rfl⟩
   | 1, _ => exact ⟨110, zbu, .inl rfl⟩
   | n + 2, h => omega
  have pick : ∀ x : Nat, (x : Int) < 2 → ∃ c, atI (Str.ofString "nh").cps.toList (x : Int) = some c ∧ NH c := fun x hx => by
   rw [nh]
   match x, hx with
   | 0, _ => exact ⟨110, zda, .inl rfl⟩
   | 1, _ => exact ⟨104, zbu, .inr rfl⟩
   | n + 2, h => omega
  refine ⟨b, c, cs, 7, rfl, hb, by decide, by decide, fun d H1 d0 d1 hb1 k1 => ⟨d, rfl, by decide, ?_⟩⟩
  obtain ⟨dN, rfl⟩ := Int.eq_ofNat_of_zero_le d0
  obtain ⟨z1, z2⟩ := six_n dN (by omega)
  revert z1 z2
  generalize PySem.Txt.slice (Str.ofString "nnnnnn") none (some (dN : Int)) = t0
  intro z1 z2
  intro p0 hp0 sl hsl
  have n1 : H sl = none := by
   cases e : H sl with
   | none => rfl
   | some o =>
    by_cases eb : sl = b
    ·obtain ⟨o', h'⟩ := hb1.has
     have := zab (u := .tup [V.str t0, V.str (Str.ofString "n")]) h' hp0
     rw [← eb, hsl] at this; cases this
    ·have := zab (u := .tup [V.str t0, V.str (Str.ofString "n")]) (k1 _ _ e eb) hp0
     rw [hsl] at this; cases this
  have nb : sl ≠ b := fun e => by
   obtain ⟨o, h⟩ := hb.has
   rw [← e, n1] at h; cases h
  have nc : sl ≠ c := fun e => by
   have h := hb.at_
   rw [← e, n1] at h; cases h
  have en : Str.ofString "n" = ⟨#[110]⟩ := by decide
  rw [en] at hsl ⊢
  have hbS := (hb1.laid hp0 (u := .tup [V.str t0, V.str ⟨#[110]⟩])).laid hsl (u := .lst [V.ref p0])
  have kS := (k1.laid hp0 (u := .tup [V.str t0, V.str ⟨#[110]⟩])).laid hsl (u := .lst [V.ref p0])
  have eS : upd (upd H1 p0 (.tup [V.str t0, V.str ⟨#[110]⟩])) sl (.lst [V.ref p0]) p0 = some (.tup [V.str t0, V.str ⟨#[110]⟩]) := zab zaa hsl
  have eL : upd (upd H1 p0 (.tup [V.str t0, V.str ⟨#[110]⟩])) sl (.lst [V.ref p0]) sl = some (.lst [V.ref p0]) := zaa
  revert hbS kS eS eL
  generalize upd (upd H1 p0 (.tup [V.str t0, V.str ⟨#[110]⟩])) sl (.lst [V.ref p0]) = HS
  intro hbS kS eS eL
  have S0 : SgAt HS sl [p0] [(t0, ⟨#[110]⟩)] := ⟨eL, rfl, fun i p x h1 h2 => by
   match i, h1, h2 with
   | 0, h1, h2 => cases h1; cases h2; exact eS
   | i + 1, h1, h2 => simp at h1⟩
  refine for1_ (fun n H2 => 0 ≤ n ∧ n < 8 ∧ BagAt H2 b c cs ∧ Kp b HS H2) (fun Q2 hQ => ?_) ?_
  ·simp! []
   intro lp nlp
   have nlb := (hbS.apart nlp).1
   refine ⟨b, c, cs, 8, rfl, hbS.laid nlp, by decide, by decide, fun xw H3 xw0 xw1 hb3 k3 => ?_⟩
   have lp3 := k3 _ _ zaa nlb
   have k3 : Kp b HS H3 := (Kp.refl.laid nlp).trans k3
   obtain ⟨n, n0, n7, an⟩ : ∃ n : Int, 0 ≤ n ∧ n < 8 ∧ atI [V.int 0, V.int 1, V.int 0, V.int 2, V.int 1, V.int 0, V.int 2, V.int 7] xw = some (.int n) := by
    obtain ⟨x, rfl⟩ := Int.eq_ofNat_of_zero_le xw0
    match x, xw1 with
    | 0, _ => exact ⟨0, by decide, by decide, zda⟩
    | 1, _ => exact ⟨1, by decide, by decide, zbu⟩
    | 2, _ => exact ⟨0, by decide, by decide, zeQ⟩
    | 3, _ => exact ⟨2, by decide, by decide, zeE⟩
    | 4, _ => exact ⟨1, by decide, by decide, rfl⟩
    | 5, _ => exact ⟨0, by decide, by decide, rfl⟩
    | 6, _ => exact ⟨2, by decide, by decide, rfl⟩
    | 7, _ => exact ⟨7, by decide, by decide, rfl⟩
    | x + 8, h => omega
   exact ⟨_, rfl, _, by rw [lp3]; rfl, _, an, hQ _ _ ⟨n0, n7, hb3, k3⟩⟩
  rintro nn HT ⟨nn0, nn1, hbT, kT⟩
  have S0 := S0.kp hbS kT nb
  have kS := kS.trans kT
  clear hbS kT eL eS hsl
  refine for1 (H1 := HT) nn (fun Q2 h2 => h2) (by omega) (by omega) (fun i σ H2 => ∃ (as : List Addr) (sg : List Sg) (v3 v4 : Option V), σ = [some (.ref b), some (.ref sl), v3, v4] ∧ SgAt H2 sl as sg ∧ sg.length = i + 1 ∧ SgFit sg ∧ BagAt H2 b c cs ∧ Kp b H H2)
   ⟨[p0], [(t0, ⟨#[110]⟩)], _, _, rfl, S0, rfl, ⟨?_, ?_, ?_, ?_⟩, hbT, kS⟩ ?_ ?_
  ·intro x hx
   rw [List.mem_singleton.mp hx]; exact z1
  ·intro x hx y hy
   rw [List.mem_singleton.mp hx] at hy; exact .inl (z2 y hy)
  ·intro x hx
   rw [List.mem_singleton.mp hx]; exact .inl rfl
  ·intro x hx
   cases hx
   exact ⟨z2, rfl⟩
  ·rintro i σ H2 hi ⟨as, sg, v3, v4, rfl, S, ls, sf, hb2, k2⟩
   simp! [tBM]
   refine ⟨rfl, ?_⟩
   refine ziP (fun n H3 => 0 ≤ n ∧ n < 7 ∧ BagAt H3 b c cs ∧ Kp b H2 H3) (fun Q2 hQ => ?_) ?_
   ·simp! []
    exact ⟨b, c, cs, 7, rfl, hb2, by decide, by decide, fun r H3 r0 r1 B3 k3 => hQ _ _ ⟨r0, r1, B3, k3⟩⟩
   rintro n H3 ⟨n0, n7, hb3, k3⟩
   refine zeD (H1 := H3) n (fun Q2 h2 => h2) (by omega) (by omega) (fun D i ys H4 => ∃ l : List Nat, l.length = i ∧ ys = (l.map fun c => (⟨#[c]⟩ : Str)).map V.str ∧ (∀ x ∈ l, NH x) ∧ H4 D = some (.lst ys) ∧ BagAt H4 b c cs ∧ Kp b H3 H4)
    (fun D hD => ⟨[], rfl, rfl, by simp, zaa, hb3.laid hD, Kp.refl.laid hD⟩) ?_ (by rw [sizeLine_eq]; omega) ?_ ?_
   ·rintro D hD i ys H4 hi ⟨l, l1, rfl, l2, hd, hb4, k4⟩
    exact ⟨hd, by rw [List.length_map, List.length_map]; omega⟩
   ·rintro D hD i ys H4 hi ⟨l, l1, rfl, l2, hd, hb4, k4⟩
    simp! [zaM, tTrue]
    refine ⟨b, c, cs, _, rfl, hb4, by omega, by omega, fun x H5 x0 x1 hb5 k5 => ?_⟩
    have nD : D ≠ b := fun e => by
     obtain ⟨o, h⟩ := hb3.has
     rw [← e, hD] at h; cases h
    have nDc : D ≠ c := fun e => by
     have h := hb3.at_
     rw [← e, hD] at h; cases h
    have hd5 := k5 _ _ hd nD
    obtain ⟨xN, rfl⟩ := Int.eq_ofNat_of_zero_le x0
    obtain ⟨ch, hc1, hc2⟩ := pick2 xN x1
    refine ⟨_, _, ch, rfl, rfl, by decide, hc1, hd5, l ++ [ch], by rw [List.length_append, l1]; rfl, by simp, fun y hy => ?_, hb5.other nD nDc, fun q o h n => ?_⟩
    ·rcases List.mem_append.mp hy with h | h
     ·exact l2 y h
     ·rw [List.mem_singleton.mp h]; exact hc2
    ·rw [zaj (zaw h hD)]
     exact k5 _ _ (k4 _ _ h n) n
   ·rintro D hD ys H4 ⟨l, l1, rfl, l2, hd, hb4, k4⟩
    refine ⟨_, D, _, rfl, rfl, hd, ?_, ?_⟩
    ·rw [show (Str.ofString "").length = 0 by decide, Nat.mul_zero, List.map_map]
     have e1 : (l.map ((fun x : Str => x.length) ∘ fun c => (⟨#[c]⟩ : Str))) = l.map fun _ => 1 := rfl
     have e2 : (l.map fun _ => 1).sum = l.length := by
      clear l1 l2 hd e1
      induction l with
      | nil => rfl
      | cons x r ih => rw [List.map_cons, List.sum_cons, ih, List.length_cons]; omega
     rw [e1, e2]
     omega
    ·rw [zfL]
     have k24 := k3.trans k4
     have S4 := S.kp hb2 k24 nb
     have top4 := S4.top
     simp! []
     refine ⟨.inl ⟨rfl, _, .of top4⟩, b, c, cs, 2, rfl, hb4, by decide, by decide, fun x H5 x0 x1 hb5 k5 => ?_⟩
     obtain ⟨xN, rfl⟩ := Int.eq_ofNat_of_zero_le x0
     obtain ⟨ch, hc1, hc2⟩ := pick xN x1
     refine ⟨_, _, ch, rfl, rfl, by decide, hc1, fun p hp => ?_⟩
     have k45 := k24.trans k5
     have S5 := S4.kp hb4 k5 nb
     have top5 := zab (u := .tup [V.str ⟨l.toArray⟩, V.str ⟨#[ch]⟩]) S5.top hp
     have F : Fr (· = sl) (upd H5 p (.tup [V.str ⟨l.toArray⟩, V.str ⟨#[ch]⟩])) (upd (upd H5 p (.tup [V.str ⟨l.toArray⟩, V.str ⟨#[ch]⟩])) sl (.lst (as.map V.ref ++ [.ref p]))) := .put rfl (zaP top5)
     have F2 := (Fr.laid (M := (· = sl)) (u := .tup [V.str ⟨l.toArray⟩, V.str ⟨#[ch]⟩]) hp).trans F
     refine ⟨sl, _, _, rfl, rfl, top5, by rw [sizeLine_eq, List.length_map, S.len]; omega, as ++ [p], sg ++ [(⟨l.toArray⟩, ⟨#[ch]⟩)], ⟨?_, ?_, ?_⟩, by rw [List.length_append, ls]; rfl, ⟨?_, ?_, ?_, ?_⟩, (hb5.laid hp).other nb nc, fun q o h n => ?_⟩
     ·rw [zaa, List.map_append]; rfl
     ·rw [List.length_append, List.length_append, S.len]; rfl
     ·intro j pj xj h1 h2
      by_cases d : j < sg.length
      ·rw [List.getElem?_append_left d] at h2
       rw [List.getElem?_append_left (by rw [S.len]; exact d)] at h1
       exact F2.tups _ _ (S5.row j pj xj h1 h2)
      ·have e : j = sg.length := by
        have := (List.getElem?_eq_some_iff.mp h2).1
        rw [List.length_append, List.length_singleton] at this
        omega
       rw [e] at h1 h2
       rw [List.getElem?_append_right (Nat.le_refl _), Nat.sub_self] at h2
       rw [← S.len, List.getElem?_append_right (Nat.le_refl _), Nat.sub_self] at h1
       cases h1
       cases h2
       exact F.tups _ _ zaa
     ·intro x hx
      rcases List.mem_append.mp hx with h | h
      ·exact sf.sz x h
      ·rw [List.mem_singleton.mp h]
       show l.toArray.size ≤ 6
       rw [List.size_toArray]; omega
     ·intro x hx y hy
      rcases List.mem_append.mp hx with h | h
      ·exact sf.let_ x h y hy
      ·rw [List.mem_singleton.mp h] at hy
       exact l2 y hy
     ·intro x hx
      rcases List.mem_append.mp hx with h | h
      ·exact sf.gives x h
      ·rw [List.mem_singleton.mp h]
       rcases hc2 with e | e
       ·exact .inl (by rw [e])
       ·exact .inr (by rw [e])
     ·intro x hx
      rw [List.getElem?_append_left (by omega)] at hx
      exact sf.first x hx
     ·rw [zaj (zaw h n1)]
      exact zab (k45 _ _ (k2 _ _ h n) n) hp
  ·rintro σ H2 ⟨as, sg, v3, v4, rfl, S, ls, sf, hb2, k2⟩
   have top2 := S.top
   simp! []
   refine zdz (H1 := H2) sl (as.map V.ref) (fun Q2 h2 => by simp! []; exact h2) (.of top2) (fun pl i ys H3 => ∃ (das : List (Addr × Addr × List Addr)) (ds : List Df), ys = das.map (fun a => V.ref a.1) ∧ ProgAt H3 pl das ds ∧ ds.map (·.1) = sg.take i ∧ ds.length = i ∧ (∀ d ∈ ds, DfFit sg d) ∧ (∀ (j : Nat) (x : Addr × Addr × List Addr), das[j]? = some x → H2 x.2.1 = none ∧ x.2.1 ≠ pl ∧ x.2.1 ≠ b) ∧ BagAt H3 b c cs ∧ Kp b H2 H3)
    (fun pl npl => ⟨[], [], rfl, ⟨zaa, rfl, fun i a d h => by simp at h⟩, rfl, rfl, by simp, fun j x h => by simp at h, hb2.laid npl, Kp.refl.laid npl⟩) ?_ (by rw [sizeLine_eq, List.length_map, S.len]; omega) ?_ ?_
   ·rintro pl npl i ys H3 hi ⟨das, ds, rfl, PA, dm, dl, df, dn, hb3, k3⟩
    exact ⟨.of (k3 _ _ top2 nb), PA.top, by rw [List.length_map, PA.len]; omega⟩
   ·rintro pl npl i x ys H3 hx ⟨das, ds, rfl, PA, dm, dl, df, dn, hb3, k3⟩
    obtain ⟨p, hp, rfl⟩ := zay hx
    obtain ⟨plb, plc⟩ := hb2.apart npl
    have S3 := S.kp hb2 k3 nb
    have hi : i < sg.length := by rw [← S3.len]; exact (List.getElem?_eq_some_iff.mp hp).1
    have hsg := List.getElem?_eq_getElem hi
    have htp := S3.row i p _ hp hsg
    revert hsg htp
    generalize sg[i] = sgi
    intro hsg htp
    simp! [zaM, tTrue]
    refine ⟨b, c, sl, p, cs, as, sg, sgi, rfl, hb3, S3, sf, by omega, by omega, nb, htp, fun tp rl rs d H7 htp' RO ed fd nrl hb7 k37 => ?_⟩
    have top3 := PA.top
    have top8 := k37 _ _ top3 plb
    have nrlb : rl ≠ b := (hb3.apart nrl).1
    have nrlpl : rl ≠ pl := fun e => by rw [← e, nrl] at top3; cases top3
    have F1 : Fr (· = b) H3 H7 := hb3.kfr' k37
    have F2 : Fr (· = pl) H7 (upd H7 pl (.lst (das.map (fun a => V.ref a.1) ++ [.ref tp]))) := .put rfl (zaP top8)
    refine ⟨top8, das ++ [(tp, rl, rs)], by rw [List.map_append]; rfl, ds ++ [d], ⟨?_, ?_, ?_⟩, ?_, ?_, ?_, ?_, ?_, ?_⟩
    ·rw [zaa, List.map_append]; rfl
    ·rw [List.length_append, List.length_append, PA.len]; rfl
    ·intro j aj dj h1 h2
     by_cases dd : j < ds.length
     ·rw [List.getElem?_append_left dd] at h2
      rw [List.getElem?_append_left (by rw [PA.len]; exact dd)] at h1
      obtain ⟨g1, g2⟩ := PA.def_ j aj dj h1 h2
      obtain ⟨n1, n2, n3⟩ := dn j aj h1
      exact ⟨F2.tups _ _ (F1.tups _ _ g1), (g2.fr F1 n3).fr F2 n2⟩
     ·have e : j = ds.length := by
       have := (List.getElem?_eq_some_iff.mp h2).1
       rw [List.length_append, List.length_singleton] at this
       omega
      rw [e] at h1 h2
      rw [List.getElem?_append_right (Nat.le_refl _), Nat.sub_self] at h2
      rw [← PA.len, List.getElem?_append_right (Nat.le_refl _), Nat.sub_self] at h1
      cases h1
      cases h2
      exact ⟨F2.tups _ _ htp', RO.fr F2 nrlpl⟩
    ·rw [List.map_append, dm, List.take_succ, hsg, List.map_singleton, ed]; rfl
    ·rw [List.length_append, dl]; rfl
    ·intro d' hd
     rcases List.mem_append.mp hd with h | h
     ·exact df d' h
     ·rw [List.mem_singleton.mp h]; exact fd
    ·intro j x h1
     by_cases dd : j < das.length
     ·rw [List.getElem?_append_left dd] at h1
      exact dn j x h1
     ·have e : j = das.length := by
       have := (List.getElem?_eq_some_iff.mp h1).1
       rw [List.length_append, List.length_singleton] at this
       omega
      rw [e, List.getElem?_append_right (Nat.le_refl _), Nat.sub_self] at h1
      cases h1
      exact ⟨za9 k3 nrlb nrl, nrlpl, nrlb⟩
    ·exact hb7.other plb plc
    ·intro c' o h n
     rw [zaj (zaw h npl)]
     exact k37 _ _ (k3 _ _ h n) n
   ·rintro pl npl ys H3 ⟨das, ds, rfl, PA, dm, dl, df, dn, hb3, k3⟩
    obtain ⟨plb, plc⟩ := hb2.apart npl
    rw [List.length_map, S.len] at dl dm
    rw [List.take_length] at dm
    exact q pl das ds H3 PA ⟨by rw [dm]; exact sf, by omega, by omega, by rw [dm]; exact df⟩ (za9 k2 plb npl) (fun j x h => za9 k2 (dn j x h).2.2 (dn j x h).1) hb3 (k2.trans k3)
end
section
variable {P : Program} {w : World} {K : PySem.W.Frag} {mg : Str → Option Value} {base : Heap} {a : Ad}
set_option maxHeartbeats 2000000 in
theorem zcV (T : Txt K mg a) : FnOk P w K mg base CX0 1 a.f_law_writes a.d_law_writes ["row"] sp_writes := by
 refine T.F_law_writes.okC sc_law_writes (fun vs H Q E h => ?_) (fun cdv A outer s H vs Q E hr h => ?_)
 ·obtain ⟨p, r, words, many, sg, rfl, _⟩ := h
  rfl
 ·obtain ⟨p, r, words, many, sg, rfl, RA, F, q⟩ := h
  have hu := zaX hr
  refine ⟨_, (@zae _ _ _ _ _ (@zaN _ _ _ _ _ _ _ _ (zar op_in_seq (zah ix_F (pv 0) zaf (fun _ _ => rfl)) (zaA (@zaq _ _ _ _ _ _ (@zaq _ _ _ _ _ _ (@zaq _ _ _ _ _ _ (@zaq _ _ _ _ _ _ (@zaq _ _ _ _ _ _ (@zaq _ _ _ _ _ _ (@zaq _ _ _ _ _ _ (@zaq _ _ _ _ _ _ (@zaq _ _ _ _ _ _ (@zaq _ _ _ _ _ _ (@zaq _ _ _ _ _ _ pa_nil)))))))))))) (by with_unfolding_all rfl)) (@zag _ _ _ (zat (zah ix_F (pv 0) zaf (fun _ _ => rfl)))) pss_nil)
   (@zag _ _ _ (zat zdG))), ?_⟩
  obtain ⟨us, hp, PA⟩ := RA
  simp! [hp]
  intro t nt
  refine zel (ws := WRw) (.inl (.of zaa)) ⟨_, rfl, ?_⟩
  rw [if_neg Bool.false_ne_true]
  have S := Same.laid (u := .lst (WRw.map V.str)) nt
  have hp := S _ _ hp
  have := q _ S
  unfold wrV at this
  by_cases c : r.1 ∈ WRw
  ·rw [if_pos c] at this
   rw [if_pos (by simpa using c)]
   obtain ⟨x, rest, er⟩ := ziJ F c
   rw [er] at PA this
   cases us with
   | nil => have := PA.len; simp at this
   | cons v us =>
    have hv := PA.at_ 0 v (.inl x) rfl rfl
    cases (show v = .int x from hv)
    exact ⟨_, congrArg seqO hp, _, zbu, this⟩
  ·rw [if_neg c] at this
   rw [if_neg (by simpa using c)]
   exact this
end
section
variable {P : Program} {w : World} {K : PySem.W.Frag} {mg : Str → Option Value} {base : Heap} {a : Ad}
theorem absH {C Good : Hp → Prop} {X : Hp} (g : Good X) (h : ∀ Y, Good Y → C Y) : C X := h X g
def UL (H : Hp) (v : V) (ps : List (Nat × Str)) : Prop := ∃ l rs, v = .ref l ∧ Prs H l (ps.map fun q => (V.int q.1, V.str q.2)) rs
def UsD (H : Hp) : List (Key × V) → List (Str × List (Nat × Str)) → Prop
 | [], [] => True
 | kv :: kvs, t :: ts => kv.1 = .inr t.1 ∧ UL H kv.2 t.2 ∧ UsD H kvs ts
 | _, _ => False
theorem UL.keep {H H' : Hp} {v : V} {ps : List (Nat × Str)} (k : ∀ q xs, (H q = some (.lst xs) → H' q = some (.lst xs)) ∧ (H q = some (.tup xs) → H' q = some (.tup xs))) (h : UL H v ps) : UL H' v ps := by
 obtain ⟨l, rs, e, P⟩ := h
 exact ⟨l, rs, e, (k _ _).1 P.top, P.len, fun i r p h1 h2 => (k _ _).2 (P.at_ i r p h1 h2)⟩
theorem UsD.keep {H H' : Hp} (k : ∀ q xs, (H q = some (.lst xs) → H' q = some (.lst xs)) ∧ (H q = some (.tup xs) → H' q = some (.tup xs))) : ∀ {D : List (Key × V)} {ts : List (Str × List (Nat × Str))}, UsD H D ts → UsD H' D ts
 | [], [], _ => True.intro
 | _ :: _, _ :: _, h => ⟨h.1, h.2.1.keep k, UsD.keep k h.2.2⟩
theorem UsD.same {H H' : Hp} {D : List (Key × V)} {ts : List (Str × List (Nat × Str))} (h : UsD H D ts) (S : Same H H') : UsD H' D ts := h.keep fun q xs => ⟨fun e => S _ _ e, fun e => S _ _ e⟩
theorem UsD.upD {H : Hp} {D : List (Key × V)} {ts : List (Str × List (Nat × Str))} (h : UsD H D ts) {a : Addr} {kv kv' : List (Key × V)} (e : H a = some (.dK kv)) : UsD (upd H a (.dK kv')) D ts := h.keep fun q xs => ⟨fun g => by rw [zaj (fun z => by rw [z, e] at g; cases g)]; exact g, fun g => by rw [zaj (fun z => by rw [z, e] at g; cases g)]; exact g⟩
theorem UsD.app {H : Hp} : ∀ {D E : List (Key × V)} {ts us : List (Str × List (Nat × Str))}, UsD H D ts → UsD H E us → UsD H (D ++ E) (ts ++ us)
 | [], _, [], _, _, h2 => h2
 | _ :: _, _, _ :: _, _, h, h2 => ⟨h.1, h.2.1, UsD.app h.2.2 h2⟩
theorem UsD.get {H : Hp} {w : Str} : ∀ {D : List (Key × V)} {ts : List (Str × List (Nat × Str))}, UsD H D ts → (valV D (.inr w) = none ∧ ts.lookup w = none) ∨ ∃ v ps, valV D (.inr w) = some v ∧ ts.lookup w = some ps ∧ UL H v ps
 | [], [], _ => .inl ⟨rfl, rfl⟩
 | kv :: D, t :: ts, h => by
  obtain ⟨h1, h2, h3⟩ := h
  unfold valV
  rw [List.find?_cons, List.lookup_cons]
  by_cases c : t.1 = w
  ·refine .inr ⟨kv.2, t.2, ?_, ?_, h2⟩
   ·rw [show decide (kv.1 = (.inr w : Key)) = true from decide_eq_true (by rw [h1, c])]; rfl
   ·rw [show (w == t.1) = true by rw [c]; exact beq_self_eq_true w]
  ·rw [show decide (kv.1 = (.inr w : Key)) = false from decide_eq_false (fun z => by rw [h1] at z; exact c (Sum.inr.inj z)), show (w == t.1) = false from beq_eq_false_iff_ne.mpr (Ne.symm c)]
   exact UsD.get h3
def TAB : List (Str × List (Nat × Str)) := [("plus", [(2, "n"), (3, "n")]), ("less", [(2, "n"), (3, "n")]), ("zero", [(1, "n")]), ("fetch", [(2, "h")]), ("read", [(2, "h")]), ("into", [(2, "h")]), ("hang", [(1, "h"), (3, "h")]), ("write", [(1, "h"), (3, "n")]), ("none", [(1, "h")]), ("tell", [(1, "n")]), ("same", [(1, "h"), (2, "h")])]
theorem TAB_ust : ∀ p ∈ LW, p.1 ≠ "call" → p.1 ≠ "back" → p.1 ≠ "look" → p.1 ≠ "lay" → (TAB.lookup p.1).getD [] = ust p.1 := by decide +kernel
set_option maxHeartbeats 4000000 in
theorem zcw (T : Txt K mg a) : FnOk P w K mg base CX0 1 a.f_law_uses a.d_law_uses ["program", "f", "row"] sp_uses := by
 refine T.F_law_uses.okC sc_law_uses (fun vs H Q E h => ?_) (fun cdv A outer s H vs Q E hr h => ?_)
 ·obtain ⟨pl, p, f, das, ds, d, r, words, many, rfl, _⟩ := h
  rfl
 ·obtain ⟨pl, p, f, das, ds, d, r, words, many, rfl, PR, hd, RA, F, SF, q⟩ := h
  have hu := zaX hr
  refine ⟨_, (@zae _ _ _ _ _ (@zfJ _ 3 _ _ _ _ _ _ _ sc_law_uses.nd (by rfl) (Or.inl rfl) (@zau _ _ _ _ _ _ _ _ _ zak (@zaA _ _ _ _ (@zad _ _ _ _ _ (@zax _ _ _ _ _ (@zan _ _ _ _ _ _ (@zaq _ _ _ _ _ _ pa_nil))) (@zad _ _ _ _ _ (@zax _ _ _ _ _ (@zan _ _ _ _ _ _ (@zaq _ _ _ _ _ _ pa_nil))) pa_nil (by rfl)) (by rfl))) (@zau _ _ _ _ _ _ _ _ _ zak (@zaA _ _ _ _ (@zad _ _ _ _ _ (@zax _ _ _ _ _ (@zan _ _ _ _ _ _ (@zaq _ _ _ _ _ _ pa_nil))) (@zad _ _ _ _ _ (@zax _ _ _ _ _ (@zan _ _ _ _ _ _ (@zaq _ _ _ _ _ _ pa_nil))) pa_nil (by rfl)) (by rfl))) (@zau _ _ _ _ _ _ _ _ _ zak (@zaA _ _ _ _ (@zad _ _ _ _ _ (@zax _ _ _ _ _ (@zan _ _ _ _ _ _ (@zaq _ _ _ _ _ _ pa_nil))) pa_nil (by rfl))) zbf))) (by rfl) (by rfl) (List.cons_ne_nil _ _) (Nat.le_of_ble_eq_true (by rfl)) (by first | exact .inl (by rfl) | exact .inr (by rfl) | assumption))
   (@zae _ _ _ _ _ (zaS (zbq PySem.F.plainAttrs_dict PySem.F.slot_dict_update PySem.F.type_dict_update mt_update (pv 3) (@zad _ _ _ _ _ (@zbQ _ _ _ _ _ (@zau _ _ _ _ _ _ _ _ _ zak (@zaA _ _ _ _ (@zad _ _ _ _ _ (@zax _ _ _ _ _ (@zan _ _ _ _ _ _ (@zaq _ _ _ _ _ _ pa_nil))) pa_nil (by rfl))) (@zau _ _ _ _ _ _ _ _ _ zak (@zaA _ _ _ _ (@zad _ _ _ _ _ (@zax _ _ _ _ _ (@zan _ _ _ _ _ _ (@zaq _ _ _ _ _ _ pa_nil))) pa_nil (by rfl))) (@zau _ _ _ _ _ _ _ _ _ zak (@zaA _ _ _ _ (@zad _ _ _ _ _ (@zax _ _ _ _ _ (@zan _ _ _ _ _ _ (@zaq _ _ _ _ _ _ pa_nil))) pa_nil (by rfl))) (@zau _ _ _ _ _ _ _ _ _ zak (@zaA _ _ _ _ (@zad _ _ _ _ _ (@zax _ _ _ _ _ (@zan _ _ _ _ _ _ (@zaq _ _ _ _ _ _ pa_nil))) (@zad _ _ _ _ _ (@zax _ _ _ _ _ (@zan _ _ _ _ _ _ (@zaq _ _ _ _ _ _ pa_nil))) pa_nil (by rfl)) (by rfl))) zbf)))) (by rfl) (by rfl) (List.cons_ne_nil _ _) (Nat.le_of_ble_eq_true (by rfl))) pa_nil (by rfl))))
   (@zae _ _ _ _ _ (zaS (zbq PySem.F.plainAttrs_dict PySem.F.slot_dict_update PySem.F.type_dict_update mt_update (pv 3) (@zad _ _ _ _ _ (@zbQ _ _ _ _ _ (@zau _ _ _ _ _ _ _ _ _ zak (@zaA _ _ _ _ (@zad _ _ _ _ _ (@zax _ _ _ _ _ (@zan _ _ _ _ _ _ (@zaq _ _ _ _ _ _ pa_nil))) (@zad _ _ _ _ _ (@zax _ _ _ _ _ (@zan _ _ _ _ _ _ (@zaq _ _ _ _ _ _ pa_nil))) pa_nil (by rfl)) (by rfl))) (@zau _ _ _ _ _ _ _ _ _ zak (@zaA _ _ _ _ (@zad _ _ _ _ _ (@zax _ _ _ _ _ (@zan _ _ _ _ _ _ (@zaq _ _ _ _ _ _ pa_nil))) pa_nil (by rfl))) (@zau _ _ _ _ _ _ _ _ _ zak (@zaA _ _ _ _ (@zad _ _ _ _ _ (@zax _ _ _ _ _ (@zan _ _ _ _ _ _ (@zaq _ _ _ _ _ _ pa_nil))) pa_nil (by rfl))) zbf))) (by rfl) (by rfl) (List.cons_ne_nil _ _) (Nat.le_of_ble_eq_true (by rfl))) pa_nil (by rfl))))
   (@zae _ _ _ _ _ (zaS (zbq PySem.F.plainAttrs_dict PySem.F.slot_dict_update PySem.F.type_dict_update mt_update (pv 3) (@zad _ _ _ _ _ (@zbQ _ _ _ _ _ (@zau _ _ _ _ _ _ _ _ _ zak (@zaA _ _ _ _ (@zad _ _ _ _ _ (@zax _ _ _ _ _ (@zan _ _ _ _ _ _ (@zaq _ _ _ _ _ _ pa_nil))) (@zad _ _ _ _ _ (@zax _ _ _ _ _ (@zan _ _ _ _ _ _ (@zaq _ _ _ _ _ _ pa_nil))) pa_nil (by rfl)) (by rfl))) zbf) (by rfl) (by rfl) (List.cons_ne_nil _ _) (Nat.le_of_ble_eq_true (by rfl))) pa_nil (by rfl))))
   (@zae _ _ _ _ _ (@zaN _ _ _ _ _ _ _ _ (@zar _ _ _ _ _ _ _ _ op_eq (@zah _ _ _ _ _ _ _ ix_F (pv 2) zaf (fun _ _ => rfl)) zak (zaB _)) (@zag _ _ _ (@zat _ _ _ _ (@zaA _ _ _ _ (@zad _ _ _ _ _ (@zax _ _ _ _ _ (@zad _ _ _ _ _ (@zah _ _ _ _ _ _ _ ix_F (pv 2) zaf (fun _ _ => rfl)) (@zad _ _ _ _ _ (@zah _ _ _ _ _ _ _ ix_F (pv 2) zaf (fun _ _ => rfl)) pa_nil (by rfl)) (by rfl))) pa_nil (by rfl))))) pss_nil)
   (@zae _ _ _ _ _ (@zaN _ _ _ _ _ _ _ _ (@zar _ _ _ _ _ _ _ _ op_eq (@zah _ _ _ _ _ _ _ ix_F (pv 2) zaf (fun _ _ => rfl)) zak (zaB _)) (@zag _ _ _ (@zat _ _ _ _ (@zaA _ _ _ _ (@zad _ _ _ _ _ (@zax _ _ _ _ _ (@zad _ _ _ _ _ (@zah _ _ _ _ _ _ _ ix_F (pv 2) zaf (fun _ _ => rfl)) (@zad _ _ _ _ _ (@zah _ _ _ _ _ _ _ ix_F (pv 2) zaf (fun _ _ => rfl)) pa_nil (by rfl)) (by rfl))) (@zad _ _ _ _ _ (@zax _ _ _ _ _ (@zad _ _ _ _ _ (@zah _ _ _ _ _ _ _ ix_F (pv 2) zaf (fun _ _ => rfl)) (@zaq _ _ _ _ _ _ pa_nil) (by rfl))) pa_nil (by rfl)) (by rfl))))) pss_nil)
   (@zae _ _ _ _ _ (@zaN _ _ _ _ _ _ _ _ (@zar _ _ _ _ _ _ _ _ op_eq (@zah _ _ _ _ _ _ _ ix_F (pv 2) zaf (fun _ _ => rfl)) zak (zaB _)) (@zag _ _ _ (@zat _ _ _ _ (za3 (N' := ["k", "row", "program"]) (cap := [none, some 2, some 0]) ⟨rfl, (by decide +kernel), (by decide +kernel), (by rfl), rfl, (by rfl)⟩ (by rfl) (zaW (by rfl) T.z_range (@zad _ _ _ _ _ (zaE call_lenF (by rfl) T.z_len (by decide +kernel) (@zad _ _ _ _ _ (@zah _ _ _ _ _ _ _ ix_F (pv 2) zaf (fun _ _ => rfl)) pa_nil (by rfl))) pa_nil (by rfl))) (fun C_ ex_ s_ H_ => (zav (i := 0) (show (["k", "row", "program"] : List Str).Nodup by decide +kernel) (by rfl) (Or.inl rfl))) zaR (fun C_ ex_ s_ H_ => zaL) (fun C_ ex_ s_ H_ => (@zax _ _ _ _ _ (@zad _ _ _ _ _ (@zah _ _ _ _ _ _ _ ix_F (@zah _ _ _ _ _ _ _ ix_F (pv 1) zaf (fun _ _ => rfl)) (pv 0) (fun _ _ => rfl)) (@zad _ _ _ _ _ (@zah _ _ _ _ _ _ _ ix_str (@zah _ _ _ _ _ _ _ ix_F (@zah _ _ _ _ _ _ _ ix_F (pv 2) (@zah _ _ _ _ _ _ _ ix_F (pv 1) zaf (fun _ _ => rfl)) (fun _ _ => rfl)) zaf (fun _ _ => rfl)) (pv 0) (fun _ _ => rfl)) pa_nil (by rfl)) (by rfl))))))) pss_nil)
   (@zae _ _ _ _ _ (@zaN _ _ _ _ _ _ _ _ (@zar _ _ _ _ _ _ _ _ op_eq (@zah _ _ _ _ _ _ _ ix_F (pv 2) zaf (fun _ _ => rfl)) zak (zaB _)) (@zag _ _ _ (@zat _ _ _ _ (@zaA _ _ _ _ (@zad _ _ _ _ _ (@zax _ _ _ _ _ (@zad _ _ _ _ _ (@zah _ _ _ _ _ _ _ ix_F (pv 2) zaf (fun _ _ => rfl)) (@zad _ _ _ _ _ (@zah _ _ _ _ _ _ _ ix_F (@zah _ _ _ _ _ _ _ ix_F (pv 0) (pv 1) (fun _ _ => rfl)) zaf (fun _ _ => rfl)) pa_nil (by rfl)) (by rfl))) pa_nil (by rfl))))) pss_nil)
   (@zag _ _ _ (@zat _ _ _ _ (za3 (N' := ["k", "kind", "row"]) (cap := [none, none, some 2]) ⟨rfl, (by decide +kernel), (by decide +kernel), (by rfl), rfl, (by rfl)⟩ (by rfl) (zaO (zf5 hu (pv 3) (@zah _ _ _ _ _ _ _ ix_F (pv 2) zaf (fun _ _ => rfl)) (@zaA _ _ _ _ pa_nil) ⟨rfl, rfl, rfl, rfl⟩)) (fun C_ ex_ s_ H_ => (zb0 (n := 2) (by rfl) (zaH (zav (i := 0) (show (["k", "kind", "row"] : List Str).Nodup by decide +kernel) (by rfl) (Or.inl rfl)) (zaH (zav (i := 1) (show (["k", "kind", "row"] : List Str).Nodup by decide +kernel) (by rfl) (Or.inl rfl)) pgs_nil)))) (zdc (zaY (by rfl) (zaY (by rfl) zb4))) (fun C_ ex_ s_ H_ => zaL) (fun C_ ex_ s_ H_ => (@zax _ _ _ _ _ (@zad _ _ _ _ _ (@zah _ _ _ _ _ _ _ ix_F (pv 2) (pv 0) (fun _ _ => rfl)) (@zac _ _ _ _ _ _ (pv 1) pa_nil) (by rfl))))))))))))))), ?_⟩
  generalize hG : tSeq (zcX _) _ = tail
  simp! [zdk, tPairs, tC]
  intro d0 nd0 t0_0_0 nt0_0_0 t0_0_1 nt0_0_1 l0_0 nl0_0 t0_1_0 nt0_1_0 t0_1_1 nt0_1_1 l0_1 nl0_1 t0_2_0 nt0_2_0 l0_2 nl0_2
  have SS0 : Same H (upd (upd (upd (upd (upd (upd (upd (upd (upd H d0 (.dK [])) t0_0_0 (.tup [V.int 2, V.str (Str.ofString "n")])) t0_0_1 (.tup [V.int 3, V.str (Str.ofString "n")])) l0_0 (.lst [V.ref t0_0_0, V.ref t0_0_1])) t0_1_0 (.tup [V.int 2, V.str (Str.ofString "n")])) t0_1_1 (.tup [V.int 3, V.str (Str.ofString "n")])) l0_1 (.lst [V.ref t0_1_0, V.ref t0_1_1])) t0_2_0 (.tup [V.int 1, V.str (Str.ofString "n")])) l0_2 (.lst [V.ref t0_2_0])) := (((((((((Same.laid nd0).step nt0_0_0).step nt0_0_1).step nl0_0).step nt0_1_0).step nt0_1_1).step nl0_1).step nt0_2_0).step nl0_2)
  have eX0 : (upd (upd (upd (upd (upd (upd (upd (upd (upd H d0 (.dK [])) t0_0_0 (.tup [V.int 2, V.str (Str.ofString "n")])) t0_0_1 (.tup [V.int 3, V.str (Str.ofString "n")])) l0_0 (.lst [V.ref t0_0_0, V.ref t0_0_1])) t0_1_0 (.tup [V.int 2, V.str (Str.ofString "n")])) t0_1_1 (.tup [V.int 3, V.str (Str.ofString "n")])) l0_1 (.lst [V.ref t0_1_0, V.ref t0_1_1])) t0_2_0 (.tup [V.int 1, V.str (Str.ofString "n")])) l0_2 (.lst [V.ref t0_2_0])) d0 = some (.dK []) := (zab (zab (zab (zab (zab (zab (zab (zab zaa nt0_0_0) nt0_0_1) nl0_0) nt0_1_0) nt0_1_1) nl0_1) nt0_2_0) nl0_2)
  have UX0 : UsD (upd (upd (upd (upd (upd (upd (upd (upd (upd H d0 (.dK [])) t0_0_0 (.tup [V.int 2, V.str (Str.ofString "n")])) t0_0_1 (.tup [V.int 3, V.str (Str.ofString "n")])) l0_0 (.lst [V.ref t0_0_0, V.ref t0_0_1])) t0_1_0 (.tup [V.int 2, V.str (Str.ofString "n")])) t0_1_1 (.tup [V.int 3, V.str (Str.ofString "n")])) l0_1 (.lst [V.ref t0_1_0, V.ref t0_1_1])) t0_2_0 (.tup [V.int 1, V.str (Str.ofString "n")])) l0_2 (.lst [V.ref t0_2_0])) [(.inr "plus", .ref l0_0), (.inr "less", .ref l0_1), (.inr "zero", .ref l0_2)] [("plus", [(2, "n"), (3, "n")]), ("less", [(2, "n"), (3, "n")]), ("zero", [(1, "n")])] := ⟨rfl, ⟨l0_0, [t0_0_0, t0_0_1], rfl, .two (zab (zab (zab (zab (zab (zab (zab zaa nt0_0_1) nl0_0) nt0_1_0) nt0_1_1) nl0_1) nt0_2_0) nl0_2) (zab (zab (zab (zab (zab (zab zaa nl0_0) nt0_1_0) nt0_1_1) nl0_1) nt0_2_0) nl0_2) (zab (zab (zab (zab (zab zaa nt0_1_0) nt0_1_1) nl0_1) nt0_2_0) nl0_2)⟩, rfl, ⟨l0_1, [t0_1_0, t0_1_1], rfl, .two (zab (zab (zab (zab zaa nt0_1_1) nl0_1) nt0_2_0) nl0_2) (zab (zab (zab zaa nl0_1) nt0_2_0) nl0_2) (zab (zab zaa nt0_2_0) nl0_2)⟩, rfl, ⟨l0_2, [t0_2_0], rfl, .one (zab zaa nl0_2) zaa⟩, True.intro⟩
  have nX0 := nd0
  revert SS0 eX0 UX0
  generalize (upd (upd (upd (upd (upd (upd (upd (upd (upd H d0 (.dK [])) t0_0_0 (.tup [V.int 2, V.str (Str.ofString "n")])) t0_0_1 (.tup [V.int 3, V.str (Str.ofString "n")])) l0_0 (.lst [V.ref t0_0_0, V.ref t0_0_1])) t0_1_0 (.tup [V.int 2, V.str (Str.ofString "n")])) t0_1_1 (.tup [V.int 3, V.str (Str.ofString "n")])) l0_1 (.lst [V.ref t0_1_0, V.ref t0_1_1])) t0_2_0 (.tup [V.int 1, V.str (Str.ofString "n")])) l0_2 (.lst [V.ref t0_2_0])) = X0
  intro SS0 eX0 UX0
  clear nl0_2 nt0_2_0 nl0_1 nt0_1_1 nt0_1_0 nl0_0 nt0_0_1 nt0_0_0
  refine ⟨eX0, [(.inr "plus", .ref l0_0), (.inr "less", .ref l0_1), (.inr "zero", .ref l0_2)], rfl, by simp, ?_⟩
  refine absH (C := tail _ _) (Good := fun Y => Same H Y ∧ Y d0 = some (.dK [(.inr "plus", .ref l0_0), (.inr "less", .ref l0_1), (.inr "zero", .ref l0_2)]) ∧ UsD Y [(.inr "plus", .ref l0_0), (.inr "less", .ref l0_1), (.inr "zero", .ref l0_2)] [("plus", [(2, "n"), (3, "n")]), ("less", [(2, "n"), (3, "n")]), ("zero", [(1, "n")])]) ⟨zaz (fun c o e => SS0 _ _ e) nd0, zaa, UX0.upD eX0⟩ ?_
  rintro HA0 ⟨SA0, e0, U0⟩
  clear SS0 eX0 UX0
  subst hG
  generalize hG : tSeq (zcX _) (tSeq (zcX _) (tSeq (tIfS _ _ _) _)) = tail
  simp! [tBM, zdk, tPairs, tC]
  refine ⟨.inr (.inr (.inl ⟨rfl, .inl ⟨_, e0⟩⟩)), ?_⟩
  intro d1 nd1 t1_0_0 nt1_0_0 l1_0 nl1_0 t1_1_0 nt1_1_0 l1_1 nl1_1 t1_2_0 nt1_2_0 l1_2 nl1_2 t1_3_0 nt1_3_0 t1_3_1 nt1_3_1 l1_3 nl1_3
  have SS1 : Same HA0 (upd (upd (upd (upd (upd (upd (upd (upd (upd (upd HA0 d1 (.dK [])) t1_0_0 (.tup [V.int 2, V.str (Str.ofString "h")])) l1_0 (.lst [V.ref t1_0_0])) t1_1_0 (.tup [V.int 2, V.str (Str.ofString "h")])) l1_1 (.lst [V.ref t1_1_0])) t1_2_0 (.tup [V.int 2, V.str (Str.ofString "h")])) l1_2 (.lst [V.ref t1_2_0])) t1_3_0 (.tup [V.int 1, V.str (Str.ofString "h")])) t1_3_1 (.tup [V.int 3, V.str (Str.ofString "h")])) l1_3 (.lst [V.ref t1_3_0, V.ref t1_3_1])) := ((((((((((Same.laid nd1).step nt1_0_0).step nl1_0).step nt1_1_0).step nl1_1).step nt1_2_0).step nl1_2).step nt1_3_0).step nt1_3_1).step nl1_3)
  have eX1 : (upd (upd (upd (upd (upd (upd (upd (upd (upd (upd HA0 d1 (.dK [])) t1_0_0 (.tup [V.int 2, V.str (Str.ofString "h")])) l1_0 (.lst [V.ref t1_0_0])) t1_1_0 (.tup [V.int 2, V.str (Str.ofString "h")])) l1_1 (.lst [V.ref t1_1_0])) t1_2_0 (.tup [V.int 2, V.str (Str.ofString "h")])) l1_2 (.lst [V.ref t1_2_0])) t1_3_0 (.tup [V.int 1, V.str (Str.ofString "h")])) t1_3_1 (.tup [V.int 3, V.str (Str.ofString "h")])) l1_3 (.lst [V.ref t1_3_0, V.ref t1_3_1])) d1 = some (.dK []) := (zab (zab (zab (zab (zab (zab (zab (zab (zab zaa nt1_0_0) nl1_0) nt1_1_0) nl1_1) nt1_2_0) nl1_2) nt1_3_0) nt1_3_1) nl1_3)
  have UX1 : UsD (upd (upd (upd (upd (upd (upd (upd (upd (upd (upd HA0 d1 (.dK [])) t1_0_0 (.tup [V.int 2, V.str (Str.ofString "h")])) l1_0 (.lst [V.ref t1_0_0])) t1_1_0 (.tup [V.int 2, V.str (Str.ofString "h")])) l1_1 (.lst [V.ref t1_1_0])) t1_2_0 (.tup [V.int 2, V.str (Str.ofString "h")])) l1_2 (.lst [V.ref t1_2_0])) t1_3_0 (.tup [V.int 1, V.str (Str.ofString "h")])) t1_3_1 (.tup [V.int 3, V.str (Str.ofString "h")])) l1_3 (.lst [V.ref t1_3_0, V.ref t1_3_1])) [(.inr "fetch", .ref l1_0), (.inr "read", .ref l1_1), (.inr "into", .ref l1_2), (.inr "hang", .ref l1_3)] [("fetch", [(2, "h")]), ("read", [(2, "h")]), ("into", [(2, "h")]), ("hang", [(1, "h"), (3, "h")])] := ⟨rfl, ⟨l1_0, [t1_0_0], rfl, .one (zab (zab (zab (zab (zab (zab (zab (zab zaa nl1_0) nt1_1_0) nl1_1) nt1_2_0) nl1_2) nt1_3_0) nt1_3_1) nl1_3) (zab (zab (zab (zab (zab (zab (zab zaa nt1_1_0) nl1_1) nt1_2_0) nl1_2) nt1_3_0) nt1_3_1) nl1_3)⟩, rfl, ⟨l1_1, [t1_1_0], rfl, .one (zab (zab (zab (zab (zab (zab zaa nl1_1) nt1_2_0) nl1_2) nt1_3_0) nt1_3_1) nl1_3) (zab (zab (zab (zab (zab zaa nt1_2_0) nl1_2) nt1_3_0) nt1_3_1) nl1_3)⟩, rfl, ⟨l1_2, [t1_2_0], rfl, .one (zab (zab (zab (zab zaa nl1_2) nt1_3_0) nt1_3_1) nl1_3) (zab (zab (zab zaa nt1_3_0) nt1_3_1) nl1_3)⟩, rfl, ⟨l1_3, [t1_3_0, t1_3_1], rfl, .two (zab (zab zaa nt1_3_1) nl1_3) (zab zaa nl1_3) zaa⟩, True.intro⟩
  have nX1 := nd1
  revert SS1 eX1 UX1
  generalize (upd (upd (upd (upd (upd (upd (upd (upd (upd (upd HA0 d1 (.dK [])) t1_0_0 (.tup [V.int 2, V.str (Str.ofString "h")])) l1_0 (.lst [V.ref t1_0_0])) t1_1_0 (.tup [V.int 2, V.str (Str.ofString "h")])) l1_1 (.lst [V.ref t1_1_0])) t1_2_0 (.tup [V.int 2, V.str (Str.ofString "h")])) l1_2 (.lst [V.ref t1_2_0])) t1_3_0 (.tup [V.int 1, V.str (Str.ofString "h")])) t1_3_1 (.tup [V.int 3, V.str (Str.ofString "h")])) l1_3 (.lst [V.ref t1_3_0, V.ref t1_3_1])) = X1
  intro SS1 eX1 UX1
  clear nl1_3 nt1_3_1 nt1_3_0 nl1_2 nt1_2_0 nl1_1 nt1_1_0 nl1_0 nt1_0_0
  refine ⟨eX1, [(.inr "fetch", .ref l1_0), (.inr "read", .ref l1_1), (.inr "into", .ref l1_2), (.inr "hang", .ref l1_3)], rfl, by simp, ?_⟩
  have ne1 := zaw e0 nd1
  refine ⟨d0, d1, _, _, rfl, rfl, ne1, by rw [zaj ne1]; exact SS1 _ _ e0, zaa, Nat.le_of_ble_eq_true rfl, ?_⟩
  refine absH (C := tail _ _) (Good := fun Y => Same H Y ∧ Y d0 = some (.dK [(.inr "plus", .ref l0_0), (.inr "less", .ref l0_1), (.inr "zero", .ref l0_2), (.inr "fetch", .ref l1_0), (.inr "read", .ref l1_1), (.inr "into", .ref l1_2), (.inr "hang", .ref l1_3)]) ∧ UsD Y [(.inr "plus", .ref l0_0), (.inr "less", .ref l0_1), (.inr "zero", .ref l0_2), (.inr "fetch", .ref l1_0), (.inr "read", .ref l1_1), (.inr "into", .ref l1_2), (.inr "hang", .ref l1_3)] [("plus", [(2, "n"), (3, "n")]), ("less", [(2, "n"), (3, "n")]), ("zero", [(1, "n")]), ("fetch", [(2, "h")]), ("read", [(2, "h")]), ("into", [(2, "h")]), ("hang", [(1, "h"), (3, "h")])]) ⟨zaz (fun c o e => ?_) nd0, zaa, ?_⟩ ?_
  ·rw [zaj (zaw e (SA0.free nd1))]; exact SS1 _ _ (SA0 _ _ e)
  ·exact UsD.upD (UsD.app ((U0.same SS1).upD eX1) (UX1.upD eX1)) (a := d0) (by rw [zaj ne1]; exact SS1 _ _ e0)
  rintro HA1 ⟨SA1, e1, U1⟩
  clear SS1 eX1 UX1
  subst hG
  generalize hG : tSeq (zcX _) (tSeq (tIfS _ _ _) _) = tail
  simp! [tBM, zdk, tPairs, tC]
  refine ⟨.inr (.inr (.inl ⟨rfl, .inl ⟨_, e1⟩⟩)), ?_⟩
  intro d2 nd2 t2_0_0 nt2_0_0 t2_0_1 nt2_0_1 l2_0 nl2_0 t2_1_0 nt2_1_0 l2_1 nl2_1 t2_2_0 nt2_2_0 l2_2 nl2_2
  have SS2 : Same HA1 (upd (upd (upd (upd (upd (upd (upd (upd HA1 d2 (.dK [])) t2_0_0 (.tup [V.int 1, V.str (Str.ofString "h")])) t2_0_1 (.tup [V.int 3, V.str (Str.ofString "n")])) l2_0 (.lst [V.ref t2_0_0, V.ref t2_0_1])) t2_1_0 (.tup [V.int 1, V.str (Str.ofString "h")])) l2_1 (.lst [V.ref t2_1_0])) t2_2_0 (.tup [V.int 1, V.str (Str.ofString "n")])) l2_2 (.lst [V.ref t2_2_0])) := ((((((((Same.laid nd2).step nt2_0_0).step nt2_0_1).step nl2_0).step nt2_1_0).step nl2_1).step nt2_2_0).step nl2_2)
  have eX2 : (upd (upd (upd (upd (upd (upd (upd (upd HA1 d2 (.dK [])) t2_0_0 (.tup [V.int 1, V.str (Str.ofString "h")])) t2_0_1 (.tup [V.int 3, V.str (Str.ofString "n")])) l2_0 (.lst [V.ref t2_0_0, V.ref t2_0_1])) t2_1_0 (.tup [V.int 1, V.str (Str.ofString "h")])) l2_1 (.lst [V.ref t2_1_0])) t2_2_0 (.tup [V.int 1, V.str (Str.ofString "n")])) l2_2 (.lst [V.ref t2_2_0])) d2 = some (.dK []) := (zab (zab (zab (zab (zab (zab (zab zaa nt2_0_0) nt2_0_1) nl2_0) nt2_1_0) nl2_1) nt2_2_0) nl2_2)
  have UX2 : UsD (upd (upd (upd (upd (upd (upd (upd (upd HA1 d2 (.dK [])) t2_0_0 (.tup [V.int 1, V.str (Str.ofString "h")])) t2_0_1 (.tup [V.int 3, V.str (Str.ofString "n")])) l2_0 (.lst [V.ref t2_0_0, V.ref t2_0_1])) t2_1_0 (.tup [V.int 1, V.str (Str.ofString "h")])) l2_1 (.lst [V.ref t2_1_0])) t2_2_0 (.tup [V.int 1, V.str (Str.ofString "n")])) l2_2 (.lst [V.ref t2_2_0])) [(.inr "write", .ref l2_0), (.inr "none", .ref l2_1), (.inr "tell", .ref l2_2)] [("write", [(1, "h"), (3, "n")]), ("none", [(1, "h")]), ("tell", [(1, "n")])] := ⟨rfl, ⟨l2_0, [t2_0_0, t2_0_1], rfl, .two (zab (zab (zab (zab (zab (zab zaa nt2_0_1) nl2_0) nt2_1_0) nl2_1) nt2_2_0) nl2_2) (zab (zab (zab (zab (zab zaa nl2_0) nt2_1_0) nl2_1) nt2_2_0) nl2_2) (zab (zab (zab (zab zaa nt2_1_0) nl2_1) nt2_2_0) nl2_2)⟩, rfl, ⟨l2_1, [t2_1_0], rfl, .one (zab (zab (zab zaa nl2_1) nt2_2_0) nl2_2) (zab (zab zaa nt2_2_0) nl2_2)⟩, rfl, ⟨l2_2, [t2_2_0], rfl, .one (zab zaa nl2_2) zaa⟩, True.intro⟩
  have nX2 := nd2
  revert SS2 eX2 UX2
  generalize (upd (upd (upd (upd (upd (upd (upd (upd HA1 d2 (.dK [])) t2_0_0 (.tup [V.int 1, V.str (Str.ofString "h")])) t2_0_1 (.tup [V.int 3, V.str (Str.ofString "n")])) l2_0 (.lst [V.ref t2_0_0, V.ref t2_0_1])) t2_1_0 (.tup [V.int 1, V.str (Str.ofString "h")])) l2_1 (.lst [V.ref t2_1_0])) t2_2_0 (.tup [V.int 1, V.str (Str.ofString "n")])) l2_2 (.lst [V.ref t2_2_0])) = X2
  intro SS2 eX2 UX2
  clear nl2_2 nt2_2_0 nl2_1 nt2_1_0 nl2_0 nt2_0_1 nt2_0_0
  refine ⟨eX2, [(.inr "write", .ref l2_0), (.inr "none", .ref l2_1), (.inr "tell", .ref l2_2)], rfl, by simp, ?_⟩
  have ne2 := zaw e1 nd2
  refine ⟨d0, d2, _, _, rfl, rfl, ne2, by rw [zaj ne2]; exact SS2 _ _ e1, zaa, Nat.le_of_ble_eq_true rfl, ?_⟩
  refine absH (C := tail _ _) (Good := fun Y => Same H Y ∧ Y d0 = some (.dK [(.inr "plus", .ref l0_0), (.inr "less", .ref l0_1), (.inr "zero", .ref l0_2), (.inr "fetch", .ref l1_0), (.inr "read", .ref l1_1), (.inr "into", .ref l1_2), (.inr "hang", .ref l1_3), (.inr "write", .ref l2_0), (.inr "none", .ref l2_1), (.inr "tell", .ref l2_2)]) ∧ UsD Y [(.inr "plus", .ref l0_0), (.inr "less", .ref l0_1), (.inr "zero", .ref l0_2), (.inr "fetch", .ref l1_0), (.inr "read", .ref l1_1), (.inr "into", .ref l1_2), (.inr "hang", .ref l1_3), (.inr "write", .ref l2_0), (.inr "none", .ref l2_1), (.inr "tell", .ref l2_2)] [("plus", [(2, "n"), (3, "n")]), ("less", [(2, "n"), (3, "n")]), ("zero", [(1, "n")]), ("fetch", [(2, "h")]), ("read", [(2, "h")]), ("into", [(2, "h")]), ("hang", [(1, "h"), (3, "h")]), ("write", [(1, "h"), (3, "n")]), ("none", [(1, "h")]), ("tell", [(1, "n")])]) ⟨zaz (fun c o e => ?_) nd0, zaa, ?_⟩ ?_
  ·rw [zaj (zaw e (SA1.free nd2))]; exact SS2 _ _ (SA1 _ _ e)
  ·exact UsD.upD (UsD.app ((U1.same SS2).upD eX2) (UX2.upD eX2)) (a := d0) (by rw [zaj ne2]; exact SS2 _ _ e1)
  rintro HA2 ⟨SA2, e2, U2⟩
  clear SS2 eX2 UX2
  subst hG
  generalize hG : tSeq (tIfS _ _ _) _ = tail
  simp! [tBM, zdk, tPairs, tC]
  refine ⟨.inr (.inr (.inl ⟨rfl, .inl ⟨_, e2⟩⟩)), ?_⟩
  intro d3 nd3 t3_0_0 nt3_0_0 t3_0_1 nt3_0_1 l3_0 nl3_0
  have SS3 : Same HA2 (upd (upd (upd (upd HA2 d3 (.dK [])) t3_0_0 (.tup [V.int 1, V.str (Str.ofString "h")])) t3_0_1 (.tup [V.int 2, V.str (Str.ofString "h")])) l3_0 (.lst [V.ref t3_0_0, V.ref t3_0_1])) := ((((Same.laid nd3).step nt3_0_0).step nt3_0_1).step nl3_0)
  have eX3 : (upd (upd (upd (upd HA2 d3 (.dK [])) t3_0_0 (.tup [V.int 1, V.str (Str.ofString "h")])) t3_0_1 (.tup [V.int 2, V.str (Str.ofString "h")])) l3_0 (.lst [V.ref t3_0_0, V.ref t3_0_1])) d3 = some (.dK []) := (zab (zab (zab zaa nt3_0_0) nt3_0_1) nl3_0)
  have UX3 : UsD (upd (upd (upd (upd HA2 d3 (.dK [])) t3_0_0 (.tup [V.int 1, V.str (Str.ofString "h")])) t3_0_1 (.tup [V.int 2, V.str (Str.ofString "h")])) l3_0 (.lst [V.ref t3_0_0, V.ref t3_0_1])) [(.inr "same", .ref l3_0)] [("same", [(1, "h"), (2, "h")])] := ⟨rfl, ⟨l3_0, [t3_0_0, t3_0_1], rfl, .two (zab (zab zaa nt3_0_1) nl3_0) (zab zaa nl3_0) zaa⟩, True.intro⟩
  have nX3 := nd3
  revert SS3 eX3 UX3
  generalize (upd (upd (upd (upd HA2 d3 (.dK [])) t3_0_0 (.tup [V.int 1, V.str (Str.ofString "h")])) t3_0_1 (.tup [V.int 2, V.str (Str.ofString "h")])) l3_0 (.lst [V.ref t3_0_0, V.ref t3_0_1])) = X3
  intro SS3 eX3 UX3
  clear nl3_0 nt3_0_1 nt3_0_0
  refine ⟨eX3, [(.inr "same", .ref l3_0)], rfl, by simp, ?_⟩
  have ne3 := zaw e2 nd3
  refine ⟨d0, d3, _, _, rfl, rfl, ne3, by rw [zaj ne3]; exact SS3 _ _ e2, zaa, Nat.le_of_ble_eq_true rfl, ?_⟩
  refine absH (C := tail _ _) (Good := fun Y => Same H Y ∧ Y d0 = some (.dK [(.inr "plus", .ref l0_0), (.inr "less", .ref l0_1), (.inr "zero", .ref l0_2), (.inr "fetch", .ref l1_0), (.inr "read", .ref l1_1), (.inr "into", .ref l1_2), (.inr "hang", .ref l1_3), (.inr "write", .ref l2_0), (.inr "none", .ref l2_1), (.inr "tell", .ref l2_2), (.inr "same", .ref l3_0)]) ∧ UsD Y [(.inr "plus", .ref l0_0), (.inr "less", .ref l0_1), (.inr "zero", .ref l0_2), (.inr "fetch", .ref l1_0), (.inr "read", .ref l1_1), (.inr "into", .ref l1_2), (.inr "hang", .ref l1_3), (.inr "write", .ref l2_0), (.inr "none", .ref l2_1), (.inr "tell", .ref l2_2), (.inr "same", .ref l3_0)] [("plus", [(2, "n"), (3, "n")]), ("less", [(2, "n"), (3, "n")]), ("zero", [(1, "n")]), ("fetch", [(2, "h")]), ("read", [(2, "h")]), ("into", [(2, "h")]), ("hang", [(1, "h"), (3, "h")]), ("write", [(1, "h"), (3, "n")]), ("none", [(1, "h")]), ("tell", [(1, "n")]), ("same", [(1, "h"), (2, "h")])]) ⟨zaz (fun c o e => ?_) nd0, zaa, ?_⟩ ?_
  ·rw [zaj (zaw e (SA2.free nd3))]; exact SS3 _ _ (SA2 _ _ e)
  ·exact UsD.upD (UsD.app ((U2.same SS3).upD eX3) (UX3.upD eX3)) (a := d0) (by rw [zaj ne3]; exact SS3 _ _ e2)
  rintro HA3 ⟨SA3, e3, U3⟩
  clear SS3 eX3 UX3
  subst hG
  clear U0 U1 U2 e0 e1 e2 SA0 SA1 SA2
  have PR := PR.same SA3
  obtain ⟨us, hp, PA⟩ := RA.same SA3
  have q : ∀ (l : Addr) (rs : List Addr) (H' : Hp), Same HA3 H' → Prs H' l (usV (ds.map (·.1)) d.1.2 r) rs → Q (.ref l) H' := fun l rs H' S P => q l rs H' (SA3.trans S) P
  unfold usV at q
  have fl := (List.getElem?_eq_some_iff.mp hd).1
  have lp := PR.len
  have hda := List.getElem?_eq_getElem (l := das) (i := f) (by omega)
  simp! [hp]
  by_cases c3 : r.1 = "look"
  ·rw [if_pos c3]
   rw [if_neg (by rw [c3]; simp [zbg]), if_neg (by rw [c3]; simp [zbg]), if_pos c3] at q
   obtain ⟨x, y, z, er⟩ := zc9 F (.inl c3)
   rw [er] at PA
   obtain ⟨u, v, w, rfl, p1, p2, p3⟩ := zcO PA
   cases (show u = .int x from p1)
   cases (show v = .int y from p2)
   cases (show w = .int z from p3)
   have q2 : zaK r 1 = .int y := by unfold zaK; rw [er]; rfl
   have q3 : zaK r 2 = .int z := by unfold zaK; rw [er]; rfl
   rw [q2, q3] at q
   refine ⟨_, zeQ, _, zeE, fun t nt l nl => ?_⟩
   exact q l [t] _ ((Same.laid nt).step nl) (.one (zab zaa nl) zaa)
  rw [if_neg c3]
  by_cases c4 : r.1 = "lay"
  ·rw [if_pos c4]
   rw [if_neg (by rw [c4]; simp [zbg]), if_neg (by rw [c4]; simp [zbg]), if_neg c3, if_pos c4] at q
   obtain ⟨x, y, z, er⟩ := zc9 F (.inr c4)
   rw [er] at PA
   obtain ⟨u, v, w, rfl, p1, p2, p3⟩ := zcO PA
   cases (show u = .int x from p1)
   cases (show v = .int y from p2)
   cases (show w = .int z from p3)
   have q1 : zaK r 0 = .int x := by unfold zaK; rw [er]; rfl
   have q2 : zaK r 1 = .int y := by unfold zaK; rw [er]; rfl
   have q3 : zaK r 2 = .int z := by unfold zaK; rw [er]; rfl
   rw [q1, q2, q3] at q
   refine ⟨_, zbu, _, zeQ, fun t nt => ⟨_, by rw [zab hp nt]; rfl, _, zeE, fun t2 nt2 l nl => ?_⟩⟩
   exact q l [t, t2] _ (((Same.laid nt).step nt2).step nl) (.two (zab (zab zaa nt2) nl) (zab zaa nl) zaa)
  rw [if_neg c4]
  by_cases c1 : r.1 = "call"
  ·rw [if_pos c1]
   rw [if_pos c1] at q
   obtain ⟨x, g, al, z, er, hz, lz⟩ := zb8 F c1
   rw [er] at PA q
   obtain ⟨u, v, w, rfl, p1, p2, p3⟩ := zcO PA
   cases (show u = .int x from p1)
   cases (show v = .int (g : Int) from p2)
   obtain ⟨t, rfl, ht⟩ := p3
   have gl := (List.getElem?_eq_some_iff.mp hz).1
   rw [List.length_map] at gl
   have hg := List.getElem?_eq_getElem gl
   have hga := List.getElem?_eq_getElem (l := das) (i := g) (by omega)
   have hzt := (PR.def_ g _ _ hga hg).1
   have topp := PR.top
   have ag : atI (das.map fun a => V.ref a.1) ((g : Nat) : Int) = some (.ref das[g].1) := zaF (by rw [List.getElem?_map, hga]; rfl)
   rw [List.getElem?_map, hg] at hz
   cases hz
   have lz' : al.length = ds[g].1.1.cps.size := lz
   have mz : ds[g].1 ∈ ds.map (·.1) := List.mem_map.mpr ⟨_, List.getElem_mem gl, rfl⟩
   obtain ⟨z6, za⟩ := SF.asc _ mz
   have eg : ((ds.map (·.1)).getD ((g : Int)).toNat (("" : Str), ("" : Str))) = ds[g].1 := by
    rw [Int.toNat_natCast, List.getD_eq_getElem?_getD, List.getElem?_map, hg]
    rfl
   dsimp only at q
   rw [eg] at q
   refine zeD (H1 := HA3) (al.length : Int) (fun Q2 h2 => by simp! [hp, ht, List.length_map]; exact h2) (by omega) (by omega) (fun D i ys H2 => ∃ rs : List Addr, ys = rs.map V.ref ∧ rs.length = i ∧ Same HA3 H2 ∧ H2 D = some (.lst ys) ∧ ∀ (k : Nat) (r' : Addr) (y c : V), rs[k]? = some r' → (al.map V.int)[k]? = some y → (ds[g].1.1.cps.toList.map fun c => V.str ⟨#[c]⟩)[k]? = some c → H2 r' = some (.tup [y, c]) ∧ r' ≠ D)
    (fun D nD => ⟨[], rfl, rfl, Same.laid nD, zaa, fun k r' y c h => by simp at h⟩) ?_ (by rw [sizeLine_eq]; omega) ?_ ?_
   ·rintro D nD i ys H2 hi ⟨rs, rfl, el, S, hD, at_⟩
    exact ⟨hD, by rw [List.length_map]; omega⟩
   ·rintro D nD i ys H2 hi ⟨rs, rfl, el, S, hD, at_⟩
    have il : i < al.length := by omega
    have hp2 := S _ _ hp
    have ht2 := S _ _ ht
    have top2 := S _ _ topp
    have hz2 := S _ _ hzt
    have a1 : atI (al.map V.int) (((i : Nat) : Int)) = some (.int al[i]) := zaF (by rw [List.getElem?_map, List.getElem?_eq_getElem il]; rfl)
    have ic : i < ds[g].1.1.cps.toList.length := by rw [Array.length_toList]; omega
    have a2 : atI ds[g].1.1.cps.toList (((i : Nat) : Int)) = some (ds[g].1.1.cps.toList[i]) := zaF (List.getElem?_eq_getElem ic)
    simp! [zaM, tTrue, hp2, ht2, top2, hz2, ag]
    refine ⟨_, by rw [Int.zero_add]; exact a1, _, _, _, rfl, rfl, by show ds[g].1.1.cps.size ≤ _; rw [sizeLine_eq]; omega, by rw [Int.zero_add]; exact a2, fun t nt => ?_⟩
    have nlD : t ≠ D := fun e => by rw [e, hD] at nt; cases nt
    refine ⟨zab hD nt, rs ++ [t], by rw [List.map_append]; rfl, by rw [List.length_append, el]; rfl, zaz (S.step nt) nD, fun j r' y c g1 g2 g3 => ?_⟩
    rcases Nat.lt_trichotomy j i with cc | cc | cc
    ·rw [List.getElem?_append_left (by omega)] at g1
     obtain ⟨q1, q2⟩ := at_ j r' y c g1 g2 g3
     exact ⟨by rw [zaj q2]; exact zab q1 nt, q2⟩
    ·rw [List.getElem?_append_right (by omega), cc, el, Nat.sub_self] at g1
     rw [cc, List.getElem?_map, List.getElem?_eq_getElem il] at g2
     rw [cc, List.getElem?_map, List.getElem?_eq_getElem ic] at g3
     cases g1
     cases g2
     cases g3
     exact ⟨by rw [zaj nlD]; exact zaa, nlD⟩
    ·rw [List.getElem?_eq_none (by simp; omega)] at g1
     cases g1
   ·rintro D nD ys H2 ⟨rs, rfl, el, S, hD, at_⟩
    rw [Int.toNat_natCast] at el
    refine q D rs H2 S ⟨hD, ?_, fun k r' pp h1 h2 => ?_⟩
    ·rw [el, List.length_zip, List.length_map, List.length_map]
     rw [show al.length = ds[g].1.1.cps.toList.length from by rw [Array.length_toList]; exact lz', Nat.min_self]
    ·obtain ⟨g1, g2⟩ := List.getElem?_zip_eq_some.mp h2
     exact (at_ k r' pp.1 pp.2 h1 g1 g2).1
  rw [if_neg c1]
  rw [if_neg c1] at q
  by_cases c2 : r.1 = "back"
  ·rw [if_pos c2]
   rw [if_pos c2] at q
   obtain ⟨x, er⟩ := zek F c2
   rw [er] at PA
   have eu := zhb PA
   subst eu
   have hdt := (PR.def_ f _ _ hda hd).1
   have q2 : zaK r 0 = .int x := by unfold zaK; rw [er]; rfl
   rw [q2] at q
   refine ⟨_, zbu, _, by rw [PR.top]; rfl, _, zaF (by rw [List.getElem?_map, hda]; rfl), _, rfl, _, by rw [hdt]; rfl, _, zbu, fun t nt l nl => ?_⟩
   exact q l [t] _ ((Same.laid nt).step nl) (.one (zab zaa nl) zaa)
  rw [if_neg c2]
  rw [if_neg c2, if_neg c3, if_neg c4] at q
  obtain ⟨ls, m, l, pf⟩ := F
  obtain ⟨lk, parts⟩ := LW_u _ m c1 c2 c3 c4
  have eT := TAB_ust _ m c1 c2 c3 c4
  have ul : (ust r.1).length ≤ 2 := ust_len _ (zbj lk)
  refine zfm (fun ua H2 => ∃ rs0, Same HA3 H2 ∧ Prs H2 ua ((ust r.1).map fun q => (V.int q.1, V.str q.2)) rs0) (fun Q2 hQ => ?_) ?_
  ·simp! [hp, zhd]
   refine ⟨.inl ⟨_, .inl e3⟩, fun p0 np0 => ?_⟩
   have e3' := zab (u := .lst []) e3 np0
   refine ⟨_, DGet.k (k := .inr r.1) e3', ?_⟩
   rcases UsD.get (w := r.1) U3 with ⟨g1, g2⟩ | ⟨v, ps, g1, g2, g3⟩
   ·rw [show TAB.lookup r.1 = none from g2] at eT
    rw [g1]
    exact hQ p0 _ ⟨[], .laid np0, by rw [← eT]; exact ⟨zaa, rfl, fun k r' p h => by simp at h⟩⟩
   ·rw [show TAB.lookup r.1 = some ps from g2] at eT
    obtain ⟨ua, rs0, rfl, P⟩ := g3
    rw [g1]
    have eT : ps = ust r.1 := eT
    refine hQ ua _ ⟨rs0, .laid np0, ?_⟩
    rw [← eT]
    exact ⟨zab P.top np0, P.len, fun k r' p h1 h2 => zab (P.at_ k r' p h1 h2) np0⟩
  rintro ua HB ⟨rs0, SB, PB⟩
  have lB := PB.len
  rw [List.length_map] at lB
  refine zdz (H1 := HB) ua (rs0.map V.ref) (fun Q2 h2 => h2) (.of PB.top) (fun D i ys H2 => ∃ rs : List Addr, ys = rs.map V.ref ∧ rs.length = i ∧ Same HB H2 ∧ H2 D = some (.lst ys) ∧ ∀ (k : Nat) (r' : Addr) (q : Nat × Str), rs[k]? = some r' → (ust r.1)[k]? = some q → H2 r' = some (.tup [zaK r (q.1 - 1), .str q.2]) ∧ r' ≠ D)
   (fun D nD => ⟨[], rfl, rfl, Same.laid nD, zaa, fun k r' q h => by simp at h⟩) ?_ (by rw [sizeLine_eq, List.length_map]; omega) ?_ ?_
  ·rintro D nD i ys H2 hi ⟨rs, rfl, el, S, hD, _⟩
   exact ⟨.of (S _ _ PB.top), hD, by rw [List.length_map]; omega⟩
  ·rintro D nD i x ys H2 hx ⟨rs, rfl, el, S, hD, at_⟩
   obtain ⟨b, hb0, rfl⟩ := zay hx
   have il : i < (ust r.1).length := by
    have := (List.getElem?_eq_some_iff.mp hb0).1
    omega
   have hq := List.getElem?_eq_getElem il
   have sq := S _ _ (PB.at_ i b _ hb0 (by rw [List.getElem?_map, hq]; rfl))
   obtain ⟨q1, qp⟩ := parts _ (List.getElem_mem il)
   have lk2 : (ust r.1)[i].1 - 1 < r.2.length := by
    have : _ < ls.cps.size := (Array.getElem?_eq_some_iff.mp qp).1
    omega
   have hr2 := List.getElem?_eq_getElem lk2
   obtain ⟨x, ex⟩ := zd3 (pf.at_ _ 112 _ qp hr2)
   rw [ex] at hr2
   have hus := List.getElem?_eq_getElem (l := us) (i := (ust r.1)[i].1 - 1) (by rw [PA.len]; exact lk2)
   have hv := PA.at_ _ _ _ hus hr2
   rw [show us[(ust r.1)[i].1 - 1]'(by rw [PA.len]; exact lk2) = .int x from hv] at hus
   have pv : zaK r ((ust r.1)[i].1 - 1) = .int x := by unfold zaK; rw [hr2]
   have ai : atI (V.str r.1 :: us) (((ust r.1)[i].1 : Nat) : Int) = some (.int x) := zaF (by
    rw [show (ust r.1)[i].1 = ((ust r.1)[i].1 - 1) + 1 from by omega, List.getElem?_cons_succ]
    exact hus)
   have hp2 := S p _ (SB _ _ hp)
   refine zbA sq rfl ?_
   simp! [tTrue, zaM, hp2, ai]
   intro t nt
   have nlD : t ≠ D := fun e => by rw [e, hD] at nt; cases nt
   refine ⟨zab hD nt, rs ++ [t], by rw [List.map_append]; rfl, by rw [List.length_append, el]; rfl, zaz (S.step nt) nD, fun j r' m g1 g2 => ?_⟩
   rcases Nat.lt_trichotomy j i with cc | cc | cc
   ·rw [List.getElem?_append_left (by omega)] at g1
    obtain ⟨q1, q2⟩ := at_ j r' m g1 g2
    exact ⟨by rw [zaj q2]; exact zab q1 nt, q2⟩
   ·rw [List.getElem?_append_right (by omega), cc, el, Nat.sub_self] at g1
    rw [cc, hq] at g2
    cases g1
    cases g2
    exact ⟨by rw [zaj nlD, pv]; exact zaa, nlD⟩
   ·rw [List.getElem?_eq_none (by simp; omega)] at g1
    cases g1
  ·rintro D nD ys H2 ⟨rs, rfl, el, S, hD, at_⟩
   rw [List.length_map] at el
   refine q D rs H2 (SB.trans S) ⟨hD, by rw [List.length_map]; omega, fun k r' pp h1 h2 => ?_⟩
   rw [List.getElem?_map] at h2
   obtain ⟨q0, h3, rfl⟩ := Option.map_eq_some_iff.mp h2
   exact (at_ k r' q0 h1 h3).1
end
section
variable {P : Program} {w : World} {K : PySem.W.Frag} {mg : Str → Option Value} {base : Heap} {a : Ad}
theorem zfa {x : Int} : ∀ {l : List Int}, inV (.int x) (l.map V.int) = decide (x ∈ l)
 | [] => by simp [inV]
 | y :: l => by
  have ih := zfa (x := x) (l := l)
  unfold inV at ih ⊢
  rw [List.map_cons, List.any_cons, ih]
  show (decide (y = x) || decide (x ∈ l)) = _
  rw [Bool.eq_iff_iff, Bool.or_eq_true, decide_eq_true_eq, decide_eq_true_eq, decide_eq_true_eq, List.mem_cons]
  exact ⟨fun h => h.imp Eq.symm id, fun h => h.imp Eq.symm id⟩
theorem zch {x : Int} {l : List Int} {neg : Bool} {p : Addr} {H : Hp} {Q : VK} (h : H p = some (.lst (l.map V.int))) (q : Q (.bl (if neg then !decide (x ∈ l) else decide (x ∈ l))) H) : rIn K neg (.int x) (.ref p) H Q := by
 refine ⟨p, l.map V.int, rfl, .inl (.of h), rfl, ?_, by rw [zfa]; exact q⟩
 rw [List.all_map]
 exact List.all_eq_true.mpr fun x _ => rfl
/-- the places to which what is in p goes behind the row -/
def trL (r : Row) (p : Int) : List Int := (if wrI r = some p ∨ (r.1 = "call" ∧ p < 8) then [] else [p]) ++ (match cpy r with | some (x, y) => if y = p ∧ ¬ (x ∈ (if wrI r = some p ∨ (r.1 = "call" ∧ p < 8) then ([] : List Int) else [p])) then [x] else [] | none => [])
theorem zdZ {words many : Int} {sg : List Sg} {r : Row} (F : zaI words many sg r) {p q : Int} : q ∈ trL r p ↔ srcM r q = some p := by
 unfold trL srcM
 by_cases c : r.1 = "copy"
 ·obtain ⟨x, y, er, _⟩ := zbN F c
  have ec : cpy r = some (x, y) := by unfold cpy; rw [if_pos c, er]
  have ew : wrI r = some x := by unfold wrI; rw [if_pos (by rw [c]; decide), er]; rfl
  have nc : ¬ r.1 = "call" := by rw [c]; simp [zbg]
  rw [ec, ew]
  dsimp only
  simp only [nc, false_and, or_false, Option.some.injEq]
  by_cases c1 : x = p
  ·rw [if_pos c1]
   by_cases c2 : y = p
   ·rw [if_pos ⟨c2, by simp⟩]
    by_cases c3 : x = q
    ·simp [c3, c2]
    ·simp [c3]; omega
   ·rw [if_neg (fun h => c2 h.1)]
    by_cases c3 : x = q
    ·simp [c3, c2]
    ·simp [c3]; omega
  ·rw [if_neg c1]
   by_cases c2 : y = p
   ·rw [if_pos ⟨c2, by simpa using c1⟩]
    by_cases c3 : x = q
    ·simp [c3, c2]
    ·simp [c3]; omega
   ·rw [if_neg (fun h => c2 h.1)]
    by_cases c3 : x = q
    ·simp [c3, c2]; omega
    ·simp [c3]
 ·have ec : cpy r = none := by unfold cpy; rw [if_neg c]
  rw [ec]
  dsimp only
  rw [List.append_nil]
  by_cases c1 : wrI r = some p ∨ (r.1 = "call" ∧ p < 8)
  ·rw [if_pos c1]
   split
   ·simp
   ·rename_i c2
    constructor
    ·intro h; cases h
    ·intro h; cases h; exact absurd c1 c2
  ·rw [if_neg c1, List.mem_singleton]
   constructor
   ·rintro rfl; rw [if_neg c1]
   ·intro h
    split at h
    ·cases h
    ·exact Option.some.inj h
def sp_trav : Sp := fun vs H Q _ => ∃ (p : Addr) (r : Row) (q words many : Int) (sg : List Sg), vs = [.ref p, .int q] ∧ za4 H p r ∧ zaI words many sg r ∧ ∀ (l : Addr) (H' : Hp), H l = none → Same H H' → H' l = some (.lst ((trL r q).map V.int)) → Q (.ref l) H'
set_option maxHeartbeats 2000000 in
theorem zbd (T : Txt K mg a) : FnOk P w K mg base CX0 2 a.f_law_travelled a.d_law_travelled ["row", "p"] sp_trav := by
 refine T.F_law_travelled.okC sc_law_travelled (fun vs H Q E h => ?_) (fun cdv A outer s H vs Q E hr h => ?_)
 ·obtain ⟨p, r, q, words, many, sg, rfl, _⟩ := h
  rfl
 ·obtain ⟨p, r, q0, words, many, sg, rfl, RA, F, q⟩ := h
  have hu := zaX hr
  refine ⟨_, (@zae _ _ _ _ _ (zaC (i := 2) sc_law_travelled.nd (by rfl) (Or.inl rfl) (zaA pa_nil))
   (@zae _ _ _ _ _ (@zaN _ _ _ _ _ _ _ _ (PW.pt (zbe (zar op_ne (zam (zcV T) (hr.mono (by decide)) (by rfl) T.m_law_writes T.F_law_writes.kp T.b_law_writes .nil zaD (@zac _ _ _ _ _ _ (pv 0) pa_nil)) (pv 1) (zaB _)) (za6 (zcv (PW.pt (zbe (zar op_eq (zah ix_F (pv 0) zaf (fun _ _ => rfl)) zak (zaB _)) (za6 (zar op_lt (pv 1) zaf (zaB _))))))))) (@zag _ _ _ (zaS (zbq PySem.F.plainAttrs_list PySem.F.slot_list_append PySem.F.type_list_append mt_append (pv 2) (@zac _ _ _ _ _ _ (pv 1) pa_nil)))) pss_nil)
   (@zae _ _ _ _ _ (@zaN _ _ _ _ _ _ _ _ (PW.pt (zbe (zar op_eq (zah ix_F (pv 0) zaf (fun _ _ => rfl)) zak (zaB _)) (zbe (zar op_eq (zah ix_F (pv 0) zaf (fun _ _ => rfl)) (pv 1) (zaB _)) (za6 (zar op_notIn_seq (zah ix_F (pv 0) zaf (fun _ _ => rfl)) (pv 2) (by with_unfolding_all rfl)))))) (@zag _ _ _ (zaS (zbq PySem.F.plainAttrs_list PySem.F.slot_list_append PySem.F.type_list_append mt_append (pv 2) (zad (zah ix_F (pv 0) zaf (fun _ _ => rfl)) pa_nil)))) pss_nil)
   (@zag _ _ _ (zat (pv 2)))))), ?_⟩
  generalize hG : tSeq (tIfS _ _ _) _ = tail
  simp! []
  intro L nL
  have S1 : Same H (upd H L (.lst [])) := .laid nL
  have e1 : upd H L (.lst []) L = some (.lst []) := zaa
  revert S1 e1
  generalize upd H L (.lst []) = H1
  intro S1 e1
  subst hG
  generalize hG : tSeq (tIfS (tAnd _ _) _ _) (tRet _) = tail
  obtain ⟨us, hp, PA⟩ := id RA
  have tl : ∀ (fs : List Int) (H2 : Hp), Same H H2 → H2 L = some (.lst (fs.map V.int)) → fs = (if wrI r = some q0 ∨ (r.1 = "call" ∧ q0 < 8) then [] else [q0]) → tail { nx := fun x H' => Q V.non H', rt := Q } [some (V.ref p), some (V.int q0), some (V.ref L)] H2 := by
   intro fs H2 S2 hL2 ef
   subst hG
   have lf : fs.length ≤ 1 := by rw [ef]; split <;> simp
   have hp2 := S2 _ _ hp
   by_cases c : r.1 = "copy"
   ·obtain ⟨x, y, er, _⟩ := zbN F c
    have eus : us = [.int x, .int y] := by
     rw [er] at PA
     match us, PA with
     | [u, v], PA => rw [show u = .int x from PA.at_ 0 u (.inl x) rfl rfl, show v = .int y from PA.at_ 1 v (.inl y) rfl rfl]
     | [], PA => cases PA.len
     | [_], PA => cases PA.len
     | _ :: _ :: _ :: _, PA => exact absurd PA.len (by simp)
    subst eus
    have et : trL r q0 = fs ++ if y = q0 ∧ ¬ x ∈ fs then [x] else [] := by unfold trL; rw [← ef]; congr 1; unfold cpy; rw [if_pos c, er]
    rw [et] at q
    simp! [hp2, c]
    refine ite2 (fun c1 => ?_) fun c1 => ?_
    ·refine zch hL2 ⟨_, rfl, ?_⟩
     rw [if_pos rfl]
     by_cases c2 : x ∈ fs
     ·rw [decide_eq_true c2, if_neg (by simp)]
      rw [if_neg (fun h => h.2 c2), List.append_nil] at q
      exact q L H2 nL S2 hL2
     ·rw [decide_eq_false c2, if_pos (by simp)]
      rw [if_pos ⟨c1, c2⟩] at q
      simp! [tBM, hp2]
      refine ⟨.inl ⟨rfl, _, .of hL2⟩, L, _, _, rfl, rfl, hL2, by rw [sizeLine_eq, List.length_map]; omega, ?_⟩
      exact q L _ nL (zaz (fun c o e => S2 _ _ e) nL) (by rw [zaa, List.map_append]; rfl)
    ·rw [if_neg (fun h => c1 h.1), List.append_nil] at q
     exact q L H2 nL S2 hL2
   ·have et : trL r q0 = fs := by unfold trL; rw [← ef]; unfold cpy; rw [if_neg c]; dsimp only; rw [List.append_nil]
    rw [et] at q
    simp! [hp2, c]
    exact q L H2 nL S2 hL2
  simp! []
  refine ⟨p, r, words, many, sg, rfl, RA.same S1, F, fun H2 S2 => ?_⟩
  rw [zg8]
  have S2' := S2
  have S2 := S1.trans S2
  have hp2 := S2 _ _ hp
  have e2 := S2' _ _ e1
  have add : (if wrI r = some q0 ∨ (r.1 = "call" ∧ q0 < 8) then ([] : List Int) else [q0]) = [q0] → (tBM K "list" rAppend (tVar 2) (zcD (tVar 1) tNil) [some (V.ref p), some (V.int q0), some (V.ref L)] H2 fun x H1 => tail { nx := fun x H' => Q V.non H', rt := Q } [some (V.ref p), some (V.int q0), some (V.ref L)] H1) := fun h => by
   simp! [tBM]
   exact ⟨.inl ⟨rfl, _, .of e2⟩, L, _, _, rfl, rfl, e2, by rw [sizeLine_eq]; decide, tl [q0] _ (zaz (fun c o e => S2 _ _ e) nL) (by rw [zaa]; rfl) h.symm⟩
  refine ⟨by cases wrI r <;> rfl, ?_⟩
  by_cases c1 : wrI r = some q0
  ·rw [if_neg (by rw [c1]; exact fun h => h rfl)]
   exact tl [] H2 S2 e2 (by rw [if_pos (.inl c1)])
  ·rw [if_pos (fun z => c1 (by cases e : wrI r with | none => rw [e] at z; cases z | some y => rw [e] at z; cases z; rfl))]
   refine ⟨_, by rw [hp2]; rfl, _, zda, rfl, ?_⟩
   by_cases c2 : r.1 = "call"
   ·rw [if_pos (by rw [c2])]
    by_cases c3 : q0 < 8
    ·rw [if_neg (fun h => h c3)]
     exact tl [] H2 S2 e2 (by rw [if_pos (.inr ⟨c2, c3⟩)])
    ·rw [if_pos c3]
     exact add (by rw [if_neg (fun z => z.elim c1 fun z => c3 z.2)])
   ·rw [if_neg (fun z => c2 (V.str.inj z))]
    exact add (by rw [if_neg (fun z => z.elim c1 fun z => c2 z.1)])
end
section
variable {P : Program} {w : World} {K : PySem.W.Frag} {mg : Str → Option Value} {base : Heap} {a : Ad}
theorem val_at : ∀ {kvs : List (List Key × V)} {i : Nat} {p : List Key × V}, (kvs.map (·.1)).Nodup → kvs[i]? = some p → valV kvs p.1 = some p.2
 | [], i, p, _, h => by simp at h
 | x :: r, 0, p, nd, h => by
  simp only [List.getElem?_cons_zero, Option.some.injEq] at h
  subst h
  exact zb6 rfl
 | x :: r, i + 1, p, nd, h => by
  rw [List.getElem?_cons_succ] at h
  rw [List.map_cons, List.nodup_cons] at nd
  rw [zb7 (fun e => nd.1 (by rw [e]; exact List.mem_map.mpr ⟨p, List.mem_of_getElem? h, rfl⟩))]
  exact val_at nd.2 h
theorem StD.at_ {R : RL} {H : Hp} {D b : Addr} {ps : List Pr} (x : StD R H D ps) (nd : ps.Nodup) {i : Nat} {q : Pr} (hq : ps[i]? = some q) (hb : H b = some (.tup [.int q.1, .int q.2])) : ∃ v, DGet H D (.ref b) (some v) ∧
  ((v = .non ∧ UsAt R.1 R.2.1 R.2.2 q) ∨ ∃ (c : Addr) (z : Pr), v = .ref c ∧ H c = some (.tup [.int z.1, .int z.2]) ∧ z ∈ ps.take i ∧ Goes R.2.2 q z.1 z.2) := by
 obtain ⟨kvs, e1, e2, e3⟩ := x
 have il := (List.getElem?_eq_some_iff.mp hq).1
 have hp := List.getElem?_eq_getElem (l := kvs) (i := i) (by rw [zb9 e2]; exact il)
 have nk : (kvs.map (·.1)).Nodup := by
  rw [e2]
  exact List.pairwise_map.mpr (nd.imp fun h e => h (zen e))
 have ek : (kvs[i]'(by rw [zb9 e2]; exact il)).1 = kk q := by
  have := congrArg (fun l => l[i]?) e2
  simp only [List.getElem?_map, hp, hq, Option.map_some] at this
  exact Option.some.inj this
 have g := DGet.t (k := kk q) e1 hb
 rw [← ek, val_at nk hp] at g
 exact ⟨_, g, e3 i _ q hp hq⟩
structure WayOk (R : RL) (q : Pr) (way : List Pr) : Prop where
 nd : way.Nodup
 hd : way.head? = some q
 go : ∀ (i : Nat) (a b : Pr), way[i]? = some a → way[i + 1]? = some b → Goes R.2.2 a b.1 b.2
 last : ∃ z, way.getLast? = some z ∧ UsAt R.1 R.2.1 R.2.2 z
 len : way.length ≤ 960
def sp_useway : Sp := fun vs H Q _ => ∃ (pl : Addr) (f k : Nat) (p : Int) (das : List (Addr × Addr × List Addr)) (ds : List Df) (d : Df), vs = [.ref pl, .int f, .int k, .int p] ∧ ProgAt H pl das ds ∧ ds[f]? = some d ∧ ProgFit ds ∧
 (∀ H', Same H H' → ¬ Need (ds.map (·.1), d.1.2, d.2.2) (k, p) → Q .non H') ∧ (∀ (l : Addr) (as : List Addr) (way : List Pr) (H' : Hp), Same H H' → Need (ds.map (·.1), d.1.2, d.2.2) (k, p) → PrI H' l as way → WayOk (ds.map (·.1), d.1.2, d.2.2) (k, p) way → Q (.ref l) H')
theorem zgK {R : RL} {W : List Pr} {q z : Pr} (h : ∀ (i : Nat) (a b : Pr), W[i]? = some a → W[i + 1]? = some b → Goes R.2.2 a b.1 b.2) (hl : W.getLast? = some q) (g : Goes R.2.2 q z.1 z.2) : ∀ (i : Nat) (a b : Pr), (W ++ [z])[i]? = some a → (W ++ [z])[i + 1]? = some b → Goes R.2.2 a b.1 b.2 := by
 intro i a b h1 h2
 by_cases c : i + 1 < W.length
 ·rw [List.getElem?_append_left (by omega)] at h1
  rw [List.getElem?_append_left c] at h2
  exact h i a b h1 h2
 ·have il := (List.getElem?_eq_some_iff.mp h2).1
  rw [List.length_append, List.length_singleton] at il
  rw [List.getElem?_append_right (by omega), show i + 1 - W.length = 0 by omega] at h2
  cases h2
  rw [List.getElem?_append_left (by omega)] at h1
  rw [List.getLast?_eq_getElem?, show W.length - 1 = i by omega, h1] at hl
  cases hl
  exact g
theorem zdE {ps : List Pr} (nd : ps.Nodup) {i : Nat} {z w : Pr} (h1 : z ∈ ps.take i) (h2 : w ∈ ps.drop i) : z ≠ w := by
 rw [← List.take_append_drop i ps, List.nodup_append] at nd
 exact nd.2.2 z h1 w h2
def uwI (H : Hp) (pl D wl : Addr) (f k : Nat) (p : Int) (ds : List Df) (d : Df) (ps : List Pr) (m : Nat) (σ : St) (H6 : Hp) : Prop := ∃ (W : List Pr) (was : List Addr) (q : Pr), σ = [some (V.ref pl), some (V.int f), some (V.int k), some (V.int p), some (V.ref D), some (V.ref wl)] ∧ StD (ds.map (·.1), d.1.2, d.2.2) H6 D ps ∧ PrI H6 wl was W ∧ Same H H6 ∧ W.Nodup ∧ W.head? = some (k, p) ∧ W.getLast? = some q ∧ ps[m]? = some q ∧ (∀ w ∈ W, w ∈ ps.drop m) ∧ (∀ (i : Nat) (a b : Pr), W[i]? = some a → W[i + 1]? = some b → Goes d.2.2 a b.1 b.2)
set_option maxHeartbeats 4000000 in
theorem zeN (T : Txt K mg a) : FnOk P w K mg base CX0 4 a.f_use_way a.d_use_way ["program", "f", "at", "p"] sp_useway := by
 refine T.F_use_way.okC sc_use_way (fun vs H Q E h => ?_) (fun cdv A outer s H vs Q E hr h => ?_)
 ·obtain ⟨pl, f, k, p, das, ds, d, rfl, _⟩ := h
  rfl
 ·obtain ⟨pl, f, k, p, das, ds, d, rfl, PR, hd, PF, q1, q2⟩ := h
  have hu := zaX hr
  refine ⟨_, (@zae _ _ _ _ _ (zaC (i := 4) sc_use_way.nd (by rfl) (Or.inl rfl) (zam (zbb T) (hr.mono (by decide)) (by rfl) T.m_steps_to_uses T.F_steps_to_uses.kp T.b_steps_to_uses .nil zaD (@zac _ _ _ _ _ _ (pv 0) (@zac _ _ _ _ _ _ (pv 1) pa_nil))))
   (@zae _ _ _ _ _ (@zaN _ _ _ _ _ _ _ _ (zcs (zcr hu (zax (@zac _ _ _ _ _ _ (pv 2) (@zac _ _ _ _ _ _ (pv 3) pa_nil))) (pv 4))) (@zag _ _ _ (zat zdG)) pss_nil)
   (@zae _ _ _ _ _ (@zef _ 5 _ _ _ _ _ _ sc_use_way.nd (by rfl) (Or.inl rfl) (zad (zax (@zac _ _ _ _ _ _ (pv 2) (@zac _ _ _ _ _ _ (pv 3) pa_nil))) pa_nil) (by first | exact .inl (by rfl) | exact .inr (by rfl) | assumption))
   (@zae _ _ _ _ _ (zdj PassesOwn.never (zcs (zdW (zfG hu (pv 4) (zah ix_F (pv 5) (zeb un_neg zaf) (fun _ _ => rfl)) (fun _ _ => rfl)))) (@zag _ _ _ (zaS (zbq PySem.F.plainAttrs_list PySem.F.slot_list_append PySem.F.type_list_append mt_append (pv 5) (zad (zfG hu (pv 4) (zah ix_F (pv 5) (zeb un_neg zaf) (fun _ _ => rfl)) (fun _ _ => rfl)) pa_nil)))))
   (@zag _ _ _ (zat (pv 5))))))), ?_⟩
  have N := DfFit.nd PF (List.mem_of_getElem? hd)
  generalize hG : tSeq (tAsg (tLst _) _) _ = tail
  simp! [zdb]
  refine ⟨pl, f, das, ds, d, rfl, PR, hd, PF, fun D ps H1 S1 ST NI => fun t nt => ?_⟩
  have S12 : Same H1 (upd H1 t (.tup [V.int k, V.int p])) := .laid nt
  have et : upd H1 t (.tup [V.int k, V.int p]) t = some (.tup [V.int k, V.int p]) := zaa
  have ST2 := ST.same S12
  have S2 := S1.trans S12
  revert S12 et ST2 S2
  generalize upd H1 t (.tup [V.int k, V.int p]) = H2
  intro S12 et ST2 S2
  obtain ⟨o, go, so⟩ := ST2.k.get (q := (k, p)) (b := t) et
  refine ⟨D, rfl, o, go, ?_⟩
  have nm : ∀ q, q ∈ ps ↔ Need (ds.map (·.1), d.1.2, d.2.2) q := fun q => ⟨fun m => by obtain ⟨i, hi⟩ := List.mem_iff_getElem?.mp m; exact ST.need i q hi, NI.need⟩
  rw [so]
  by_cases c : (k, p) ∈ ps
  ·rw [decide_eq_true c, if_neg (by simp)]
   have nd := NI.nd
   have lps := zba N.w1 N.n40 NI.nd NI.box
   subst hG
   generalize hG : tSeq (zej _ _) _ = tail
   simp! []
   intro t3 n3 wl nwl
   have S25 : Same H2 (upd (upd H2 t3 (.tup [V.int k, V.int p])) wl (.lst [V.ref t3])) := (Same.laid n3).step nwl
   have PW : PrI (upd (upd H2 t3 (.tup [V.int k, V.int p])) wl (.lst [V.ref t3])) wl [t3] [(k, p)] := ⟨zaa, rfl, fun i a q h1 h2 => by
    match i, h1, h2 with
    | 0, h1, h2 => cases h1; cases h2; exact zab zaa nwl
    | i + 1, h1, h2 => simp at h1⟩
   have ST5 := ST2.same S25
   have S5 := S2.trans S25
   have nwlH : H wl = none := (S2.step n3).free nwl
   revert PW ST5 S5
   generalize upd (upd H2 t3 (.tup [V.int k, V.int p])) wl (.lst [V.ref t3]) = H5
   intro PW ST5 S5
   clear S25 n3 nwl S12 et ST2 S2 go so ST
   subst hG
   generalize hG : tRet _ = tail
   obtain ⟨i0, hi0⟩ := List.mem_iff_getElem?.mp c
   have m0 : ∀ w ∈ [((k, p) : Pr)], w ∈ ps.drop i0 := fun w hw => by
    rw [List.mem_singleton.mp hw]
    exact List.mem_of_getElem? (i := 0) (by rw [List.getElem?_drop]; exact hi0)
   refine ⟨uwI H pl D wl f k p ds d ps,
    ⟨i0, [(k, p)], [t3], (k, p), rfl, ST5, PW, S5, by simp, rfl, rfl, hi0, m0, fun i a b h1 h2 => by simp at h2⟩, ?_⟩
   clear PW ST5 S5 hi0 m0
   rintro m σ H6 ⟨W, was, q, rfl, ST6, PW, S6, ndW, hdW, ls, hm, dr, gos⟩
   obtain ⟨W0, eW⟩ : ∃ W0, W = W0 ++ [q] := ⟨W.dropLast, by
    rw [List.getLast?_eq_some_iff] at ls
    obtain ⟨ys, e⟩ := ls
    rw [e]; simp⟩
   obtain ⟨was0, t6, ewas⟩ : ∃ was0 t6, was = was0 ++ [t6] := by
    rcases List.eq_nil_or_concat was with e | ⟨x, y, e⟩
    ·have := PW.len; rw [e, eW] at this; simp at this
    ·exact ⟨x, y, by rw [e, List.concat_eq_append]⟩
   have l0 : was0.length = W0.length := by have := PW.len; rw [ewas, eW] at this; simpa using this
   have e6 : H6 t6 = some (.tup [.int q.1, .int q.2]) := PW.at_ W0.length t6 q (by rw [ewas, List.getElem?_append_right (by omega), l0]; simp) (by rw [eW, List.getElem?_append_right (Nat.le_refl _)]; simp)
   have ptop := PW.top
   have alast : atI (was.map V.ref) (-1) = some (.ref t6) := by rw [ewas, List.map_append]; exact zb5 _ _
   obtain ⟨v, gv, hv⟩ := ST6.at_ nd hm e6
   have subW : ∀ w ∈ W, w ∈ ps := fun w hw => List.mem_of_mem_drop (dr w hw)
   have lW := zbk ndW subW
   simp! [zhE, ptop, alast]
   refine ⟨v, gv, ?_⟩
   rcases hv with ⟨rfl, us⟩ | ⟨cz, z, rfl, ecz, zin, gz⟩
   ·rw [if_neg (fun h => h rfl)]
    subst hG
    simp! []
    exact q2 wl was W H6 S6 ((nm _).mp c) PW ⟨ndW, hdW, gos, ⟨q, ls, us⟩, by omega⟩
   ·rw [if_pos (fun h => by cases h)]
    obtain ⟨j, hj⟩ := List.mem_iff_getElem?.mp zin
    have jm := (List.getElem?_eq_some_iff.mp hj).1
    rw [List.length_take] at jm
    rw [List.getElem?_take_of_lt (by omega)] at hj
    refine ⟨uwI H pl D wl f k p ds d ps j, ?_, ?_⟩
    ·rintro σ' H' h
     exact ⟨j, by omega, h⟩
    ·simp! [tBM, zhE, ptop, alast]
     refine ⟨.inl ⟨rfl, _, .of ptop⟩, .ref cz, gv, wl, _, _, rfl, rfl, ptop, by rw [sizeLine_eq, List.length_map, PW.len]; omega, ?_⟩
     have wlD : wl ≠ D := fun e => by obtain ⟨kv, g1, _⟩ := ST6; rw [e, g1] at ptop; cases ptop
     have F7 : Fr (· = wl) H6 (upd H6 wl (.lst (was.map V.ref ++ [V.ref cz]))) := .put rfl (zaP ptop)
     refine ⟨W ++ [z], was ++ [cz], z, rfl, ST6.fr F7 (Ne.symm wlD), ?_, zaz (fun c o e => S6 _ _ e) nwlH, ?_, ?_, ?_, hj, ?_, zgK (R := (ds.map (·.1), d.1.2, d.2.2)) gos ls gz⟩
     ·exact PW.app (m := wl) (bs := [cz]) (qs := [z]) rfl (fun i b pr h1 h2 => by
       match i, h1, h2 with
       | 0, h1, h2 => cases h1; cases h2; exact F7.tups _ _ ecz
       | i + 1, h1, h2 => simp at h1) (fun c xs h => F7.tups c xs h) (by rw [zaa, List.map_append]; rfl)
     ·rw [List.nodup_append]
      exact ⟨ndW, by simp, fun x hx y hy => by rw [List.mem_singleton.mp hy]; exact (zdE nd zin (dr x hx)).symm⟩
     ·rw [List.head?_append, hdW]; rfl
     ·simp
     ·intro w hw
      rcases List.mem_append.mp hw with h | h
      ·have := dr w h
       have e : ps.drop j = (ps.drop j).take (m - j) ++ ps.drop m := by
        have := (List.take_append_drop (m - j) (ps.drop j)).symm
        rw [List.drop_drop, show j + (m - j) = m by omega] at this
        exact this
       rw [e]; exact List.mem_append_right _ this
      ·rw [List.mem_singleton.mp h]
       exact List.mem_of_getElem? (i := 0) (by rw [List.getElem?_drop]; exact hj)
  ·rw [decide_eq_false c, if_pos rfl]
   exact q1 H2 S2 (fun h => c ((nm _).mpr h))
end
section
variable {P : Program} {w : World} {K : PySem.W.Frag} {mg : Str → Option Value} {base : Heap} {a : Ad}
def sp_more : Sp := fun vs H Q _ => ∃ (b c : Addr) (cs : List Int), vs = [.ref b] ∧ BagAt H b c cs ∧ ∀ r, Q (.bl r) H
theorem zd6 (T : Txt K mg a) : FnOk P w K mg base CX0 1 a.f_law_more a.d_law_more ["bag"] sp_more := by
 refine T.F_law_more.okC sc_law_more (fun vs H Q E h => ?_) (fun cdv A outer s H vs Q E hr h => ?_)
 ·obtain ⟨b, c, cs, rfl, _⟩ := h
  rfl
 ·obtain ⟨b, c, cs, rfl, ⟨⟨i, v, st, n, hb, _⟩, hc, ne, pos, len⟩, q⟩ := h
  have hu := zaX hr
  refine ⟨_, (@zag _ _ _ (zat (pe_or (zcn op_gt (zah ix_F (pv 0) zaf (fun _ _ => rfl)) zaf (zaB _)) (zg4 (zcn op_lt (zah ix_F (pv 0) zaf (fun _ _ => rfl)) (zaE call_lenF (by rfl) T.z_len (by decide +kernel) (zad (zah ix_F (pv 0) zaf (fun _ _ => rfl)) pa_nil)) (zaB _)))))), ?_⟩
  simp! [hb, hc, bagL, List.length_map]
  exact ite2 (fun _ => q _) fun _ => q _
def sp_whole : Sp := fun vs H Q _ => ∃ i : Int, vs = [.int i] ∧ Q (.bl true) H
theorem zbW (T : Txt K mg a) : FnOk P w K mg base CX0 1 a.f_law_whole a.d_law_whole ["found"] sp_whole := by
 refine T.F_law_whole.okC sc_law_whole (fun vs H Q E h => ?_) (fun cdv A outer s H vs Q E hr h => ?_)
 ·obtain ⟨i, rfl, _⟩ := h
  rfl
 ·obtain ⟨i, rfl, q⟩ := h
  refine ⟨_, (@zag _ _ _ (zat (zh9 (zaE call_isF (by rfl) T.z_isinstance (by decide +kernel) (@zac _ _ _ _ _ _ (pv 0) (@zac _ _ _ _ _ _ (zc3 (v := .ty "int") (u := .type "int") (by rfl) T.z_int (by decide +kernel) (by rfl)) pa_nil))) (zg4 (ziG (zaE call_isF (by rfl) T.z_isinstance (by decide +kernel) (@zac _ _ _ _ _ _ (pv 0) (@zac _ _ _ _ _ _ (zc3 (v := .ty "bool") (u := .type "bool") (by rfl) T.z_bool (by decide +kernel) (by rfl)) pa_nil)))))))), ?_⟩
  simp! []
  exact q
def sp_lused : Sp := fun vs H Q _ => ∃ (pl : Addr) (f k : Nat) (p : Int) (das : List (Addr × Addr × List Addr)) (ds : List Df) (d : Df) (r : Row), vs = [.ref pl, .int f, .int k, .int p] ∧ ProgAt H pl das ds ∧ ds[f]? = some d ∧ ProgFit ds ∧ d.2.2[k]? = some r ∧ ∀ H', Same H H' → Q (.bl (decide (p ∈ usI (ds.map (·.1)) d.1.2 r))) H'
set_option maxHeartbeats 2000000 in
theorem zcc (T : Txt K mg a) : FnOk P w K mg base CX0 3 a.f_law_used a.d_law_used ["program", "f", "at", "p"] sp_lused := by
 refine T.F_law_used.okC sc_law_used (fun vs H Q E h => ?_) (fun cdv A outer s H vs Q E hr h => ?_)
 ·obtain ⟨pl, f, k, p, das, ds, d, r, rfl, _⟩ := h
  rfl
 ·obtain ⟨pl, f, k, p, das, ds, d, r, rfl, PR, hd, PF, hr0, q⟩ := h
  have hu := zaX hr
  refine ⟨_, (@zag _ _ _ (zat (zcn op_in_seq (pv 3) (za3 (N' := ["place", "kind"]) (cap := [none, none]) ⟨rfl, (by decide +kernel), (by decide +kernel), (by rfl), rfl, (by rfl)⟩ (by rfl) (zaO (zam (zcw T) (hr.mono (by decide)) (by rfl) T.m_law_uses T.F_law_uses.kp T.b_law_uses .nil zaD (@zac _ _ _ _ _ _ (pv 0) (@zac _ _ _ _ _ _ (pv 1) (zad (zah ix_F (zah ix_F (zah ix_F (pv 0) (pv 1) (fun _ _ => rfl)) zaf (fun _ _ => rfl)) (pv 2) (fun _ _ => rfl)) pa_nil))))) (fun C_ ex_ s_ H_ => (zb0 (n := 2) (by rfl) (zaH (zav (i := 0) (show (["place", "kind"] : List Str).Nodup by decide +kernel) (by rfl) (Or.inl rfl)) (zaH (zav (i := 1) (show (["place", "kind"] : List Str).Nodup by decide +kernel) (by rfl) (Or.inl rfl)) pgs_nil)))) (zdc (zaY (by rfl) (zaY (by rfl) zb4))) (fun C_ ex_ s_ H_ => zaL) (fun C_ ex_ s_ H_ => (pv 0))) (by with_unfolding_all rfl)))), ?_⟩
  have N := DfFit.nd PF (List.mem_of_getElem? hd)
  obtain ⟨da, hda, a1, a2, RW⟩ := PR.get hd
  have top := PR.top
  have rt := RW.top
  obtain ⟨rp, hrp, ar, RA⟩ := RW.get hr0
  have RF := N.fit r (List.mem_of_getElem? hr0)
  simp! []
  refine zfm (fun ul H2 => ∃ rs0, Same H H2 ∧ Prs H2 ul (usV (ds.map (·.1)) d.1.2 r) rs0) (fun Q2 hQ => ?_) ?_
  ·simp! [top, a1, a2, rt, ar]
   exact ⟨pl, rp, f, das, ds, d, r, _, _, rfl, PR, hd, RA, RF, PF.sg, fun l rs H4 S4 P4 => hQ _ _ ⟨rs, S4, P4⟩⟩
  rintro ul HA ⟨us, SA, PU⟩
  have ulen : us.length = (usI (ds.map (·.1)) d.1.2 r).length := by rw [PU.len, ← List.length_map (f := (·.1)), zcy RF, List.length_map]
  have u6 := zcm (gives := d.1.2) RF PF.sg
  refine zdz (H1 := HA) ul (us.map V.ref) (fun Q2 h2 => h2) (.of PU.top) (fun D j ys H2 => ys = ((usI (ds.map (·.1)) d.1.2 r).take j).map V.int ∧ Same HA H2 ∧ H2 D = some (.lst ys))
   (fun D nD => ⟨rfl, .laid nD, zaa⟩) ?_ (by rw [sizeLine_eq, List.length_map]; omega) ?_ ?_
  ·rintro D nD j ys H2 hj ⟨rfl, S, hD⟩
   exact ⟨.of (S _ _ PU.top), hD, by rw [List.length_map, List.length_take]; omega⟩
  ·rintro D nD j x ys H2 hx ⟨rfl, S, hD⟩
   obtain ⟨ua, hua, rfl⟩ := zay hx
   have jl : j < us.length := (List.getElem?_eq_some_iff.mp hua).1
   obtain ⟨pv, hp⟩ : ∃ pv, (usV (ds.map (·.1)) d.1.2 r)[j]? = some pv := ⟨_, List.getElem?_eq_getElem (by rw [← PU.len]; exact jl)⟩
   obtain ⟨xv, hx2⟩ : ∃ xv, (usI (ds.map (·.1)) d.1.2 r)[j]? = some xv := ⟨_, List.getElem?_eq_getElem (by omega)⟩
   have ex : pv.1 = .int xv := by
    have := congrArg (fun l => l[j]?) (zcy (gives := d.1.2) RF)
    simp only [List.getElem?_map, hp, hx2, Option.map_some] at this
    exact Option.some.inj this
   refine zbA (S _ _ (PU.at_ j ua _ hua hp)) rfl ?_
   simp! [zaM, tTrue, ex]
   refine ⟨hD, ?_, zaz (fun c o e => S _ _ e) nD⟩
   rw [List.take_succ, hx2, List.map_append]; rfl
  rintro D nD ys HB ⟨rfl, SB, hD⟩
  rw [List.length_map, ulen, List.take_length] at hD
  have SB := SA.trans SB
  refine zch hD ?_
  rw [if_neg Bool.false_ne_true]
  exact q HB SB
end
section
variable {P : Program} {w : World} {K : PySem.W.Frag} {mg : Str → Option Value} {base : Heap} {a : Ad}
def Cls (R : RL) (ps : List Pr) (q : Pr) : Prop := ¬ UsAt R.1 R.2.1 R.2.2 q ∧ ∀ z : Pr, Goes R.2.2 q z.1 z.2 → z ∈ ps
theorem zfx {R : RL} {ps : List Pr} (h : ∀ q ∈ ps, Cls R ps q) {q : Pr} (n : Need R q) : q ∉ ps := by
 induction n with
 | use u => exact fun m => (h _ m).1 u
 | go g _ ih => exact fun m => ih ((h _ m).2 _ g)
structure CI (R : RL) (words : Int) (root : Pr) (ps T : List Pr) (z : Option Pr) : Prop where
 nd : ps.Nodup
 box : ∀ q ∈ ps, q.1 < R.2.2.length ∧ PlI words q.2
 sub : ∀ q ∈ T, q ∈ ps
 tn : T.Nodup
 rt : root ∈ ps
 ned : ∀ q ∈ ps, Need R q → Need R root
 clo : ∀ q ∈ ps, q ∈ T ∨ some q = z ∨ Cls R ps q
theorem CI.add {R : RL} {words : Int} {root z q : Pr} {ps T : List Pr} (x : CI R words root ps T (some z)) (zin : z ∈ ps) (g : Goes R.2.2 z q.1 q.2) (nq : q ∉ ps) (bx : q.1 < R.2.2.length ∧ PlI words q.2) : CI R words root (ps ++ [q]) (T ++ [q]) (some z) := by
 refine ⟨?_, fun p hp => ?_, fun p hp => ?_, ?_, List.mem_append_left _ x.rt, fun p hp n => ?_, fun p hp => ?_⟩
 ·rw [List.nodup_append]
  exact ⟨x.nd, by simp, fun u hu v hv => by rw [List.mem_singleton.mp hv]; exact fun e => nq (e ▸ hu)⟩
 ·rcases List.mem_append.mp hp with h | h
  ·exact x.box p h
  ·rw [List.mem_singleton.mp h]; exact bx
 ·rcases List.mem_append.mp hp with h | h
  ·exact List.mem_append_left _ (x.sub p h)
  ·exact List.mem_append_right _ h
 ·rw [List.nodup_append]
  exact ⟨x.tn, by simp, fun u hu v hv => by rw [List.mem_singleton.mp hv]; exact fun e => nq (e ▸ x.sub u hu)⟩
 ·rcases List.mem_append.mp hp with h | h
  ·exact x.ned p h n
  ·rw [List.mem_singleton.mp h] at n
   exact x.ned z zin (.go g n)
 ·rcases List.mem_append.mp hp with h | h
  ·rcases x.clo p h with h | h | h
   ·exact .inl (List.mem_append_left _ h)
   ·exact .inr (.inl h)
   ·exact .inr (.inr ⟨h.1, fun y hy => List.mem_append_left _ (h.2 y hy)⟩)
  ·exact .inl (List.mem_append_right _ h)
def sp_comes : Sp := fun vs H Q _ => ∃ (pl : Addr) (f k : Nat) (p : Int) (das : List (Addr × Addr × List Addr)) (ds : List Df) (d : Df), vs = [.ref pl, .int f, .int k, .int p] ∧ ProgAt H pl das ds ∧ ds[f]? = some d ∧ ProgFit ds ∧ k < d.2.2.length ∧ PlI d.2.1 p ∧
 ∀ (b : Bool) (H' : Hp), Same H H' → (b = true ↔ Need (ds.map (·.1), d.1.2, d.2.2) (k, p)) → Q (.bl b) H'
theorem zhH {c : Prop} [Decidable c] {x u : Int} (h : x ∈ (if c then [u] else ([] : List Int))) : x = u := by
 split at h
 ·exact List.mem_singleton.mp h
 ·cases h
theorem zis {words many : Int} {sg : List Sg} {r : Row} (F : zaI words many sg r) {p x : Int} (hp : PlI words p) (h : x ∈ trL r p) : PlI words x := by
 unfold trL at h
 rcases List.mem_append.mp h with h | h
 ·split at h
  ·cases h
  ·rw [List.mem_singleton.mp h]; exact hp
 ·by_cases c : r.1 = "copy"
  ·obtain ⟨u, v, er, u0, u1, _⟩ := zbN F c
   have ec : cpy r = some (u, v) := by unfold cpy; rw [if_pos c, er]
   rw [ec] at h
   dsimp only at h
   rw [zhH h]; exact ⟨u0, u1⟩
  ·have ec : cpy r = none := by unfold cpy; rw [if_neg c]
   rw [ec] at h
   cases h
end
section
variable {P : Program} {w : World} {K : PySem.W.Frag} {mg : Str → Option Value} {base : Heap} {a : Ad}
def comI (H : Hp) (pl D tl rl : Addr) (f k : Nat) (p : Int) (ds : List Df) (d : Df) (m : Nat) (σ : St) (H6 : Hp) : Prop := ∃ (ps T : List Pr) (tas : List Addr) (v7 v8 v9 v10 : Option V), σ = [some (V.ref pl), some (V.int f), some (V.int k), some (V.int p), some (V.ref rl), some (V.ref D), some (V.ref tl), v7, v8, v9, v10] ∧ m = 2 * (1000 - ps.length) + T.length ∧ StK H6 D ps ∧ PrI H6 tl tas T ∧ CI (ds.map (·.1), d.1.2, d.2.2) d.2.1 (k, p) ps T none ∧ Same H H6
def comN (H : Hp) (pl D tl rl : Addr) (f k : Nat) (p : Int) (ds : List Df) (d : Df) (m : Nat) (σ : St) (H6 : Hp) : Prop := ∃ m', m' < m ∧ comI H pl D tl rl f k p ds d m' σ H6
/-- within one turn -/
structure TI (H : Hp) (D tl : Addr) (k : Nat) (p : Int) (ds : List Df) (d : Df) (z : Pr) (n0 t0 : Nat) (ps T : List Pr) (tas : List Addr) (Hc : Hp) : Prop where
 st : StK Hc D ps
 pt : PrI Hc tl tas T
 ci : CI (ds.map (·.1), d.1.2, d.2.2) d.2.1 (k, p) ps T (some z)
 sm : Same H Hc
 zi : z ∈ ps
 cn : T.length + n0 = ps.length + t0
 cm : n0 ≤ ps.length
theorem TI.same {H : Hp} {D tl : Addr} {k : Nat} {p : Int} {ds : List Df} {d : Df} {z : Pr} {n0 t0 : Nat} {ps T : List Pr} {tas : List Addr} {Hc H' : Hp} (x : TI H D tl k p ds d z n0 t0 ps T tas Hc) (S : Same Hc H') : TI H D tl k p ds d z n0 t0 ps T tas H' := ⟨x.st.same S, x.pt.same S, x.ci, x.sm.trans S, x.zi, x.cn, x.cm⟩
set_option maxHeartbeats 4000000 in
theorem zdP (T : Txt K mg a) : FnOk P w K mg base CX0 4 a.f_law_comes a.d_law_comes ["program", "f", "at", "p"] sp_comes := by
 refine T.F_law_comes.okC sc_law_comes (fun vs H Q E h => ?_) (fun cdv A outer s H vs Q E hr h => ?_)
 ·obtain ⟨pl, f, k, p, das, ds, d, rfl, _⟩ := h
  rfl
 ·obtain ⟨pl, f, k, p, das, ds, d, rfl, PR, hd, PF, kl, pp, q⟩ := h
  have hu := zaX hr
  refine ⟨_, (@zae _ _ _ _ _ (zaC (i := 4) sc_law_comes.nd (by rfl) (Or.inl rfl) (zah ix_F (zah ix_F (pv 0) (pv 1) (fun _ _ => rfl)) zaf (fun _ _ => rfl)))
   (@zae _ _ _ _ _ (zaC (i := 5) sc_law_comes.nd (by rfl) (Or.inl rfl) (zfh hu (zax (@zac _ _ _ _ _ _ (pv 2) (@zac _ _ _ _ _ _ (pv 3) pa_nil))) zcB))
   (@zae _ _ _ _ _ (@zef _ 6 _ _ _ _ _ _ sc_law_comes.nd (by rfl) (Or.inl rfl) (zad (zax (@zac _ _ _ _ _ _ (pv 2) (@zac _ _ _ _ _ _ (pv 3) pa_nil))) pa_nil) (by first | exact .inl (by rfl) | exact .inr (by rfl) | assumption))
   (@zae _ _ _ _ _ (zdj PassesOwn.never (zar (zg5 hu) (pv 6) (zaA pa_nil) (zaB _)) (@zae _ _ _ _ _ (zcH (ziC PySem.F.plainAttrs_list PySem.F.slot_list_pop PySem.F.type_list_pop mt_pop (pv 6)) (zb0 (n := 2) (by rfl) (zaH (zav (i := 7) sc_law_comes.nd (by rfl) (Or.inl rfl)) (zaH (zav (i := 8) sc_law_comes.nd (by rfl) (Or.inl rfl)) pgs_nil))))
   (@zae _ _ _ _ _ (@zaN _ _ _ _ _ _ _ _ (zbD (zam (zcc T) (hr.mono (by decide)) (by rfl) T.m_law_used T.F_law_used.kp T.b_law_used .nil zaD (@zac _ _ _ _ _ _ (pv 0) (@zac _ _ _ _ _ _ (pv 1) (@zac _ _ _ _ _ _ (pv 7) (@zac _ _ _ _ _ _ (pv 8) pa_nil)))))) (@zag _ _ _ (zat zcB)) pss_nil)
   (@zag _ _ _ (za0 PassesOwn.never (by rfl) (zaO (zam (zbd T) (hr.mono (by decide)) (by rfl) T.m_law_travelled T.F_law_travelled.kp T.b_law_travelled .nil zaD (zad (zah ix_F (pv 4) (pv 7) (fun _ _ => rfl)) (@zac _ _ _ _ _ _ (pv 8) pa_nil)))) (zav (i := 9) sc_law_comes.nd (by rfl) (Or.inl rfl))
   (@zag _ _ _ (za0 PassesOwn.never (by rfl) (zaO (zam (zbZ T) (hr.mono (by decide)) (by rfl) T.m_law_nexts T.F_law_nexts.kp T.b_law_nexts .nil zaD (@zac _ _ _ _ _ _ (pv 4) (@zac _ _ _ _ _ _ (pv 7) pa_nil)))) (zav (i := 10) sc_law_comes.nd (by rfl) (Or.inl rfl))
   (@zag _ _ _ (@zaN _ _ _ _ _ _ _ _ (zcs (zcr hu (zax (@zac _ _ _ _ _ _ (pv 10) (@zac _ _ _ _ _ _ (pv 9) pa_nil))) (pv 5))) (@zae _ _ _ _ _ (zec hu (pv 5) (zax (@zac _ _ _ _ _ _ (pv 10) (@zac _ _ _ _ _ _ (pv 9) pa_nil))) zcB (by rfl))
   (@zag _ _ _ (zaS (zbq PySem.F.plainAttrs_list PySem.F.slot_list_append PySem.F.type_list_append mt_append (pv 6) (zad (zax (@zac _ _ _ _ _ _ (pv 10) (@zac _ _ _ _ _ _ (pv 9) pa_nil))) pa_nil))))) pss_nil)))))))))
   (@zag _ _ _ (zat zcB)))))), ?_⟩
  have N := DfFit.nd PF (List.mem_of_getElem? hd)
  have n40 := N.n40
  obtain ⟨da, hda, a1, a2, RW⟩ := PR.get hd
  have top := PR.top
  generalize hG : tSeq (tAsg (zd9 _ _) _) _ = tail
  simp! [top, a1, a2]
  subst hG
  generalize hG : tSeq (zej _ _) _ = tail
  simp! [zd9, tPairs]
  intro D nD t1 n1
  have e1 : upd (upd H D (.dT [])) t1 (.tup [V.int k, V.int p]) t1 = some (.tup [V.int k, V.int p]) := zaa
  have eD : upd (upd H D (.dT [])) t1 (.tup [V.int k, V.int p]) D = some (.dT []) := zab zaa n1
  refine ⟨.bl true, t1, rfl, kk (k, p), e1, eD, ?_⟩
  intro t2 n2 tl n3
  have S0 : Same H (upd (upd H D (.dT [])) t1 (.tup [V.int k, V.int p])) := (Same.laid nD).step n1
  have S1 : Same H (upd (upd (upd H D (.dT [])) t1 (.tup [V.int k, V.int p])) D (.dT [(kk (k, p), V.bl true)])) := zaz S0 nD
  have S2 := (S1.step n2 (u := .tup [V.int k, V.int p])).step n3 (u := .lst [V.ref t2])
  have ntl : H tl = none := (S1.step n2 (u := .tup [V.int k, V.int p])).free n3
  have ST : StK (upd (upd (upd (upd (upd H D (.dT [])) t1 (.tup [V.int k, V.int p])) D (.dT [(kk (k, p), V.bl true)])) t2 (.tup [V.int k, V.int p])) tl (.lst [V.ref t2])) D [(k, p)] := ⟨_, zab (zab zaa n2) n3, rfl⟩
  have PT : PrI (upd (upd (upd (upd (upd H D (.dT [])) t1 (.tup [V.int k, V.int p])) D (.dT [(kk (k, p), V.bl true)])) t2 (.tup [V.int k, V.int p])) tl (.lst [V.ref t2])) tl [t2] [(k, p)] := ⟨zaa, rfl, fun i a q h1 h2 => by
   match i, h1, h2 with
   | 0, h1, h2 => cases h1; cases h2; exact zab zaa n3
   | i + 1, h1, h2 => simp at h1⟩
  revert S2 ST PT
  generalize upd (upd (upd (upd (upd H D (.dT [])) t1 (.tup [V.int k, V.int p])) D (.dT [(kk (k, p), V.bl true)])) t2 (.tup [V.int k, V.int p])) tl (.lst [V.ref t2]) = H2
  intro S2 ST PT
  clear S0 S1 e1 eD n1 n2 n3
  have C0 : CI (ds.map (·.1), d.1.2, d.2.2) d.2.1 (k, p) [(k, p)] [(k, p)] none := ⟨by simp, fun q hq => by rw [List.mem_singleton.mp hq]; exact ⟨kl, pp⟩, fun q hq => hq, by simp, by simp, fun q hq n => by rw [List.mem_singleton.mp hq] at n; exact n, fun q hq => .inl hq⟩
  subst hG
  generalize hG : tRet _ = tail
  refine ⟨comI H pl D tl da.2.1 f k p ds d, ⟨_, _, _, _, _, _, _, _, rfl, rfl, ST, PT, C0, S2⟩, ?_⟩
  clear S2 ST PT C0
  rintro m σ H6 ⟨ps, T, tas, v7, v8, v9, v10, rfl, rfl, ST, PT, CIx, S6⟩
  have ptop := PT.top
  have lT := PT.len
  have lps := zba N.w1 n40 CIx.nd CIx.box
  have tlD : tl ≠ D := fun e => by obtain ⟨kv, g1, _⟩ := ST; rw [e, g1] at ptop; cases ptop
  have todoT : T = [] ∨ ∃ T0 z, T = T0 ++ [z] := by
   rcases List.eq_nil_or_concat T with e | ⟨x, y, e⟩
   ·exact .inl e
   ·exact .inr ⟨x, y, by rw [e, List.concat_eq_append]⟩
  generalize hG2 : tSeq (tAsg _ _) _ = tail2
  simp! []
  intro e0 ne0
  have S60 : Same H6 (upd H6 e0 (.lst [])) := .laid ne0
  have ST := ST.same S60
  have PT := PT.same S60
  have S6 := S6.trans S60
  revert ST PT S6
  generalize upd H6 e0 (.lst []) = H7
  intro ST PT S6
  clear S60 ne0 ptop
  have ptop := PT.top
  refine ⟨tas.map V.ref, by rw [ptop]; rfl, by rw [ptop]; rfl, ?_⟩
  rcases todoT with eT | ⟨T0, z, eT⟩
  ·have et : tas = [] := List.eq_nil_of_length_eq_zero (by rw [lT, eT]; rfl)
   subst eT
   subst et
   rw [if_neg (by simp)]
   refine q false H7 S6 ⟨(fun h => by cases h), fun n => ?_⟩
   exact absurd CIx.rt (zfx (fun q hq => (CIx.clo q hq).elim (fun h => by cases h) fun h => h.elim (fun h => by cases h) id) n)
  ·obtain ⟨tas0, t6, ewas⟩ : ∃ was0 t6, tas = was0 ++ [t6] := by
    rcases List.eq_nil_or_concat tas with e | ⟨x, y, e⟩
    ·rw [e, eT] at lT; simp at lT
    ·exact ⟨x, y, by rw [e, List.concat_eq_append]⟩
   have l0 : tas0.length = T0.length := by rw [ewas, eT] at lT; simpa using lT
   rw [if_pos (by rw [ewas]; simp)]
   have e6 : H7 t6 = some (.tup [.int z.1, .int z.2]) := PT.at_ T0.length t6 z (by rw [ewas, List.getElem?_append_right (by omega), l0]; simp) (by rw [eT, List.getElem?_append_right (Nat.le_refl _)]; simp)
   have zin : z ∈ ps := CIx.sub z (by rw [eT]; simp)
   obtain ⟨zl, zp⟩ := CIx.box z zin
   have zl : z.1 < d.2.2.length := zl
   have F8 : Fr (· = tl) H7 (upd H7 tl (.lst (tas.map V.ref).dropLast)) := .put rfl (zaP ptop)
   have TI8 : TI H D tl k p ds d z ps.length T0.length ps T0 tas0 (upd H7 tl (.lst (tas.map V.ref).dropLast)) := by
    refine ⟨ST.fr F8 (Ne.symm tlD), ⟨by rw [zaa, ewas, List.map_append]; simp, l0, fun i b pr h1 h2 => ?_⟩, ⟨CIx.nd, CIx.box, fun q hq => CIx.sub q (by rw [eT]; exact List.mem_append_left _ hq), by have := CIx.tn; rw [eT] at this; exact (List.nodup_append.mp this).1, CIx.rt, CIx.ned, fun q hq => ?_⟩, zaz (fun c o e => S6 _ _ e) ntl, zin, Nat.add_comm _ _, Nat.le_refl _⟩
    ·refine F8.tups _ _ (PT.at_ i b pr ?_ ?_)
     ·rw [ewas, List.getElem?_append_left (List.getElem?_eq_some_iff.mp h1).1]; exact h1
     ·rw [eT, List.getElem?_append_left (List.getElem?_eq_some_iff.mp h2).1]; exact h2
    ·rcases CIx.clo q hq with h | h | h
     ·rw [eT] at h
      rcases List.mem_append.mp h with h | h
      ·exact .inl h
      ·exact .inr (.inl (by rw [List.mem_singleton.mp h]))
     ·cases h
     ·exact .inr (.inr h)
   obtain ⟨r, hr0⟩ : ∃ r, d.2.2[z.1]? = some r := ⟨_, List.getElem?_eq_getElem zl⟩
   have RF := N.fit r (List.mem_of_getElem? hr0)
   have e8 := F8.tups _ _ e6
   refine ⟨comN H pl D tl da.2.1 f k p ds d (2 * (1000 - ps.length) + T.length), fun σ' H' h => h, ?_⟩
   subst hG2
   generalize hG2 : tSeq (tIfS _ _ _) _ = tail2
   simp! [tBM0]
   refine ⟨.inl ⟨rfl, _, .of ptop⟩, tl, _, .ref t6, rfl, rfl, ptop, by rw [ewas, List.map_append]; simp, ?_⟩
   refine zbA e8 rfl ?_
   revert TI8 e8
   generalize upd H7 tl (.lst (tas.map V.ref).dropLast) = H8
   intro TI8 e8
   clear F8 e6 ptop PT ST S6 CIx lT
   subst hG2
   generalize hG2 : tFor _ _ _ = tail2
   simp! []
   refine ⟨pl, f, z.1, z.2, das, ds, d, r, rfl, PR.same TI8.sm, hd, PF, hr0, fun H9 S9 => ?_⟩
   have TI9 := TI8.same S9
   by_cases cu : z.2 ∈ usI (ds.map (·.1)) d.1.2 r
   ·rw [decide_eq_true cu]
    refine ⟨true, rfl, ?_⟩
    rw [if_pos rfl]
    subst hG
    exact q true H9 TI9.sm ⟨fun _ => TI9.ci.ned z zin (.use ⟨r, hr0, cu⟩), fun _ => rfl⟩
   ·rw [decide_eq_false cu]
    refine ⟨false, rfl, ?_⟩
    rw [if_neg (by simp)]
    subst hG2
    have RWc := RW.same TI9.sm
    have rt := RWc.top
    obtain ⟨rp, hrp, ar, RA⟩ := RWc.get hr0
    refine zfb (fun gl H3 => H9 gl = none ∧ Same H9 H3 ∧ H3 gl = some (.lst ((trL r z.2).map V.int))) (fun Q2 hQ => ?_) ?_
    ·simp! [rt, ar]
     exact ⟨rp, r, z.2, _, _, _, rfl, RA, RF, fun l H' n S e => hQ l H' ⟨n, S, e⟩⟩
    rintro gl H3 ⟨ngl, S3, e3⟩
    have TI3 := TI9.same S3
    have glD : gl ≠ D := fun e => by obtain ⟨kv, g1, _⟩ := TI9.st; rw [e, g1] at ngl; cases ngl
    have gltl : gl ≠ tl := fun e => by rw [e, TI9.pt.top] at ngl; cases ngl
    have nH : gl ≠ D ∧ gl ≠ tl := ⟨glD, gltl⟩
    clear TI8 TI9 S9 RWc rt ar RA hrp e8 hu
    have hu := zaX hr
    refine forL (H1 := H3) gl ((trL r z.2).map V.int) (fun Q2 h2 => h2) (fun i σ Hc => ∃ (ps' T' : List Pr) (tas' : List Addr) (v9 v10 : Option V), σ = [some (V.ref pl), some (V.int f), some (V.int k), some (V.int p), some (V.ref da.2.1), some (V.ref D), some (V.ref tl), some (V.int z.1), some (V.int z.2), v9, v10] ∧ TI H D tl k p ds d z ps.length T0.length ps' T' tas' Hc ∧ Hc gl = some (.lst ((trL r z.2).map V.int)) ∧ ∀ x ∈ (trL r z.2).take i, ∀ t ∈ nxt r z.1, (t.toNat, x) ∈ ps')
     ⟨ps, T0, tas0, _, _, rfl, TI3, e3, fun x hx => by simp at hx⟩ (fun i σ Hc _ ⟨_, _, _, _, _, _, _, h, _⟩ => .of h) ?_ ?_
    ·rintro i x σ Hc hx ⟨ps', T', tas', v9, v10, rfl, TIc, ec, dn⟩
     obtain ⟨x, hx', rfl⟩ := zay hx
     have xm := List.mem_of_getElem? hx'
     have xp := zis RF zp xm
     have sx := (zdZ RF).mp xm
     simp! []
     refine zfb (fun nl H4 => Hc nl = none ∧ Same Hc H4 ∧ H4 nl = some (.lst ((nxt r z.1).map V.int))) (fun Q2 hQ => ?_) ?_
     ·simp! []
      exact ⟨da.2.1, z.1, da.2.2, d.2.2, r, d.2.1, d.2.2.length, ds.map (·.1), rfl, RW.same TIc.sm, hr0, RF, by omega, by omega, fun l H5 n S5 e5 => hQ _ _ ⟨n, S5, e5⟩⟩
     rintro nl H4 ⟨nnl, S4, e4⟩
     have TI4 := TIc.same S4
     have nlD : nl ≠ D := fun e => by obtain ⟨kv, g1, _⟩ := TIc.st; rw [e, g1] at nnl; cases nnl
     have nltl : nl ≠ tl := fun e => by rw [e, TIc.pt.top] at nnl; cases nnl
     have eg4 := S4 _ _ ec
     refine forL (H1 := H4) nl ((nxt r z.1).map V.int) (fun Q2 h2 => h2) (fun j σ Hd => ∃ (ps' T' : List Pr) (tas' : List Addr) (v10 : Option V), σ = [some (V.ref pl), some (V.int f), some (V.int k), some (V.int p), some (V.ref da.2.1), some (V.ref D), some (V.ref tl), some (V.int z.1), some (V.int z.2), some (V.int x), v10] ∧ TI H D tl k p ds d z ps.length T0.length ps' T' tas' Hd ∧ Hd gl = some (.lst ((trL r z.2).map V.int)) ∧ Hd nl = some (.lst ((nxt r z.1).map V.int)) ∧ (∀ x ∈ (trL r z.2).take i, ∀ t ∈ nxt r z.1, (t.toNat, x) ∈ ps') ∧ ∀ t ∈ (nxt r z.1).take j, (t.toNat, x) ∈ ps')
      ⟨ps', T', tas', _, rfl, TI4, eg4, e4, dn, fun t ht => by simp at ht⟩ (fun j σ Hd _ ⟨_, _, _, _, _, _, _, h, _⟩ => .of h) ?_ ?_
     ·rintro j t σ Hd ht ⟨ps', T', tas', v10, rfl, TId, egd, end_, dn, dn2⟩
      obtain ⟨t, ht', rfl⟩ := zay ht
      have tb := zhg N.last N.fit hr0 t (List.mem_of_getElem? ht')
      obtain ⟨tN, rfl⟩ := Int.eq_ofNat_of_zero_le tb.1
      have tk : (nxt r z.1).take (j + 1) = (nxt r z.1).take j ++ [(tN : Int)] := by rw [List.take_succ, ht']; rfl
      have lps' := zba N.w1 n40 TId.ci.nd TId.ci.box
      have lTp := TId.cn
      have lTq := zbk TId.ci.tn TId.ci.sub
      simp! [zdb]
      intro u1 m1
      have Su : Same Hd (upd Hd u1 (.tup [V.int tN, V.int x])) := .laid m1
      have eu : upd Hd u1 (.tup [V.int tN, V.int x]) u1 = some (.tup [V.int tN, V.int x]) := zaa
      have TIe := TId.same Su
      have ege := Su _ _ egd
      have ene := Su _ _ end_
      revert eu TIe ege ene
      generalize upd Hd u1 (.tup [V.int tN, V.int x]) = He
      intro eu TIe ege ene
      obtain ⟨o, go, so⟩ := TIe.st.get (q := (tN, x)) (b := u1) eu
      refine ⟨o, go, ?_⟩
      rw [so]
      by_cases cq : (tN, x) ∈ ps'
      ·rw [decide_eq_true cq, if_neg (by simp)]
       refine ⟨ps', T', tas', TIe, ege, ene, dn, fun t ht => ?_⟩
       rw [tk] at ht
       rcases List.mem_append.mp ht with h | h
       ·exact dn2 t h
       ·rw [List.mem_singleton.mp h]; exact cq
      ·rw [decide_eq_false cq, if_pos rfl]
       simp! [zgw]
       intro u2 m2
       have Sv : Same He (upd He u2 (.tup [V.int tN, V.int x])) := .laid m2
       have ev : upd He u2 (.tup [V.int tN, V.int x]) u2 = some (.tup [V.int tN, V.int x]) := zaa
       have TIf := TIe.same Sv
       have egf := Sv _ _ ege
       have enf := Sv _ _ ene
       revert ev TIf egf enf
       generalize upd He u2 (.tup [V.int tN, V.int x]) = Hf
       intro ev TIf egf enf
       obtain ⟨Hg, Pg, STg, kg⟩ := TIf.st.put (by omega) (q := (tN, x)) (v := .bl true) cq ev
       refine ⟨Hg, Pg, ?_⟩
       simp! [tBM]
       have tpg : ∀ (c : Addr) (xs : List V), Hf c = some (.tup xs) → Hg c = some (.tup xs) := fun c xs h => by rw [kg c (fun e => by obtain ⟨kv, g1, _⟩ := TIf.st; rw [e, g1] at h; cases h)]; exact h
       have topg : Hg tl = some (.lst (tas'.map V.ref)) := by rw [kg _ tlD]; exact TIf.pt.top
       refine ⟨.inl ⟨rfl, _, .of topg⟩, fun u3 m3 => ?_⟩
       have Sw : Same Hg (upd Hg u3 (.tup [V.int tN, V.int x])) := .laid m3
       have ew : upd Hg u3 (.tup [V.int tN, V.int x]) u3 = some (.tup [V.int tN, V.int x]) := zaa
       have STw := STg.same Sw
       have toph := Sw _ _ topg
       have tph : ∀ (c : Addr) (xs : List V), Hf c = some (.tup xs) → upd Hg u3 (.tup [V.int tN, V.int x]) c = some (.tup xs) := fun c xs h => Sw _ _ (tpg c xs h)
       have SmD : Same H (upd Hg u3 (.tup [V.int tN, V.int x])) := fun c o e => Sw _ _ (by rw [kg c (fun z => by rw [z, nD] at e; cases e)]; exact TIf.sm _ _ e)
       have egh : upd Hg u3 (.tup [V.int tN, V.int x]) gl = some (.lst ((trL r z.2).map V.int)) := Sw _ _ (by rw [kg _ glD]; exact egf)
       have enh : upd Hg u3 (.tup [V.int tN, V.int x]) nl = some (.lst ((nxt r z.1).map V.int)) := Sw _ _ (by rw [kg _ nlD]; exact enf)
       revert ew STw toph tph SmD egh enh
       generalize upd Hg u3 (.tup [V.int tN, V.int x]) = Hh
       intro ew STw toph tph SmD egh enh
       have lpt := TIf.pt.len
       refine ⟨tl, _, _, rfl, rfl, toph, by rw [sizeLine_eq, List.length_map, lpt]; omega, ?_⟩
       have Fh : Fr (· = tl) Hh (upd Hh tl (.lst (tas'.map V.ref ++ [V.ref u3]))) := .put rfl (zaP toph)
       have go2 : Goes d.2.2 z tN x := ⟨⟨r, hr0, List.mem_of_getElem? ht'⟩, r, hr0, sx⟩
       refine ⟨ps' ++ [(tN, x)], T' ++ [(tN, x)], tas' ++ [u3], ⟨STw.fr Fh (Ne.symm tlD), ?_, TIf.ci.add TIf.zi go2 cq ⟨show tN < d.2.2.length by omega, xp⟩, zaz SmD ntl, List.mem_append_left _ TIf.zi, ?_, ?_⟩, Fh.keep _ _ egh gltl, Fh.keep _ _ enh nltl, fun y hy t ht => List.mem_append_left _ (dn y hy t ht), fun t ht => ?_⟩
       ·have pth : PrI Hh tl tas' T' := ⟨toph, lpt, fun i b pr h1 h2 => tph _ _ (TIf.pt.at_ i b pr h1 h2)⟩
        exact pth.app (m := tl) (bs := [u3]) (qs := [(tN, x)]) rfl (fun i b pr h1 h2 => by
         match i, h1, h2 with
         | 0, h1, h2 => cases h1; cases h2; exact Fh.tups _ _ ew
         | i + 1, h1, h2 => simp at h1) (fun c xs h => Fh.tups c xs h) (by rw [zaa, List.map_append]; rfl)
       ·rw [List.length_append, List.length_append, List.length_singleton]; omega
       ·rw [List.length_append]; have := TIf.cm; omega
       ·rw [tk] at ht
        rcases List.mem_append.mp ht with h | h
        ·exact List.mem_append_left _ (dn2 t h)
        ·rw [List.mem_singleton.mp h]; simp
     ·rintro σ Hd ⟨ps', T', tas', v10, rfl, TId, egd, end_, dn, dn2⟩
      rw [List.length_map, List.take_length] at dn2
      refine ⟨ps', T', tas', _, _, rfl, TId, egd, fun y hy => ?_⟩
      rw [List.take_succ, hx'] at hy
      rcases List.mem_append.mp hy with h | h
      ·exact dn y h
      ·rw [List.mem_singleton.mp h]; exact dn2
    ·rintro σ Hc ⟨ps', T', tas', v9, v10, rfl, TIc, ec, dn⟩
     rw [List.length_map, List.take_length] at dn
     have l1 := TIc.cn
     have l2 := TIc.cm
     have l3 := zba N.w1 n40 TIc.ci.nd TIc.ci.box
     refine ⟨_, ?_, ps', T', tas', _, _, _, _, rfl, rfl, TIc.st, TIc.pt, ⟨TIc.ci.nd, TIc.ci.box, TIc.ci.sub, TIc.ci.tn, TIc.ci.rt, TIc.ci.ned, fun q hq => ?_⟩, TIc.sm⟩
     ·rw [eT, List.length_append, List.length_singleton]; omega
     ·rcases TIc.ci.clo q hq with h | h | h
      ·exact .inl h
      ·refine .inr (.inr ?_)
       rw [Option.some.inj h]
       refine ⟨fun u => ?_, fun y gy => ?_⟩
       ·obtain ⟨r', e1, e2⟩ := u
        rw [show d.2.2[z.1]? = some r from hr0] at e1
        cases e1
        exact cu e2
       ·obtain ⟨⟨r', e1, e2⟩, r'', e3, e4⟩ := gy
        rw [show d.2.2[z.1]? = some r from hr0] at e1 e3
        cases e1
        cases e3
        have := dn y.2 ((zdZ RF).mpr e4) y.1 e2
        rw [Int.toNat_natCast] at this
        exact this
      ·exact .inr (.inr h)
end
section
variable {P : Program} {w : World} {K : PySem.W.Frag} {mg : Str → Option Value} {base : Heap} {a : Ad}
theorem zgk (xs : List V) (k : Nat) : cutV xs (some (k : Int)) none = xs.drop k := by
 unfold cutV
 rw [HT.sIx_nat, HT.sIx_none, List.take_of_length_le (by rw [List.length_drop]; omega)]
 by_cases c : k ≤ xs.length
 ·rw [Nat.min_eq_left c]
 ·rw [Nat.min_eq_right (by omega), List.drop_of_length_le (Nat.le_refl _), List.drop_of_length_le (by omega)]
theorem zgO {xs : List V} {ys : List V} (h : ys.length = 1 := by simp) : cutV (xs ++ ys) none (some (-1)) = xs := by
 unfold cutV HT.sIx
 simp [h]
 rw [show (-1 + ((xs.length : Int) + 1)).toNat = xs.length by omega, List.take_left']
 rfl
theorem forZ_ {K : PySem.W.Frag} {ta : TA} {g : TG} {tb : TS} {D : Ends} {σ : St} {H : Hp} (Pre : Addr → Addr → Hp → Prop) (hr : ∀ Q, (∀ a b H1, Pre a b H1 → Q [.ref a, .ref b] H1) → ta σ H Q)
  (h : ∀ a b H1, Pre a b H1 → tFor (iZip K (zcD (tC (.ref a)) (zcD (tC (.ref b)) tNil))) g tb D σ H1) : tFor (iZip K ta) g tb D σ H := hr _ fun a b H1 p => h a b H1 p
def sp_walked : Sp := fun vs H Q _ => ∃ (pl l : Addr) (f k : Nat) (p : Int) (das : List (Addr × Addr × List Addr)) (ds : List Df) (d : Df) (as : List Addr) (way : List Pr), vs = [.ref pl, .int f, .int k, .int p, .ref l] ∧ ProgAt H pl das ds ∧ ds[f]? = some d ∧ ProgFit ds ∧ PrI H l as way ∧ WayOk (ds.map (·.1), d.1.2, d.2.2) (k, p) way ∧ ∀ H', Same H H' → Q (.bl true) H'
set_option maxHeartbeats 4000000 in
theorem zcZ (T : Txt K mg a) : FnOk P w K mg base CX0 4 a.f_law_walked a.d_law_walked ["program", "f", "at", "p", "way"] sp_walked := by
 refine T.F_law_walked.okC sc_law_walked (fun vs H Q E h => ?_) (fun cdv A outer s H vs Q E hr h => ?_)
 ·obtain ⟨pl, l, f, k, p, das, ds, d, as, way, rfl, _⟩ := h
  rfl
 ·obtain ⟨pl, l, f, k, p, das, ds, d, as, way, rfl, PR, hd, PF, PY, WO, q⟩ := h
  have hu := zaX hr
  refine ⟨_, (@zae _ _ _ _ _ (zaC (i := 5) sc_law_walked.nd (by rfl) (Or.inl rfl) (zah ix_F (zah ix_F (pv 0) (pv 1) (fun _ _ => rfl)) zaf (fun _ _ => rfl)))
   (@zae _ _ _ _ _ (@zaN _ _ _ _ _ _ _ _ (PW.pt (zcS (zcv (zbD (zaE call_isF (by rfl) T.z_isinstance (by decide +kernel) (@zac _ _ _ _ _ _ (pv 4) (@zac _ _ _ _ _ _ (zc3 (v := .ty "list") (u := .type "list") (by rfl) T.z_list (by decide +kernel) (by rfl)) pa_nil))))) (zck (zar (zig hu) (pv 4) (zaA pa_nil) (zaB _))))) (@zag _ _ _ (zat zcB)) pss_nil)
   (@zae _ _ _ _ _ (za0 PassesOwn.never (by rfl) (zaO (pv 4)) (zav (i := 6) sc_law_walked.nd (by rfl) (Or.inl rfl))
   (@zag _ _ _ (@zaN _ _ _ _ _ _ _ _ (PW.pt (zcS (zcv (zbD (zaE call_isF (by rfl) T.z_isinstance (by decide +kernel) (@zac _ _ _ _ _ _ (pv 6) (@zac _ _ _ _ _ _ (zc3 (v := .ty "tuple") (u := .type "tuple") (by rfl) T.z_tuple (by decide +kernel) (by rfl)) pa_nil))))) (zcS (zar op_ne (zaE call_lenF (by rfl) T.z_len (by decide +kernel) (@zac _ _ _ _ _ _ (pv 6) pa_nil)) zaf (zaB _)) (zcS (zcv (zbD (zam (zbW T) (hr.mono (by decide)) (by rfl) T.m_law_whole T.F_law_whole.kp T.b_law_whole .nil zaD (zad (zah ix_F (pv 6) zaf (fun _ _ => rfl)) pa_nil)))) (zck (zcv (zbD (zam (zbW T) (hr.mono (by decide)) (by rfl) T.m_law_whole T.F_law_whole.kp T.b_law_whole .nil zaD (zad (zah ix_F (pv 6) zaf (fun _ _ => rfl)) pa_nil))))))))) (@zag _ _ _ (zat zcB)) pss_nil)))
   (@zae _ _ _ _ _ (@zaN _ _ _ _ _ _ _ _ (PW.pt (zcS (zar (zh7 hu) (zah ix_F (pv 4) zaf (fun _ _ => rfl)) (zax (@zac _ _ _ _ _ _ (pv 2) (@zac _ _ _ _ _ _ (pv 3) pa_nil))) (zaB _)) (zck (zar op_ne (zaE call_lenSet (by rfl) T.z_len (by decide +kernel) (zad (za1 (zc4 (by rfl) hr.units) (by rfl) T.z_set (by decide +kernel) (@zac _ _ _ _ _ _ (pv 4) pa_nil)) pa_nil)) (zaE call_lenF (by rfl) T.z_len (by decide +kernel) (@zac _ _ _ _ _ _ (pv 4) pa_nil)) (zaB _))))) (@zag _ _ _ (zat zcB)) pss_nil)
   (@zae _ _ _ _ _ (za0 PassesOwn.never (by rfl) (zhs (by rfl) T.z_zip (zad (zbG sl_list (pv 4) po_none (zcz (zeb un_neg zaf))) (zad (zbG sl_list (pv 4) (zcz zaf) po_none) pa_nil))) (zb0 (n := 2) (by rfl) (zaH (zav (i := 7) sc_law_walked.nd (by rfl) (Or.inl rfl)) (zaH (zav (i := 8) sc_law_walked.nd (by rfl) (Or.inl rfl)) pgs_nil)))
   (@zag _ _ _ (@zaN _ _ _ _ _ _ _ _ (PW.pt (zcS (zar op_notIn_seq (zah ix_F (pv 8) zaf (fun _ _ => rfl)) (zam (zbZ T) (hr.mono (by decide)) (by rfl) T.m_law_nexts T.F_law_nexts.kp T.b_law_nexts .nil zaD (@zac _ _ _ _ _ _ (pv 5) (zad (zah ix_F (pv 7) zaf (fun _ _ => rfl)) pa_nil))) (by with_unfolding_all rfl)) (zck (zar op_notIn_seq (zah ix_F (pv 8) zaf (fun _ _ => rfl)) (zam (zbd T) (hr.mono (by decide)) (by rfl) T.m_law_travelled T.F_law_travelled.kp T.b_law_travelled .nil zaD (zad (zah ix_F (pv 5) (zah ix_F (pv 7) zaf (fun _ _ => rfl)) (fun _ _ => rfl)) (zad (zah ix_F (pv 7) zaf (fun _ _ => rfl)) pa_nil))) (by with_unfolding_all rfl))))) (@zag _ _ _ (zat zcB)) pss_nil)))
   (@zag _ _ _ (zat (zam (zcc T) (hr.mono (by decide)) (by rfl) T.m_law_used T.F_law_used.kp T.b_law_used .nil zaD (@zac _ _ _ _ _ _ (pv 0) (@zac _ _ _ _ _ _ (pv 1) (zad (zah ix_F (zah ix_F (pv 4) (zeb un_neg zaf) (fun _ _ => rfl)) zaf (fun _ _ => rfl)) (zad (zah ix_F (zah ix_F (pv 4) (zeb un_neg zaf) (fun _ _ => rfl)) zaf (fun _ _ => rfl)) pa_nil)))))))))))), ?_⟩
  have N := DfFit.nd PF (List.mem_of_getElem? hd)
  have n40 := N.n40
  obtain ⟨da, hda, a1, a2, RW⟩ := PR.get hd
  have top := PR.top
  have wt := PY.top
  have wl := PY.len
  obtain ⟨W1, eW⟩ : ∃ W1, way = (k, p) :: W1 := by
   have := WO.hd
   cases way with
   | nil => cases this
   | cons x r => cases this; exact ⟨r, rfl⟩
  obtain ⟨t0, as1, eas⟩ : ∃ t0 as1, as = t0 :: as1 := by
   cases as with
   | nil => rw [eW] at wl; simp at wl
   | cons x r => exact ⟨x, r, rfl⟩
  have e0 : H t0 = some (.tup [.int k, .int p]) := PY.at_ 0 t0 (k, p) (by rw [eas]; rfl) (by rw [eW]; rfl)
  generalize hG : tSeq (tFor _ _ _) _ = tail
  simp! [top, a1, a2, wt]
  intro x0 nx0
  have S0 : Same H (upd H x0 (.lst [])) := .laid nx0
  revert S0
  generalize upd H x0 (.lst []) = H1
  intro S0
  refine ⟨as.map V.ref, by rw [S0 _ _ wt]; rfl, by rw [S0 _ _ wt]; rfl, ?_⟩
  rw [if_neg (by rw [eas]; simp)]
  clear nx0
  subst hG
  generalize hG : tSeq (tIfS _ _ _) _ = tail
  refine forL (H1 := H1) l (as.map V.ref) (fun Q2 h2 => by simp! []; exact h2) (fun i σ Hc => ∃ (v6 : Option V), σ = [some (V.ref pl), some (V.int f), some (V.int k), some (V.int p), some (V.ref l), some (V.ref da.2.1), v6, none, none] ∧ Same H Hc) ⟨_, rfl, S0⟩ (fun i σ Hc _ ⟨_, _, Sc⟩ => .of (Sc _ _ wt)) ?_ ?_
  ·rintro i x σ Hc hx ⟨v6, rfl, Sc⟩
   obtain ⟨ta, hta, rfl⟩ := zay hx
   obtain ⟨z, hz⟩ : ∃ z, way[i]? = some z := ⟨_, List.getElem?_eq_getElem (by rw [← wl]; exact (List.getElem?_eq_some_iff.mp hta).1)⟩
   have et := Sc _ _ (PY.at_ i ta z hta hz)
   simp! [et]
   rw [if_neg (fun h => h rfl)]
   refine ⟨_, rfl, true, rfl, ?_⟩
   rw [if_neg (by simp)]
   exact ⟨_, by rw [et]; rfl, _, zbu, _, rfl, true, rfl, by rw [if_neg (by simp)]; exact Sc⟩
  ·rintro σ Hc ⟨v6, rfl, Sc⟩
   subst hG
   generalize hG : tSeq (tFor _ _ _) _ = tail
   have wtc := Sc _ _ wt
   have e0c := Sc _ _ e0
   have at0 : atI (as.map V.ref) 0 = some (.ref t0) := by rw [eas]; exact zda
   simp! [wtc, at0, e0c]
   intro x1 n1
   have S1 : Same Hc (upd Hc x1 (.tup [V.int k, V.int p])) := .laid n1
   have e01 := S1 _ _ e0c
   have wt1 := S1 _ _ wtc
   have S1H := Sc.trans S1
   refine ⟨false, [V.int k, V.int p], by rw [e01]; rfl, by rw [e01]; rfl, rfl, rfl, rfl, ?_⟩
   rw [if_neg (by simp [eqVs, eqV])]
   have ndk : (way.map kk).Nodup := List.pairwise_map.mpr (WO.nd.imp fun h e => h (zen e))
   have wlen := WO.len
   refine ⟨as, wt1, way.map kk, by rw [List.length_map, wl], fun i b k' h1 h2 => ?_, ndk, by rw [List.length_map]; omega, fun sa nsa => ?_⟩
   ·rw [List.getElem?_map] at h2
    obtain ⟨z, hz, rfl⟩ := Option.map_eq_some_iff.mp h2
    exact S1H _ _ (PY.at_ i b z h1 hz)
   have S2 := S1H.step nsa (u := SetN sa (way.map kk).length)
   have wt2 := zab (u := SetN sa (way.map kk).length) wt1 nsa
   refine ⟨_, rfl, by rw [List.length_map]; omega, way.length, by rw [wt2, zdd, List.length_map, wl], ?_⟩
   rw [List.length_map, if_neg (fun h => h rfl)]
   rw [List.length_map] at S2 wt2
   revert S2 wt2
   generalize upd (upd Hc x1 (.tup [V.int k, V.int p])) sa (SetN sa way.length) = H2
   intro S2 wt2
   clear S1 e01 wt1 S1H n1 nsa wtc e0c Sc
   subst hG
   generalize hG : tRet _ = tail
   obtain ⟨asI, ta, eas2⟩ : ∃ x y, as = x ++ [y] := by
    rcases List.eq_nil_or_concat as with e | ⟨x, y, e⟩
    ·rw [e] at eas; cases eas
    ·exact ⟨x, y, by rw [e, List.concat_eq_append]⟩
   have lI : asI.length + 1 = way.length := by rw [← wl, eas2]; simp
   have ed : (as.map V.ref).drop 1 = as1.map V.ref := by rw [eas]; rfl
   have l1 : as1.length + 1 = way.length := by rw [← wl, eas]; rfl
   refine forZ_ (fun l1 l2 H3 => Same H H3 ∧ H3 l1 = some (.lst (asI.map V.ref)) ∧ H3 l2 = some (.lst (as1.map V.ref))) (fun Q2 hQ => ?_) ?_
   ·simp! [tSl, tNoPart, zhI, rSlL]
    refine ⟨_, .of wt2, fun y1 m1 => ⟨_, .of (zab wt2 m1), fun y2 m2 => ?_⟩⟩
    have c1 : cutV (as.map V.ref) none (some (-1)) = asI.map V.ref := by rw [eas2, List.map_append]; exact zgO
    have c2 : cutV (as.map V.ref) (some 1) none = as1.map V.ref := (zgk (as.map V.ref) 1).trans ed
    rw [c1] at m2 ⊢
    rw [c2]
    exact hQ _ _ _ ⟨(S2.step m1).step m2, zab zaa m2, zaa⟩
   rintro y1 y2 H3 ⟨S3, g1, g2⟩
   refine forZ (H1 := H3) y1 y2 (asI.map V.ref) (as1.map V.ref) (fun Q2 h2 => by simp! []; exact h2) (fun i σ Hc => ∃ (v7 v8 : Option V), σ = [some (V.ref pl), some (V.int f), some (V.int k), some (V.int p), some (V.ref l), some (V.ref da.2.1), v6, v7, v8] ∧ Same H3 Hc) ⟨_, _, rfl, Same.refl _⟩ (by rw [List.length_map, List.length_map]; omega) (fun i σ Hc _ ⟨_, _, _, Sc⟩ => ⟨.of (Sc _ _ g1), .of (Sc _ _ g2)⟩) ?_ ?_
   ·rintro i x y tp σ Hc hx hy ⟨v7, v8, rfl, Sc⟩ ntp
    obtain ⟨xa, hxa, rfl⟩ := zay hx
    obtain ⟨ya, hya, rfl⟩ := zay hy
    have il := (List.getElem?_eq_some_iff.mp hxa).1
    obtain ⟨za, hza⟩ : ∃ z, way[i]? = some z := ⟨_, List.getElem?_eq_getElem (by omega)⟩
    obtain ⟨zb, hzb⟩ : ∃ z, way[i + 1]? = some z := ⟨_, List.getElem?_eq_getElem (by omega)⟩
    have gab := WO.go i za zb hza hzb
    obtain ⟨⟨r, hr1, hn⟩, r', hr2, hs⟩ := gab
    rw [hr1] at hr2
    cases hr2
    have RF := N.fit r (List.mem_of_getElem? hr1)
    have S4 := (S3.trans Sc).step ntp (u := .tup [V.ref xa, V.ref ya])
    have ea := S4 _ _ (PY.at_ i xa za (by rw [eas2, List.getElem?_append_left il]; exact hxa) hza)
    have eb := S4 _ _ (PY.at_ (i + 1) ya zb (by rw [eas]; exact hya) hzb)
    have Sd := Sc.step ntp (u := .tup [V.ref xa, V.ref ya])
    refine zbA zaa rfl ?_
    revert S4 ea eb Sd
    generalize upd Hc tp (.tup [V.ref xa, V.ref ya]) = H4
    intro S4 ea eb Sd
    have RW4 := RW.same S4
    have hr1 : d.2.2[za.1]? = some r := hr1
    have zal := (List.getElem?_eq_some_iff.mp hr1).1
    simp! [ea, eb]
    refine ⟨da.2.1, za.1, da.2.2, d.2.2, r, d.2.1, _, _, rfl, RW4, hr1, RF, by omega, by omega, fun nl H5 n5 S5 e5 => ?_⟩
    refine zch e5 ⟨_, rfl, ?_⟩
    rw [if_pos rfl, decide_eq_true hn, if_neg (by simp)]
    have ea5 := S5 _ _ ea
    have eb5 := S5 _ _ eb
    have RW5 := RW4.same S5
    have rt5 := RW5.top
    obtain ⟨rp, hrp, ar, RA⟩ := RW5.get hr1
    simp! [ea5, eb5, rt5, ar]
    refine ⟨rp, r, za.2, _, _, _, rfl, RA, RF, fun gl H6 n6 S6 e6 => ?_⟩
    refine zch e6 ⟨_, rfl, ?_⟩
    rw [if_pos rfl, decide_eq_true ((zdZ RF).mpr hs), if_neg (by simp)]
    exact (Sd.trans S5).trans S6
   ·rintro σ Hc ⟨v7, v8, rfl, Sc⟩
    subst hG
    have S5 := S3.trans Sc
    have wt5 := S5 _ _ wt
    obtain ⟨z, hz, us⟩ := WO.last
    obtain ⟨r, hr1, hus⟩ := us
    have el : atI (as.map V.ref) (-1) = some (.ref ta) := by rw [eas2, List.map_append]; exact zb5 _ _
    have ezt := S5 _ _ (PY.at_ (way.length - 1) ta z (by rw [eas2, List.getElem?_append_right (by omega), show way.length - 1 - asI.length = 0 by omega]; rfl) (by rw [← List.getLast?_eq_getElem?]; exact hz))
    simp! [wt5, el, ezt]
    refine ⟨pl, f, z.1, z.2, das, ds, d, r, rfl, PR.same S5, hd, PF, hr1, fun H6 S6 => ?_⟩
    rw [decide_eq_true hus]
    exact q H6 (S5.trans S6)
end
section
variable {P : Program} {w : World} {K : PySem.W.Frag} {mg : Str → Option Value} {base : Heap} {a : Ad}
theorem zhD {ps : List Pr} {t places : Nat} {x : Int} : x ∈ ndL ps t places ↔ (t, x) ∈ ps ∧ 0 ≤ x ∧ x < places := by
 unfold ndL
 rw [List.mem_map]
 constructor
 ·rintro ⟨n, hn, rfl⟩
  rw [List.mem_filter, List.mem_range, decide_eq_true_eq] at hn
  exact ⟨hn.2, by omega, by omega⟩
 ·rintro ⟨h, h0, h1⟩
  obtain ⟨n, rfl⟩ := Int.eq_ofNat_of_zero_le h0
  exact ⟨n, by rw [List.mem_filter, List.mem_range, decide_eq_true_eq]; exact ⟨by omega, h⟩, rfl⟩
def partD : Part → PyData
 | .inl i => .int i
 | .inr l => .tuple (l.map PyData.int)
def rwD (r : Row) : PyData := .tuple (.str r.1 :: r.2.map partD)
def dfD (d : Df) : PyData := .tuple [.str d.1.1, .str d.1.2, .int d.2.1, .list (d.2.2.map rwD)]
def pgD (ds : List Df) : PyData := .list (ds.map dfD)
/-- all texts in it are plain -/
structure PlainP (ds : List Df) : Prop where
 takes : ∀ d ∈ ds, PyData.strOk d.1.1 = true
 gives : ∀ d ∈ ds, PyData.strOk d.1.2 = true
 words : ∀ d ∈ ds, ∀ r ∈ d.2.2, PyData.strOk r.1 = true
theorem zdA {α : Type} {f : α → PyData} : ∀ {l : List α}, (∀ x ∈ l, PyData.canLay0 (f x) = true) → PyData.canLayAll0 (l.map f) = true
 | [], _ => by rw [List.map_nil, PyData.canLayAll0]
 | x :: l, h => by rw [List.map_cons, PyData.canLayAll0, h x List.mem_cons_self, zdA fun y hy => h y (List.mem_cons_of_mem _ hy)]; rfl
theorem zdD {α : Type} {f : α → PyData} {n : Nat} : ∀ {l : List α}, (∀ x ∈ l, PyData.depth (f x) ≤ n) → PyData.depthAll (l.map f) ≤ n
 | [], _ => by rw [List.map_nil, PyData.depthAll]; omega
 | x :: l, h => by
  have h1 := h x List.mem_cons_self
  have h2 := zdD fun y hy => h y (List.mem_cons_of_mem _ hy)
  rw [List.map_cons, PyData.depthAll]
  omega
theorem zfw (p : Part) : PyData.canLay0 (partD p) = true := by
 cases p with
 | inl i => simp [partD, PyData.canLay0]
 | inr l =>
  unfold partD
  rw [PyData.canLay0]
  exact zdA fun i _ => by rw [PyData.canLay0]
theorem zfp (p : Part) : PyData.depth (partD p) ≤ 1 := by
 cases p with
 | inl i => simp [partD, PyData.depth]
 | inr l =>
  unfold partD
  rw [PyData.depth]
  have := zdD (f := PyData.int) (l := l) (n := 0) fun i _ => by simp [PyData.depth]
  omega
theorem zhB {r : Row} (h : PyData.strOk r.1 = true) : PyData.canLay0 (rwD r) = true := by
 unfold rwD
 rw [PyData.canLay0, PyData.canLayAll0, zdA fun p _ => zfw p, PyData.canLay0, h]
 rfl
theorem zhk (r : Row) : PyData.depth (rwD r) ≤ 2 := by
 unfold rwD
 have := zdD (f := partD) (l := r.2) (n := 1) fun p _ => zfp p
 simp only [PyData.depth, PyData.depthAll]
 omega
theorem zgG {rws : List Row} (h : ∀ r ∈ rws, PyData.strOk r.1 = true) : PyData.canLay0 (.list (rws.map rwD)) = true := by
 rw [PyData.canLay0]
 exact zdA fun r hr => zhB (h r hr)
theorem zhW {d : Df} (h1 : PyData.strOk d.1.1 = true) (h2 : PyData.strOk d.1.2 = true) (h3 : ∀ r ∈ d.2.2, PyData.strOk r.1 = true) : PyData.canLay0 (dfD d) = true := by
 have g := zgG h3
 unfold dfD
 rw [PyData.canLay0]
 simp only [PyData.canLayAll0, PyData.canLay0, h1, h2, Bool.and_self, Bool.true_and, Bool.and_true]
 rw [PyData.canLay0] at g
 exact g
theorem zhY (d : Df) : PyData.depth (dfD d) ≤ 4 := by
 have := zdD (f := rwD) (l := d.2.2) (n := 2) fun r _ => zhk r
 unfold dfD
 simp only [PyData.depth, PyData.depthAll]
 omega
theorem zfT {ds : List Df} (h : PlainP ds) : PyData.canLay0 (pgD ds) = true := by
 unfold pgD
 rw [PyData.canLay0]
 exact zdA fun d hd => zhW (h.takes d hd) (h.gives d hd) (h.words d hd)
theorem zcK {ds : List Df} (h : PlainP ds) : SeqAt.shaped (pgD ds) = true := by
 unfold SeqAt.shaped
 rw [Bool.and_eq_true]
 refine ⟨zfT h, decide_eq_true ?_⟩
 have := zdD (f := dfD) (l := ds) (n := 4) fun d _ => zhY d
 unfold pgD
 rw [PyData.depth]
 omega
theorem zie {ds : List Df} (h : PlainP ds) : PyData.eqv (pgD ds) (pgD ds) = true := SeqAt.eqv_refl _ (zfT h)
theorem za4.rep {H : Hp} {p : Addr} {r : Row} (h : za4 H p r) : RepD H (.ref p) (rwD r) := by
 obtain ⟨vs, hp, PA⟩ := h
 refine .tup hp (by rw [List.length_cons, List.length_cons, List.length_map, PA.len]) fun j v d h1 h2 => ?_
 cases j with
 | zero => cases h1; cases h2; exact .str _
 | succ j =>
  rw [List.getElem?_cons_succ] at h1 h2
  rw [List.getElem?_map] at h2
  obtain ⟨x, hx, rfl⟩ := Option.map_eq_some_iff.mp h2
  have := PA.at_ j v x h1 hx
  cases x with
  | inl i => rw [show v = .int i from this]; exact .int i
  | inr l =>
   obtain ⟨t, rfl, ht⟩ := this
   refine .tup ht (by rw [List.length_map, List.length_map]) fun k v d g1 g2 => ?_
   rw [List.getElem?_map] at g1 g2
   obtain ⟨i, hi, rfl⟩ := Option.map_eq_some_iff.mp g1
   rw [hi] at g2
   cases g2
   exact .int i
theorem RowsOf.rep {H : Hp} {rl : Addr} {rs : List Addr} {rows : List Row} (x : RowsOf H rl rs rows) : RepD H (.ref rl) (.list (rows.map rwD)) := by
 refine .lst x.top (by rw [List.length_map, List.length_map, x.len]) fun i v d h1 h2 => ?_
 obtain ⟨q, hq, rfl⟩ := zay h1
 rw [List.getElem?_map] at h2
 obtain ⟨r, hr, rfl⟩ := Option.map_eq_some_iff.mp h2
 exact (x.row i q r hq hr).rep
theorem zgh {H : Hp} {p rl : Addr} {rs : List Addr} {d : Df} (h : H p = some (.tup [.str d.1.1, .str d.1.2, .int d.2.1, .ref rl])) (x : RowsOf H rl rs d.2.2) : RepD H (.ref p) (dfD d) := by
 refine .tup h rfl fun j v e h1 h2 => ?_
 match j, h1, h2 with
 | 0, h1, h2 => cases h1; cases h2; exact .str _
 | 1, h1, h2 => cases h1; cases h2; exact .str _
 | 2, h1, h2 => cases h1; cases h2; exact .int _
 | 3, h1, h2 => cases h1; cases h2; exact x.rep
 | j + 4, h1, h2 => simp at h1
theorem ProgAt.rep {H : Hp} {pl : Addr} {das : List (Addr × Addr × List Addr)} {ds : List Df} (x : ProgAt H pl das ds) : RepD H (.ref pl) (pgD ds) := by
 refine .lst x.top (by rw [List.length_map, List.length_map, x.len]) fun i v d h1 h2 => ?_
 obtain ⟨q, hq, rfl⟩ := zay h1
 rw [List.getElem?_map] at h2
 obtain ⟨r, hr, rfl⟩ := Option.map_eq_some_iff.mp h2
 obtain ⟨g1, g2⟩ := x.def_ i q r hq hr
 exact zgh g1 g2
abbrev DA := Addr × Addr × List Addr
def DefA (H : Hp) (a : DA) (d : Df) : Prop := H a.1 = some (.tup [.str d.1.1, .str d.1.2, .int d.2.1, .ref a.2.1]) ∧ RowsOf H a.2.1 a.2.2 d.2.2
theorem DefA.same {H H' : Hp} {a : DA} {d : Df} (S : Same H H') (h : DefA H a d) : DefA H' a d := ⟨S _ _ h.1, h.2.same S⟩
theorem DefA.put {H : Hp} {a : DA} {d : Df} {fl : Addr} {xs : List V} {u : HO} (h : DefA H a d) (hf : H fl = some (.lst xs)) (n : a.2.1 ≠ fl) : DefA (upd H fl u) a d := by
 refine ⟨by rw [zaj (fun e => by rw [← e, h.1] at hf; cases hf)]; exact h.1, ?_⟩
 exact h.2.fr (M := (· = fl)) (Fr.put rfl fun ys e => by rw [hf] at e; cases e) n
structure DL (H : Hp) (as : List DA) (ds : List Df) : Prop where
 len : as.length = ds.length
 def_ : ∀ (i : Nat) (a : DA) (d : Df), as[i]? = some a → ds[i]? = some d → DefA H a d
theorem DL.same {H H' : Hp} {as : List DA} {ds : List Df} (S : Same H H') (h : DL H as ds) : DL H' as ds := ⟨h.len, fun i a d h1 h2 => (h.def_ i a d h1 h2).same S⟩
theorem DL.put {H : Hp} {as : List DA} {ds : List Df} {fl : Addr} {xs : List V} {u : HO} (h : DL H as ds) (hf : H fl = some (.lst xs)) (n : ∀ a ∈ as, a.2.1 ≠ fl) : DL (upd H fl u) as ds :=
 ⟨h.len, fun i a d h1 h2 => (h.def_ i a d h1 h2).put hf (n a (List.mem_of_getElem? h1))⟩
theorem DL.snoc {H : Hp} {as : List DA} {ds : List Df} {a : DA} {d : Df} (h : DL H as ds) (hr : DefA H a d) : DL H (as ++ [a]) (ds ++ [d]) := by
 refine ⟨by rw [List.length_append, List.length_append, h.len]; rfl, fun i q x h1 h2 => ?_⟩
 rcases Nat.lt_trichotomy i as.length with c | c | c
 ·rw [List.getElem?_append_left c] at h1
  rw [List.getElem?_append_left (by rw [← h.len]; exact c)] at h2
  exact h.def_ i q x h1 h2
 ·subst c
  rw [List.getElem?_append_right (Nat.le_refl _), Nat.sub_self] at h1
  rw [h.len, List.getElem?_append_right (Nat.le_refl _), Nat.sub_self] at h2
  cases h1
  cases h2
  exact hr
 ·rw [List.getElem?_eq_none (by simp; omega)] at h1
  cases h1
def spLaw (K : PySem.W.Frag) : Sp := fun vs H Q _ => ∃ (a : Addr) (ns : List Int), vs = [.ref a] ∧ SqL K H a (ns.map V.int) ∧ ns.length ≤ 63 ∧ ∀ H', Q (.bl true) H'
theorem LW_plain : ∀ p ∈ LW, PyData.strOk p.1 = true := by decide +kernel
theorem ProgFit.plain {ds : List Df} (h : ProgFit ds) : PlainP ds := by
 refine ⟨fun d hd => ?_, fun d hd => ?_, fun d hd r hr => ?_⟩
 ·unfold PyData.strOk
  rw [← Array.all_toList, List.all_eq_true]
  intro c0 hc
  rcases h.sg.let_ d.1 (List.mem_map.mpr ⟨d, hd, rfl⟩) c0 hc with e | e <;> rw [e] <;> rfl
 ·rcases h.sg.gives d.1 (List.mem_map.mpr ⟨d, hd, rfl⟩) with e | e <;> rw [e] <;> decide +kernel
 ·obtain ⟨ls, m, _⟩ := (h.defs d hd).rows r hr
  exact LW_plain _ m
theorem BagAt.nInts {H : Hp} {b c l : Addr} {cs ns : List Int} (B : BagAt H b c cs) (h : H l = some (.lst (ns.map V.int))) : l ≠ b := fun e => by
 obtain ⟨⟨i, v, st, n, hb, _⟩, _⟩ := B
 rw [e, hb] at h
 cases ns with
 | nil => cases h
 | cons x r => cases h
theorem BagAt.nRefs {H : Hp} {b c l : Addr} {cs : List Int} {qs : List Addr} (B : BagAt H b c cs) (h : H l = some (.lst (qs.map V.ref))) : l ≠ b := fun e => by
 obtain ⟨⟨i, v, st, n, hb, _⟩, _⟩ := B
 rw [e, hb] at h
 cases qs with
 | nil => cases h
 | cons x r => cases r with
  | nil => cases h
  | cons y r => cases h
theorem ProgAt.kp {b c : Addr} {cs : List Int} {H H' : Hp} {pl : Addr} {das : List (Addr × Addr × List Addr)} {ds : List Df} (x : ProgAt H pl das ds) (B : BagAt H b c cs) (k : Kp b H H') : ProgAt H' pl das ds := by
 refine ⟨k _ _ x.top (B.nRefs (qs := das.map (·.1)) (by rw [x.top, List.map_map]; rfl)), x.len, fun i a d h1 h2 => ?_⟩
 obtain ⟨g1, g2⟩ := x.def_ i a d h1 h2
 exact ⟨B.tup k g1, g2.kp B k (B.nRefs g2.top)⟩
theorem NdAt.same {H H' : Hp} {l : Addr} {ls : List Addr} {ps : List Pr} {n places : Nat} (x : NdAt H l ls ps n places) (S : Same H H') : NdAt H' l ls ps n places := ⟨S _ _ x.top, x.len, fun t y h => S _ _ (x.at_ t y h)⟩
theorem NdAt.kp {b c : Addr} {cs : List Int} {H H' : Hp} {l : Addr} {ls : List Addr} {ps : List Pr} {n places : Nat} (x : NdAt H l ls ps n places) (B : BagAt H b c cs) (k : Kp b H H') : NdAt H' l ls ps n places := ⟨k _ _ x.top (B.nRefs x.top), x.len, fun t y h => k _ _ (x.at_ t y h) (B.nInts (x.at_ t y h))⟩
structure ToldAt (H : Hp) (tl : Addr) (tls : List Addr) (ds : List Df) : Prop where
 top : H tl = some (.lst (tls.map V.ref))
 len : tls.length = ds.length
 at_ : ∀ (f : Nat) (x : Addr) (d : Df), tls[f]? = some x → ds[f]? = some d → ∃ ls ps, NdAt H x ls ps d.2.2.length (8 + d.2.1).toNat ∧ ∀ q, q ∈ ps ↔ Need (ds.map (·.1), d.1.2, d.2.2) q
structure LI (H : Hp) (b c pl hl tl : Addr) (cs : List Int) (das has : List (Addr × Addr × List Addr)) (tls : List Addr) (ds : List Df) : Prop where
 pp : ProgAt H pl das ds
 pk : ProgAt H hl has ds
 td : ToldAt H tl tls ds
 bg : BagAt H b c cs
theorem LI.same {H H' : Hp} {b c pl hl tl : Addr} {cs : List Int} {das has : List (Addr × Addr × List Addr)} {tls : List Addr} {ds : List Df} (x : LI H b c pl hl tl cs das has tls ds) (S : Same H H') : LI H' b c pl hl tl cs das has tls ds := ⟨x.pp.same S, x.pk.same S, ⟨S _ _ x.td.top, x.td.len, fun f y d h1 h2 => let ⟨ls, ps, a, e⟩ := x.td.at_ f y d h1 h2; ⟨ls, ps, a.same S, e⟩⟩, x.bg.keep S⟩
theorem LI.kp {H H' : Hp} {b c pl hl tl : Addr} {cs : List Int} {das has : List (Addr × Addr × List Addr)} {tls : List Addr} {ds : List Df} (x : LI H b c pl hl tl cs das has tls ds) (k : Kp b H H') (B : BagAt H' b c cs) : LI H' b c pl hl tl cs das has tls ds := ⟨x.pp.kp x.bg k, x.pk.kp x.bg k, ⟨k _ _ x.td.top (x.bg.nRefs x.td.top), x.td.len, fun f y d h1 h2 => let ⟨ls, ps, a, e⟩ := x.td.at_ f y d h1 h2; ⟨ls, ps, a.kp x.bg k, e⟩⟩, B⟩
theorem zhy {words many : Int} {sg : List Sg} {gives : Str} {r : Row} (F : zaI words many sg r) : (usV sg gives r).length = (usI sg gives r).length := by
 have := congrArg List.length (zcy (gives := gives) F)
 simpa using this
set_option maxHeartbeats 4000000 in
theorem zij (T : Txt K mg a) : FnOk P w K mg base CX0 6 a.f_law a.d_law ["script"] (spLaw K) := by
 refine T.F_law.okC sc_law (fun vs H Q E h => ?_) (fun cdv A outer s H vs Q E hr h => ?_)
 ·obtain ⟨r, ns, rfl, _⟩ := h
  rfl
 ·obtain ⟨r, ns, rfl, hS, _, k⟩ := h
  have hu := zaX hr
  refine ⟨_, (@zae _ _ _ _ _ (zaC (i := 1) sc_law.nd (by rfl) (Or.inl rfl) (zam (zeY T) (hr.mono (by decide)) (by rfl) T.m_law_bag T.F_law_bag.kp T.b_law_bag .nil zaD (@zac _ _ _ _ _ _ (pv 0) pa_nil)))
   (@zae _ _ _ _ _ (zaC (i := 2) sc_law.nd (by rfl) (Or.inr rfl) (zam (zeK T) (hr.mono (by decide)) (by rfl) T.m_law_any T.F_law_any.kp T.b_law_any .nil zaD (@zac _ _ _ _ _ _ (pv 1) pa_nil)))
   (@zae _ _ _ _ _ (zco (i := 3) sc_law.nd (by rfl) (Or.inl rfl) (N' := ["one"]) (cap := [none]) ⟨rfl, (by decide +kernel), (by decide +kernel), (by rfl), rfl, (by rfl)⟩ (by rfl) (zaO (pv 2)) (fun C_ ex_ s_ H_ => (zav (i := 0) (show (["one"] : List Str).Nodup by decide +kernel) (by rfl) (Or.inl rfl))) zaR (fun C_ ex_ s_ H_ => zaL) (fun C_ ex_ s_ H_ => (zax (zad (zah ix_F (pv 0) zaf (fun _ _ => rfl)) (zad (zah ix_F (pv 0) zaf (fun _ _ => rfl)) (zad (zah ix_F (pv 0) zaf (fun _ _ => rfl)) (zad (za1 (zc8 (K := K) (by rfl)) (by rfl) T.z_list (by decide +kernel) (zad (zah ix_F (pv 0) zaf (fun _ _ => rfl)) pa_nil)) pa_nil)))))))
   (@zae _ _ _ _ _ (zco (i := 4) sc_law.nd (by rfl) (Or.inl rfl) (N' := ["f", "program"]) (cap := [none, some 2]) ⟨rfl, (by decide +kernel), (by decide +kernel), (by rfl), rfl, (by rfl)⟩ (by rfl) (zaW (by rfl) T.z_range (zad (zaE call_lenF (by rfl) T.z_len (by decide +kernel) (@zac _ _ _ _ _ _ (pv 2) pa_nil)) pa_nil)) (fun C_ ex_ s_ H_ => (zav (i := 0) (show (["f", "program"] : List Str).Nodup by decide +kernel) (by rfl) (Or.inl rfl))) zaR (fun C_ ex_ s_ H_ => zaL) (fun C_ ex_ s_ H_ => (zam (ze7 T) (by exact hr.mono (by decide)) (by rfl) T.m_needed T.F_needed.kp T.b_needed .nil zaD (@zac _ _ _ _ _ _ (pv 1) (@zac _ _ _ _ _ _ (pv 0) pa_nil)))))
   (@zae _ _ _ _ _ (za0 PassesOwn.never (by rfl) (zaW (by rfl) T.z_range (@zan _ _ _ _ _ _ pa_nil)) (zav (i := 5) sc_law.nd (by rfl) (Or.inl rfl))
   (@zag _ _ _ (@zaN _ _ _ _ _ _ _ _ (PW.pt (zcS (zar op_lt (pv 5) zaf (zaB _)) (zck (zbD (zam (zd6 T) (hr.mono (by decide)) (by rfl) T.m_law_more T.F_law_more.kp T.b_law_more .nil zaD (@zac _ _ _ _ _ _ (pv 1) pa_nil)))))) (@zae _ _ _ _ _ (zaC (i := 6) sc_law.nd (by rfl) (Or.inl rfl) (zam (zao T) (hr.mono (by decide)) (by rfl) T.m_law_draw T.F_law_draw.kp T.b_law_draw .nil zaD (@zac _ _ _ _ _ _ (pv 1) (zad (zaE call_lenF (by rfl) T.z_len (by decide +kernel) (@zac _ _ _ _ _ _ (pv 2) pa_nil)) pa_nil))))
   (@zae _ _ _ _ _ (zaC (i := 7) sc_law.nd (by rfl) (Or.inl rfl) (zam (zao T) (hr.mono (by decide)) (by rfl) T.m_law_draw T.F_law_draw.kp T.b_law_draw .nil zaD (@zac _ _ _ _ _ _ (pv 1) (zad (zaE call_lenF (by rfl) T.z_len (by decide +kernel) (zad (zah ix_F (zah ix_F (pv 2) (pv 6) (fun _ _ => rfl)) zaf (fun _ _ => rfl)) pa_nil)) pa_nil))))
   (@zae _ _ _ _ _ (zaC (i := 8) sc_law.nd (by rfl) (Or.inl rfl) (zam (zao T) (hr.mono (by decide)) (by rfl) T.m_law_draw T.F_law_draw.kp T.b_law_draw .nil zaD (@zac _ _ _ _ _ _ (pv 1) (zad (zaJ op_add zaf (zah ix_F (zah ix_F (pv 2) (pv 6) (fun _ _ => rfl)) zaf (fun _ _ => rfl))) pa_nil))))
   (@zae _ _ _ _ _ (zaC (i := 9) sc_law.nd (by rfl) (Or.inl rfl) (zam (zcw T) (hr.mono (by decide)) (by rfl) T.m_law_uses T.F_law_uses.kp T.b_law_uses .nil zaD (@zac _ _ _ _ _ _ (pv 2) (@zac _ _ _ _ _ _ (pv 6) (zad (zah ix_F (zah ix_F (zah ix_F (pv 2) (pv 6) (fun _ _ => rfl)) zaf (fun _ _ => rfl)) (zam (zao T) (hr.mono (by decide)) (by rfl) T.m_law_draw T.F_law_draw.kp T.b_law_draw .nil zaD (@zac _ _ _ _ _ _ (pv 1) (zad (zaE call_lenF (by rfl) T.z_len (by decide +kernel) (zad (zah ix_F (zah ix_F (pv 2) (pv 6) (fun _ _ => rfl)) zaf (fun _ _ => rfl)) pa_nil)) pa_nil))) (fun _ _ => rfl)) pa_nil)))))
   (@zae _ _ _ _ _ (@zaN _ _ _ _ _ _ _ _ (PW.pt (zbe (zar (zg5 hu) (pv 9) (zaA pa_nil) (zaB _)) (za6 (zar op_gt (zam (zao T) (hr.mono (by decide)) (by rfl) T.m_law_draw T.F_law_draw.kp T.b_law_draw .nil zaD (@zac _ _ _ _ _ _ (pv 1) (@zan _ _ _ _ _ _ pa_nil))) zaf (zaB _))))) (@zag _ _ _ (zaC (i := 8) sc_law.nd (by rfl) (Or.inl rfl) (zah ix_F (zah ix_F (pv 9) (zam (zao T) (hr.mono (by decide)) (by rfl) T.m_law_draw T.F_law_draw.kp T.b_law_draw .nil zaD (@zac _ _ _ _ _ _ (pv 1) (zad (zaE call_lenF (by rfl) T.z_len (by decide +kernel) (@zac _ _ _ _ _ _ (pv 9) pa_nil)) pa_nil))) (fun _ _ => rfl)) zaf (fun _ _ => rfl)))) pss_nil)
   (@zae _ _ _ _ _ (zaC (i := 10) sc_law.nd (by rfl) (Or.inl rfl) (zam (zdP T) (hr.mono (by decide)) (by rfl) T.m_law_comes T.F_law_comes.kp T.b_law_comes .nil zaD (@zac _ _ _ _ _ _ (pv 2) (@zac _ _ _ _ _ _ (pv 6) (@zac _ _ _ _ _ _ (pv 7) (@zac _ _ _ _ _ _ (pv 8) pa_nil))))))
   (@zae _ _ _ _ _ (zaC (i := 11) sc_law.nd (by rfl) (Or.inl rfl) (zam (zeN T) (hr.mono (by decide)) (by rfl) T.m_use_way T.F_use_way.kp T.b_use_way .nil zaD (@zac _ _ _ _ _ _ (pv 2) (@zac _ _ _ _ _ _ (pv 6) (@zac _ _ _ _ _ _ (pv 7) (@zac _ _ _ _ _ _ (pv 8) pa_nil))))))
   (@zae _ _ _ _ _ (@zaN _ _ _ _ _ _ _ _ (zar op_ne (zcn op_in_seq (pv 8) (zah ix_F (zah ix_F (pv 4) (pv 6) (fun _ _ => rfl)) (pv 7) (fun _ _ => rfl)) (by with_unfolding_all rfl)) (pv 10) (zaB _)) (@zag _ _ _ (zat zcB)) pss_nil)
   (@zag _ _ _ (@zaN _ _ _ _ _ _ _ _ (PW.pt (zcS (PW.pt (zbe (zbD (pv 10)) (za6 (zcv (zbD (zam (zcZ T) (hr.mono (by decide)) (by rfl) T.m_law_walked T.F_law_walked.kp T.b_law_walked .nil zaD (@zac _ _ _ _ _ _ (pv 2) (@zac _ _ _ _ _ _ (pv 6) (@zac _ _ _ _ _ _ (pv 7) (@zac _ _ _ _ _ _ (pv 8) (@zac _ _ _ _ _ _ (pv 11) pa_nil))))))))))) (zck (PW.pt (zbe (zcv (zbD (pv 10))) (za6 (zcs (zdW (pv 11))))))))) (@zag _ _ _ (zat zcB)) pss_nil)))))))))) pss_nil)))
   (@zag _ _ _ (zat (zcn (ziH hr.units) (pv 2) (pv 3) (zaB _))))))))), ?_⟩
  generalize hG : tSeq (tFor _ _ _) _ = tail
  simp! []
  refine ⟨r, ns, rfl, hS, fun b c cs H0 nb nc hb S0 => ?_⟩
  refine ⟨b, c, cs, rfl, hb, fun pl das ds H PR FIT npl nrl hb2 k2 => ?_⟩
  clear hb nb nc k2 nrl npl S0 hS
  have lp := PR.len
  have l8 := FIT.n1
  simp! []
  refine zdz (H1 := H) pl (das.map fun a => V.ref a.1) (fun Q2 h2 => by simp! []; exact h2) (.of PR.top) (fun D i ys H2 => ∃ has : List DA, ys = has.map (fun a => V.ref a.1) ∧ Same H H2 ∧ H2 D = some (.lst ys) ∧ DL H2 has (ds.take i) ∧ (∀ a ∈ has, a.2.1 ≠ D))
   (fun D hD => ⟨[], rfl, Same.laid hD, zaa, ⟨rfl, fun i p r h1 _ => by cases h1⟩, fun a h => by cases h⟩) ?_ (by rw [sizeLine_eq, List.length_map]; omega) ?_ ?_
  ·rintro D hD i ys H2 hi ⟨has, rfl, S2, h2, D2, _⟩
   refine ⟨.of (S2 _ _ PR.top), h2, ?_⟩
   rw [List.length_map, D2.len, List.length_take]
   omega
  ·rintro D hD i x ys H2 hx ⟨has, rfl, S2, h2, D2, nD⟩
   obtain ⟨da, hda, rfl⟩ := zay hx
   have il : i < ds.length := by rw [← lp]; exact (List.getElem?_eq_some_iff.mp hda).1
   have hdi := List.getElem?_eq_getElem il
   have DA2 := (show DefA H da ds[i] from PR.def_ i da _ hda hdi).same S2
   revert hdi DA2
   generalize ds[i] = d
   intro hdi DA2
   have t2 := DA2.1
   simp! [tTrue, zaM, t2]
   refine ⟨_, .inl (.of DA2.2.top), fun l nl p np => ?_⟩
   have S4 : Same H2 (upd (upd H2 l (.lst (da.2.2.map V.ref))) p (.tup [.str d.1.1, .str d.1.2, .int d.2.1, .ref l])) := (Same.laid nl).step np
   have hl4 : upd (upd H2 l (.lst (da.2.2.map V.ref))) p (.tup [.str d.1.1, .str d.1.2, .int d.2.1, .ref l]) l = some (.lst (da.2.2.map V.ref)) := zab zaa np
   have hp4 : upd (upd H2 l (.lst (da.2.2.map V.ref))) p (.tup [.str d.1.1, .str d.1.2, .int d.2.1, .ref l]) p = some (.tup [.str d.1.1, .str d.1.2, .int d.2.1, .ref l]) := zaa
   revert S4 hl4 hp4
   generalize upd (upd H2 l (.lst (da.2.2.map V.ref))) p (.tup [.str d.1.1, .str d.1.2, .int d.2.1, .ref l]) = H4
   intro S4 hl4 hp4
   have h4 := S4 _ _ h2
   have nlD : l ≠ D := fun e => by rw [e, h2] at nl; cases nl
   have R4 := DA2.2.same S4
   have D4 := (D2.same S4).snoc (a := (p, l, da.2.2)) (d := d) ⟨hp4, hl4, R4.len, R4.row⟩
   have nD4 : ∀ a ∈ has ++ [(p, l, da.2.2)], a.2.1 ≠ D := by
    intro a ha
    rcases List.mem_append.mp ha with ha | ha
    ·exact nD a ha
    ·rw [List.mem_singleton.mp ha]; exact nlD
   refine ⟨h4, has ++ [(p, l, da.2.2)], by rw [List.map_append]; rfl, zaz (S2.trans S4) hD, ?_, nD4⟩
   rw [List.take_succ, hdi]
   exact D4.put h4 nD4
  ·rintro hl hhl ys H1 ⟨has, rfl, S1, h1, D1, _⟩
   rw [List.length_map, lp, List.take_length] at D1
   have PK : ProgAt H1 hl has ds := ⟨h1, D1.len, D1.def_⟩
   have PP := PR.same S1
   have hb1 := hb2.keep S1
   clear D1 h1 S1 hhl PR
   subst hG
   have lk := PK.len
   have topp := PP.top
   have PL := FIT.plain
   generalize hG : tSeq (tFor _ _ _) _ = tail
   refine zeD (H1 := H1) (ds.length : Int) (fun Q2 h2 => by simp! [topp, List.length_map, lp]; exact h2) (by omega) (by omega) (fun L j ys H2 => ∃ tls : List Addr, ys = tls.map V.ref ∧ tls.length = j ∧ Same H1 H2 ∧ H2 L = some (.lst ys) ∧ ∀ (f : Nat) (x : Addr) (d : Df), tls[f]? = some x → ds[f]? = some d → ∃ ls ps, NdAt H2 x ls ps d.2.2.length (8 + d.2.1).toNat ∧ (∀ q, q ∈ ps ↔ Need (ds.map (·.1), d.1.2, d.2.2) q) ∧ x ≠ L ∧ ∀ y ∈ ls, y ≠ L)
    (fun L hL => ⟨[], rfl, rfl, .laid hL, zaa, fun f x d h => by simp at h⟩) ?_ (by rw [sizeLine_eq]; omega) ?_ ?_
   ·rintro L hL j ys H2 hj ⟨tls, rfl, ll, S2, hL2, at2⟩
    exact ⟨hL2, by rw [List.length_map]; omega⟩
   ·rintro L hL j ys H2 hj ⟨tls, rfl, ll, S2, hL2, at2⟩
    have jl : j < ds.length := by omega
    have hd := List.getElem?_eq_getElem jl
    simp! [zaM, tTrue]
    refine ⟨pl, j, das, ds, ds[j], by rw [Int.zero_add], PP.same S2, hd, FIT, fun l ls ps H3 S3 nl nls ND nm _ => ?_⟩
    have hL3 := S3 _ _ hL2
    have nlL : l ≠ L := fun e => by rw [e, hL2] at nl; cases nl
    have nlsL : ∀ y ∈ ls, y ≠ L := fun y hy e => by have := nls y hy; rw [e, hL2] at this; cases this
    refine ⟨hL3, tls ++ [l], by rw [List.map_append]; rfl, by rw [List.length_append, ll]; rfl, zaz (fun c o e => S3 _ _ (S2 _ _ e)) hL, fun f x d h1 h2 => ?_⟩
    by_cases cf : f < tls.length
    ·rw [List.getElem?_append_left cf] at h1
     obtain ⟨ls', ps', N1, m1, n1, n2⟩ := at2 f x d h1 h2
     refine ⟨ls', ps', ⟨by rw [zaj n1]; exact S3 _ _ N1.top, N1.len, fun t y h => by rw [zaj (n2 y (List.mem_of_getElem? h))]; exact S3 _ _ (N1.at_ t y h)⟩, m1, n1, n2⟩
    ·have hk := (List.getElem?_eq_some_iff.mp h1).1
     rw [List.length_append, List.length_singleton] at hk
     rw [List.getElem?_append_right (by omega), show f - tls.length = 0 by omega] at h1
     cases h1
     rw [show f = j by omega, hd] at h2
     cases h2
     exact ⟨ls, ps, ⟨by rw [zaj nlL]; exact ND.top, ND.len, fun t y h => by rw [zaj (nlsL y (List.mem_of_getElem? h))]; exact ND.at_ t y h⟩, nm, nlL, nlsL⟩
   rintro tl htl ys H2 ⟨tls, rfl, ll, S2, hL2, at2⟩
   rw [Int.toNat_natCast] at ll
   have L2 : LI H2 b c pl hl tl cs das has tls ds := ⟨PP.same S2, PK.same S2, ⟨hL2, ll, fun f x d h1 h2 => let ⟨ls, ps, a, e, _⟩ := at2 f x d h1 h2; ⟨ls, ps, a, e⟩⟩, hb1.keep S2⟩
   clear at2 hL2 S2 htl PP PK hb1 topp
   subst hG
   refine for1 (H1 := H2) 16 (fun Q2 h2 => by simp! []; exact h2) (by decide) (by decide) (fun i σ H3 => ∃ (v5 v6 v7 v8 v9 v10 v11 : Option V), σ = [some (.ref r), some (.ref b), some (.ref pl), some (.ref hl), some (.ref tl), v5, v6, v7, v8, v9, v10, v11] ∧ LI H3 b c pl hl tl cs das has tls ds) ⟨_, _, _, _, _, _, _, rfl, L2⟩ ?_ ?_
   ·clear L2
    rintro i σ H3 hi ⟨v5, v6, v7, v8, v9, v10, v11, rfl, L3⟩
    generalize hG : tSeq (tAsg _ (za2 6)) _ = tail
    have go : ∀ (D : Ends), D.rt = Q → (∀ v5 v6 v7 v8 v9 v10 v11 H, LI H b c pl hl tl cs das has tls ds → D.nx [some (.ref r), some (.ref b), some (.ref pl), some (.ref hl), some (.ref tl), v5, v6, v7, v8, v9, v10, v11] H) → ∀ v5, tail D [some (.ref r), some (.ref b), some (.ref pl), some (.ref hl), some (.ref tl), v5, v6, v7, v8, v9, v10, v11] H3 := by
     intro D hrt hnx v5
     subst hG
     have top3 := L3.pp.top
     have n0 := FIT.n0
     generalize hG : tSeq (tAsg _ (za2 7)) _ = tail
     simp! [top3, List.length_map, lp]
     refine ⟨b, c, cs, _, rfl, L3.bg, by omega, (by have : (8 : Int) ≤ 10 ^ 70 := (by decide); omega), fun fI H4 f0 f1 B4 k4 => ?_⟩
     obtain ⟨f, rfl⟩ := Int.eq_ofNat_of_zero_le f0
     have fl : f < ds.length := by omega
     have hd := List.getElem?_eq_getElem fl
     have L4 := L3.kp k4 B4
     obtain ⟨da, hda, a1, a2, RW⟩ := L4.pp.get hd
     have DF := FIT.defs _ (List.getElem_mem fl)
     have N := DfFit.nd FIT (List.getElem_mem fl)
     revert hd a1 a2 RW DF N
     generalize ds[f] = d
     intro hd a1 a2 RW DF N
     have top4 := L4.pp.top
     have rt4 := RW.top
     have n40 := DF.n1
     have n00 := DF.n0
     have w0 := DF.w0
     have w1 := DF.w1
     subst hG
     generalize hG : tSeq (tAsg _ (za2 8)) _ = tail
     simp! [top4, a1, a2, rt4, List.length_map, RW.len]
     refine ⟨b, c, cs, _, rfl, L4.bg, by omega, (by have : (40 : Int) ≤ 10 ^ 70 := (by decide); omega), fun kI H5 k0 k1 B5 k5 => ?_⟩
     obtain ⟨kN, rfl⟩ := Int.eq_ofNat_of_zero_le k0
     have L5 := L4.kp k5 B5
     have a25 := L4.bg.tup k5 a2
     have top5 := L5.pp.top
     subst hG
     generalize hG : tSeq (tAsg _ (za2 9)) _ = tail
     simp! [top5, a1, a25]
     refine ⟨b, c, cs, _, rfl, L5.bg, by omega, (by have : (40 : Int) ≤ 10 ^ 70 := (by decide); omega), fun pI H6 p0 p1 B6 k6 => ?_⟩
     have L6 := L5.kp k6 B6
     have a26 := L5.bg.tup k6 a25
     have RW6 := (RW.kp L4.bg k5 (L4.bg.nRefs rt4)).kp L5.bg k6 (L5.bg.nRefs ((RW.kp L4.bg k5 (L4.bg.nRefs rt4)).top))
     have top6 := L6.pp.top
     have rt6 := RW6.top
     subst hG
     generalize hG : tSeq (tIfS _ _ _) _ = tail
     simp! [top6, a1, a26, rt6, List.length_map, RW6.len]
     refine ⟨b, c, cs, _, rfl, L6.bg, by omega, (by have : (40 : Int) ≤ 10 ^ 70 := (by decide); omega), fun xI H7 x0 x1 B7 k7 => ?_⟩
     obtain ⟨xN, rfl⟩ := Int.eq_ofNat_of_zero_le x0
     have L7 := L6.kp k7 B7
     have RW7 := RW6.kp L6.bg k7 (L6.bg.nRefs rt6)
     obtain ⟨rx, hrx⟩ : ∃ rx, d.2.2[xN]? = some rx := ⟨_, List.getElem?_eq_getElem (by omega)⟩
     obtain ⟨rp, hrp, ar, RA⟩ := RW7.get hrx
     have RF := N.fit rx (List.mem_of_getElem? hrx)
     refine ⟨_, rfl, _, by rw [RW7.top]; rfl, _, ar, ?_⟩
     refine ⟨pl, rp, f, das, ds, d, rx, _, _, rfl, L7.pp, hd, RA, RF, FIT.sg, fun sl rs H8 S8 P8 => ?_⟩
     have L8 := L7.same S8
     have ul := zhy (gives := d.1.2) RF
     have u6 := zcm (gives := d.1.2) RF FIT.sg
     have ku : kN < d.2.2.length := by omega
     subst hG
     generalize hG : tSeq (tAsg (zhq sp_comes _ _ _) _) _ = tail
     have key : ∀ (pI : Int) (H9 : Hp), PlI d.2.1 pI → LI H9 b c pl hl tl cs das has tls ds → tail D [some (.ref r), some (.ref b), some (.ref pl), some (.ref hl), some (.ref tl), v5, some (V.int f), some (V.int kN), some (V.int pI), some (V.ref sl), v10, v11] H9 := by
      intro pI H9 hp L9
      subst hG
      generalize hG : tSeq (tAsg _ (za2 11)) _ = tail
      simp! []
      refine ⟨pl, f, kN, pI, das, ds, d, rfl, L9.pp, hd, FIT, ku, hp, fun db H10 S10 due => ?_⟩
      have L10 := L9.same S10
      subst hG
      generalize hG : tSeq (tIfS _ _ _) _ = tail
      obtain ⟨x, hx⟩ : ∃ x, tls[f]? = some x := ⟨_, List.getElem?_eq_getElem (by rw [ll]; exact fl)⟩
      have fin : ∀ (wv : V) (H11 : Hp), LI H11 b c pl hl tl cs das has tls ds → ((db = true ∧ ∃ (l : Addr) (as : List Addr) (way : List Pr), wv = .ref l ∧ PrI H11 l as way ∧ WayOk (ds.map (·.1), d.1.2, d.2.2) (kN, pI) way) ∨ (db = false ∧ wv = .non)) → tail D [some (.ref r), some (.ref b), some (.ref pl), some (.ref hl), some (.ref tl), v5, some (V.int f), some (V.int kN), some (V.int pI), some (V.ref sl), some (V.bl db), some wv] H11 := by
       intro wv H11 L11 hw
       subst hG
       obtain ⟨ls, ps, ND, nm⟩ := L11.td.at_ f x d hx hd
       have tt := L11.td.top
       have ax : atI (tls.map V.ref) ((f : Nat) : Int) = some (.ref x) := zaF (by rw [List.getElem?_map, hx]; rfl)
       obtain ⟨y, hy⟩ : ∃ y, ls[kN]? = some y := ⟨_, List.getElem?_eq_getElem (by rw [ND.len]; exact ku)⟩
       have ay : atI (ls.map V.ref) ((kN : Nat) : Int) = some (.ref y) := zaF (by rw [List.getElem?_map, hy]; rfl)
       have nt := ND.top
       have ey := ND.at_ kN y hy
       generalize hG : tIfS (tOr _ _) _ _ = tail
       simp! [tt, ax, nt, ay]
       refine zch ey ?_
       have eq : decide (pI ∈ ndL ps kN (8 + d.2.1).toNat) = db := by
        rw [Bool.eq_iff_iff, decide_eq_true_eq, zhD, due, nm]
        exact ⟨fun h => h.1, fun h => ⟨h, hp.1, by have := hp.2; omega⟩⟩
       rw [if_neg Bool.false_ne_true, eq]
       refine ⟨rfl, ?_⟩
       rw [if_neg (fun h => h rfl)]
       subst hG
       rcases hw with ⟨rfl, l, as, way, rfl, PI, WO⟩ | ⟨rfl, rfl⟩
       ·simp! []
        refine ⟨pl, l, f, kN, pI, das, ds, d, as, way, rfl, L11.pp, hd, FIT, PI, WO, fun H12 S12 => ⟨true, rfl, ?_⟩⟩
        rw [if_neg (by simp)]
        exact hnx _ _ _ _ _ _ _ _ (L11.same S12)
       ·simp! []
        exact hnx _ _ _ _ _ _ _ _ L11
      simp! []
      refine ⟨pl, f, kN, pI, das, ds, d, rfl, L10.pp, hd, FIT, fun H11 S11 nn => ?_, fun l as way H11 S11 nn PI WO => ?_⟩
      ·exact fin .non H11 (L10.same S11) (.inr ⟨by cases db with | true => exact absurd (due.mp rfl) nn | false => rfl, rfl⟩)
      ·exact fin (.ref l) H11 (L10.same S11) (.inl ⟨due.mpr nn, l, as, way, rfl, PI, WO⟩)
     simp! [P8.top, List.length_map, P8.len]
     intro y1 m1
     have Sy : Same H8 (upd H8 y1 (.lst [])) := .laid m1
     have L9 := L8.same Sy
     have t9 := Sy _ _ P8.top
     have at9 : ∀ (i : Nat) (ua : Addr) (pv : V × V), rs[i]? = some ua → (usV (ds.map (·.1)) d.1.2 rx)[i]? = some pv → upd H8 y1 (.lst []) ua = some (.tup [pv.1, pv.2]) := fun i ua pv h1 h2 => Sy _ _ (P8.at_ i ua pv h1 h2)
     revert L9 t9 at9
     generalize upd H8 y1 (.lst []) = H9
     intro L9 t9 at9
     refine ⟨rs.map V.ref, by rw [t9]; rfl, by rw [t9]; rfl, ?_⟩
     have pp0 : PlI d.2.1 pI := ⟨p0, by omega⟩
     by_cases ce : rs = []
     ·rw [if_neg (by rw [ce]; simp)]
      exact key pI H9 pp0 L9
     ·rw [if_pos (by cases rs with | nil => exact absurd rfl ce | cons _ _ => rfl)]
      have rp0 : 0 < rs.length := List.length_pos_iff.mpr ce
      have rl := P8.len
      refine ⟨b, c, cs, _, rfl, L9.bg, by decide, by decide, fun iI H10 i0 i1 B10 k10 => ⟨iI, rfl, ?_⟩⟩
      have L10 := L9.kp k10 B10
      refine ite2 (fun _ => ?_) fun _ => key pI H10 pp0 L10
      have t10 := k10 _ _ t9 (L9.bg.nRefs t9)
      refine ⟨rs.length, by rw [t10, zdd, List.length_map], ?_⟩
      refine ⟨b, c, cs, _, rfl, L10.bg, by omega, (by have : (6 : Int) ≤ 10 ^ 70 := (by decide); omega), fun jI H11 j0 j1 B11 k11 => ?_⟩
      obtain ⟨jN, rfl⟩ := Int.eq_ofNat_of_zero_le j0
      have L11 := L10.kp k11 B11
      have t11 := k11 _ _ t10 (L10.bg.nRefs t10)
      obtain ⟨ua, hua⟩ : ∃ x, rs[jN]? = some x := ⟨_, List.getElem?_eq_getElem (by omega)⟩
      obtain ⟨pv, hpv⟩ : ∃ x, (usV (ds.map (·.1)) d.1.2 rx)[jN]? = some x := ⟨_, List.getElem?_eq_getElem (by omega)⟩
      obtain ⟨xv, ex, px⟩ := zf0 RF pv (List.mem_of_getElem? hpv)
      have eu := L10.bg.tup k11 (L9.bg.tup k10 (at9 jN ua pv hua hpv))
      rw [ex] at eu
      exact ⟨_, rfl, _, by rw [t11]; rfl, _, zaF (by rw [List.getElem?_map, hua]; rfl), ua, rfl, _, by rw [eu]; rfl, _, zda, key xv H11 px L11⟩
    simp! []
    split
    ·refine go _ rfl ?_ _; exact fun v5 v6 v7 v8 v9 v10 v11 H h => ⟨v5, v6, v7, v8, v9, v10, v11, rfl, h⟩
    ·refine ⟨b, c, cs, rfl, L3.bg, fun rb => ⟨rb, rfl, ?_⟩⟩
     split
     ·refine go _ rfl ?_ _; exact fun v5 v6 v7 v8 v9 v10 v11 H h => ⟨v5, v6, v7, v8, v9, v10, v11, rfl, h⟩
     ·exact L3
   ·rintro σ H3 ⟨v5, v6, v7, v8, v9, v10, v11, rfl, L3⟩
    simp! []
    refine ⟨_, _, L3.pp.rep, L3.pk.rep, zcK PL, zcK PL, ?_⟩
    rw [zie PL]
    exact k _
end
set_option maxHeartbeats 4000000 in
theorem all_mk {l : PySem.W.OpenLaw} {w : World} {K : PySem.W.Frag} {h : Heap} {mg : Str → Option Value} {fa : Addr} {f0 f1 f2 f3 f4 f5 f6 f7 f8 f9 f10 f11 f12 f13 f14 f15 f16 f17 f18 f19 f20 f21 f22 f23 f24 f25 f26 : Addr} {tk_BOXES : Nat} {gK_USES : Addr} {gK_WRITERS : Addr}
  (X : K.In h) (G : h.Ns mainGlobals mg) (hfa : mg "law" = some (.ref fa))
  (a0 : PySem.W.nsIn K mainGlobals "nexts" = some (some (.ref f0)))
  (F0 : ∃ fd, Fun K "nexts" "nexts" s_nexts f0 fd)
  (a1 : PySem.W.nsIn K mainGlobals "uses" = some (some (.ref f1)))
  (F1 : ∃ fd, Fun K "uses" "uses" s_uses f1 fd)
  (a2 : PySem.W.nsIn K mainGlobals "writes" = some (some (.ref f2)))
  (F2 : ∃ fd, Fun K "writes" "writes" s_writes f2 fd)
  (a3 : PySem.W.nsIn K mainGlobals "places_of" = some (some (.ref f3)))
  (F3 : ∃ fd, Fun K "places_of" "places_of" s_places_of f3 fd)
  (a4 : PySem.W.nsIn K mainGlobals "source" = some (some (.ref f4)))
  (F4 : ∃ fd, Fun K "source" "source" s_source f4 fd)
  (a5 : PySem.W.nsIn K mainGlobals "used_pairs" = some (some (.ref f5)))
  (F5 : ∃ fd, Fun K "used_pairs" "used_pairs" s_used_pairs f5 fd)
  (a6 : PySem.W.nsIn K mainGlobals "befores" = some (some (.ref f6)))
  (F6 : ∃ fd, Fun K "befores" "befores" s_befores f6 fd)
  (a7 : PySem.W.nsIn K mainGlobals "steps_to_uses" = some (some (.ref f7)))
  (F7 : ∃ fd, Fun K "steps_to_uses" "steps_to_uses" s_steps_to_uses f7 fd)
  (a8 : PySem.W.nsIn K mainGlobals "needed_at" = some (some (.ref f8)))
  (F8 : ∃ fd, Fun K "needed_at" "needed_at" s_needed_at f8 fd)
  (a9 : PySem.W.nsIn K mainGlobals "needed" = some (some (.ref f9)))
  (F9 : ∃ fd, Fun K "needed" "needed" s_needed f9 fd)
  (a10 : PySem.W.nsIn K mainGlobals "use_way" = some (some (.ref f10)))
  (F10 : ∃ fd, Fun K "use_way" "use_way" s_use_way f10 fd)
  (a11 : PySem.W.nsIn K mainGlobals "_law_bag" = some (some (.ref f11)))
  (F11 : ∃ fd, Fun K "_law_bag" "_law_bag" s_law_bag f11 fd)
  (a12 : PySem.W.nsIn K mainGlobals "_law_draw" = some (some (.ref f12)))
  (F12 : ∃ fd, Fun K "_law_draw" "_law_draw" s_law_draw f12 fd)
  (a13 : PySem.W.nsIn K mainGlobals "_law_more" = some (some (.ref f13)))
  (F13 : ∃ fd, Fun K "_law_more" "_law_more" s_law_more f13 fd)
  (a14 : PySem.W.nsIn K mainGlobals "_law_whole" = some (some (.ref f14)))
  (F14 : ∃ fd, Fun K "_law_whole" "_law_whole" s_law_whole f14 fd)
  (a15 : PySem.W.nsIn K mainGlobals "_law_part" = some (some (.ref f15)))
  (F15 : ∃ fd, Fun K "_law_part" "_law_part" s_law_part f15 fd)
  (a16 : PySem.W.nsIn K mainGlobals "_law_row" = some (some (.ref f16)))
  (F16 : ∃ fd, Fun K "_law_row" "_law_row" s_law_row f16 fd)
  (a17 : PySem.W.nsIn K mainGlobals "_law_def" = some (some (.ref f17)))
  (F17 : ∃ fd, Fun K "_law_def" "_law_def" s_law_def f17 fd)
  (a18 : PySem.W.nsIn K mainGlobals "_law_any" = some (some (.ref f18)))
  (F18 : ∃ fd, Fun K "_law_any" "_law_any" s_law_any f18 fd)
  (a19 : PySem.W.nsIn K mainGlobals "_law_nexts" = some (some (.ref f19)))
  (F19 : ∃ fd, Fun K "_law_nexts" "_law_nexts" s_law_nexts f19 fd)
  (a20 : PySem.W.nsIn K mainGlobals "_law_writes" = some (some (.ref f20)))
  (F20 : ∃ fd, Fun K "_law_writes" "_law_writes" s_law_writes f20 fd)
  (a21 : PySem.W.nsIn K mainGlobals "_law_uses" = some (some (.ref f21)))
  (F21 : ∃ fd, Fun K "_law_uses" "_law_uses" s_law_uses f21 fd)
  (a22 : PySem.W.nsIn K mainGlobals "_law_travelled" = some (some (.ref f22)))
  (F22 : ∃ fd, Fun K "_law_travelled" "_law_travelled" s_law_travelled f22 fd)
  (a23 : PySem.W.nsIn K mainGlobals "_law_used" = some (some (.ref f23)))
  (F23 : ∃ fd, Fun K "_law_used" "_law_used" s_law_used f23 fd)
  (a24 : PySem.W.nsIn K mainGlobals "_law_comes" = some (some (.ref f24)))
  (F24 : ∃ fd, Fun K "_law_comes" "_law_comes" s_law_comes f24 fd)
  (a25 : PySem.W.nsIn K mainGlobals "_law_walked" = some (some (.ref f25)))
  (F25 : ∃ fd, Fun K "_law_walked" "_law_walked" s_law_walked f25 fd)
  (a26 : PySem.W.nsIn K mainGlobals "law" = some (some (.ref f26)))
  (F26 : ∃ fd, Fun K "law" "law" s_law f26 fd)
  (z_abs : PySem.W.nsIn K mainGlobals "abs" = some none)
  (z_bool : PySem.W.nsIn K mainGlobals "bool" = some none)
  (z_enumerate : PySem.W.nsIn K mainGlobals "enumerate" = some none)
  (z_int : PySem.W.nsIn K mainGlobals "int" = some none)
  (z_isinstance : PySem.W.nsIn K mainGlobals "isinstance" = some none)
  (z_len : PySem.W.nsIn K mainGlobals "len" = some none)
  (z_list : PySem.W.nsIn K mainGlobals "list" = some none)
  (z_range : PySem.W.nsIn K mainGlobals "range" = some none)
  (z_set : PySem.W.nsIn K mainGlobals "set" = some none)
  (z_sorted : PySem.W.nsIn K mainGlobals "sorted" = some none)
  (z_tuple : PySem.W.nsIn K mainGlobals "tuple" = some none)
  (z_zip : PySem.W.nsIn K mainGlobals "zip" = some none)
  (aK_BOXES : PySem.W.nsIn K mainGlobals "BOXES" = some (some (.int (8) tk_BOXES)))
  (aK_USES : PySem.W.nsIn K mainGlobals "USES" = some (some (.ref gK_USES))) (kK_USES : rdK K 6 (.ref gK_USES) = some kd_USES)
  (aK_WRITERS : PySem.W.nsIn K mainGlobals "WRITERS" = some (some (.ref gK_WRITERS))) (kK_WRITERS : rdK K 6 (.ref gK_WRITERS) = some kd_WRITERS) :
  ∃ fd : FuncData, (∀ (s : Shared) (v : Value), BindsTo s fd ⟨[v], []⟩ [("script", v)]) ∧ ∀ base : Heap, K.In base → base.Ns mainGlobals mg → FnOk l.prog w K mg base CX0 6 fa fd ["script"] (spLaw K) := by
 have e := hfa.symm.trans (PySem.W.mg_of X G a26)
 cases e
 obtain ⟨_, F0⟩ := F0
 have b0 := F0.binds (ps := ["rows", "at"]) fun _ _ _ _ _ _ us hl => match us, hl with | [_, _], _ => rfl
 obtain ⟨_, F1⟩ := F1
 have b1 := F1.binds (ps := ["program", "f", "row"]) fun _ _ _ _ _ _ us hl => match us, hl with | [_, _, _], _ => rfl
 obtain ⟨_, F2⟩ := F2
 have b2 := F2.binds (ps := ["row"]) fun _ _ _ _ _ _ us hl => match us, hl with | [_], _ => rfl
 obtain ⟨_, F3⟩ := F3
 have b3 := F3.binds (ps := ["program", "f"]) fun _ _ _ _ _ _ us hl => match us, hl with | [_, _], _ => rfl
 obtain ⟨_, F4⟩ := F4
 have b4 := F4.binds (ps := ["row", "p"]) fun _ _ _ _ _ _ us hl => match us, hl with | [_, _], _ => rfl
 obtain ⟨_, F5⟩ := F5
 have b5 := F5.binds (ps := ["program", "f"]) fun _ _ _ _ _ _ us hl => match us, hl with | [_, _], _ => rfl
 obtain ⟨_, F6⟩ := F6
 have b6 := F6.binds (ps := ["rows"]) fun _ _ _ _ _ _ us hl => match us, hl with | [_], _ => rfl
 obtain ⟨_, F7⟩ := F7
 have b7 := F7.binds (ps := ["program", "f"]) fun _ _ _ _ _ _ us hl => match us, hl with | [_, _], _ => rfl
 obtain ⟨_, F8⟩ := F8
 have b8 := F8.binds (ps := ["steps", "at", "places"]) fun _ _ _ _ _ _ us hl => match us, hl with | [_, _, _], _ => rfl
 obtain ⟨_, F9⟩ := F9
 have b9 := F9.binds (ps := ["program", "f"]) fun _ _ _ _ _ _ us hl => match us, hl with | [_, _], _ => rfl
 obtain ⟨_, F10⟩ := F10
 have b10 := F10.binds (ps := ["program", "f", "at", "p"]) fun _ _ _ _ _ _ us hl => match us, hl with | [_, _, _, _], _ => rfl
 obtain ⟨_, F11⟩ := F11
 have b11 := F11.binds (ps := ["script"]) fun _ _ _ _ _ _ us hl => match us, hl with | [_], _ => rfl
 obtain ⟨_, F12⟩ := F12
 have b12 := F12.binds (ps := ["bag", "many"]) fun _ _ _ _ _ _ us hl => match us, hl with | [_, _], _ => rfl
 obtain ⟨_, F13⟩ := F13
 have b13 := F13.binds (ps := ["bag"]) fun _ _ _ _ _ _ us hl => match us, hl with | [_], _ => rfl
 obtain ⟨_, F14⟩ := F14
 have b14 := F14.binds (ps := ["found"]) fun _ _ _ _ _ _ us hl => match us, hl with | [_], _ => rfl
 obtain ⟨_, F15⟩ := F15
 have b15 := F15.binds (ps := ["bag", "letter", "low", "near", "size"]) fun _ _ _ _ _ _ us hl => match us, hl with | [_, _, _, _, _], _ => rfl
 obtain ⟨_, F16⟩ := F16
 have b16 := F16.binds (ps := ["bag", "signs", "low", "near", "size"]) fun _ _ _ _ _ _ us hl => match us, hl with | [_, _, _, _, _], _ => rfl
 obtain ⟨_, F17⟩ := F17
 have b17 := F17.binds (ps := ["bag", "signs", "sign"]) fun _ _ _ _ _ _ us hl => match us, hl with | [_, _, _], _ => rfl
 obtain ⟨_, F18⟩ := F18
 have b18 := F18.binds (ps := ["bag"]) fun _ _ _ _ _ _ us hl => match us, hl with | [_], _ => rfl
 obtain ⟨_, F19⟩ := F19
 have b19 := F19.binds (ps := ["rows", "at"]) fun _ _ _ _ _ _ us hl => match us, hl with | [_, _], _ => rfl
 obtain ⟨_, F20⟩ := F20
 have b20 := F20.binds (ps := ["row"]) fun _ _ _ _ _ _ us hl => match us, hl with | [_], _ => rfl
 obtain ⟨_, F21⟩ := F21
 have b21 := F21.binds (ps := ["program", "f", "row"]) fun _ _ _ _ _ _ us hl => match us, hl with | [_, _, _], _ => rfl
 obtain ⟨_, F22⟩ := F22
 have b22 := F22.binds (ps := ["row", "p"]) fun _ _ _ _ _ _ us hl => match us, hl with | [_, _], _ => rfl
 obtain ⟨_, F23⟩ := F23
 have b23 := F23.binds (ps := ["program", "f", "at", "p"]) fun _ _ _ _ _ _ us hl => match us, hl with | [_, _, _, _], _ => rfl
 obtain ⟨_, F24⟩ := F24
 have b24 := F24.binds (ps := ["program", "f", "at", "p"]) fun _ _ _ _ _ _ us hl => match us, hl with | [_, _, _, _], _ => rfl
 obtain ⟨_, F25⟩ := F25
 have b25 := F25.binds (ps := ["program", "f", "at", "p", "way"]) fun _ _ _ _ _ _ us hl => match us, hl with | [_, _, _, _, _], _ => rfl
 obtain ⟨_, F26⟩ := F26
 obtain ⟨_, _, _, _, _, _, _, _, _, e_, _, _⟩ := F26.ex
 subst e_
 have b26 := F26.binds (ps := ["script"]) fun _ _ _ _ _ _ us hl => match us, hl with | [_], _ => rfl
 have T : Txt K mg ⟨_, _, _, _, _, _, _, _, _, _, _, _, _, _, _, _, _, _, _, _, _, _, _, _, _, _, _, _, _, _, _, _, _, _, _, _, _, _, _, _, _, _, _, _, _, _, _, _, _, _, _, _, _, _, _, _, _⟩ := ⟨F0, b0, PySem.W.mg_of X G a0, F1, b1, PySem.W.mg_of X G a1, F2, b2, PySem.W.mg_of X G a2, F3, b3, PySem.W.mg_of X G a3, F4, b4, PySem.W.mg_of X G a4, F5, b5, PySem.W.mg_of X G a5, F6, b6, PySem.W.mg_of X G a6, F7, b7, PySem.W.mg_of X G a7, F8, b8, PySem.W.mg_of X G a8, F9, b9, PySem.W.mg_of X G a9, F10, b10, PySem.W.mg_of X G a10, F11, b11, PySem.W.mg_of X G a11, F12, b12, PySem.W.mg_of X G a12, F13, b13, PySem.W.mg_of X G a13, F14, b14, PySem.W.mg_of X G a14, F15, b15, PySem.W.mg_of X G a15, F16, b16, PySem.W.mg_of X G a16, F17, b17, PySem.W.mg_of X G a17, F18, b18, PySem.W.mg_of X G a18, F19, b19, PySem.W.mg_of X G a19, F20, b20, PySem.W.mg_of X G a20, F21, b21, PySem.W.mg_of X G a21, F22, b22, PySem.W.mg_of X G a22, F23, b23, PySem.W.mg_of X G a23, F24, b24, PySem.W.mg_of X G a24, F25, b25, PySem.W.mg_of X G a25, F26, b26, PySem.W.mg_of X G a26, PySem.W.mg_none_of X G z_abs, PySem.W.mg_none_of X G z_bool, PySem.W.mg_none_of X G z_enumerate, PySem.W.mg_none_of X G z_int, PySem.W.mg_none_of X G z_isinstance, PySem.W.mg_none_of X G z_len, PySem.W.mg_none_of X G z_list, PySem.W.mg_none_of X G z_range, PySem.W.mg_none_of X G z_set, PySem.W.mg_none_of X G z_sorted, PySem.W.mg_none_of X G z_tuple, PySem.W.mg_none_of X G z_zip, PySem.W.mg_of X G aK_BOXES, PySem.W.mg_of X G aK_USES, kK_USES, PySem.W.mg_of X G aK_WRITERS, kK_WRITERS⟩
 exact ⟨_, fun s v => .of_eq rfl, fun base _ _ => zij T⟩
theorem walk {l : PySem.W.OpenLaw} {q : Program} {loose : List Str} {XP : (Str → Option Value) → Heap → Prop} {YP : World → Heap → Prop} {d : DefRec} {K : Params → PySem.W.Frag} (hn : l.most = some 63) (hdf : d.params.defaults = [])
  (hY : ∀ (w : World) (h : Heap), YP w h → (K w.params).In h)
  (F : ∀ (w : World) (mg : Str → Option Value) (fa : Addr) (h : Heap), (K w.params).In h → h.Ns mainGlobals mg → mg d.name = some (.ref fa) →
   ∃ fd : FuncData, (∀ (s : Shared) (u : Value), BindsTo s fd ⟨[u], []⟩ [("script", u)]) ∧ ∀ base : Heap, (K w.params).In base → base.Ns mainGlobals mg → FnOk l.prog w (K w.params) mg base CX0 6 fa fd ["script"] (spLaw (K w.params))) :
  PySem.W.WalkO q loose XP YP l.row.toRowW d [] (fun f vs => PySem.call f vs) :=
 L2.walk_of (n := 63) (k := 6) (x := "script") (CX := fun w => CX0) (sp := fun w => spLaw (K w.params)) hn (by decide) hdf ⟨rfl, by decide, by decide⟩ hY F (fun _ _ a ns hl _ hS => ⟨a, ns, rfl, hS, hl, fun _ => rfl⟩) fun _ _ _ _ _ z => z
end Law
open PySem PySem.W PyProof.Rows
namespace PySem.W.Fast
theorem tw15488852729495308444 :True:=⟨⟩
theorem tw3169448862705774765 :True:=⟨⟩
theorem tw12092895116861614078 :True:=⟨⟩
theorem tw2814252469217402191 :True:=⟨⟩
theorem tw15203154685934014003 :True:=⟨⟩
theorem tw11262588980035993352 :True:=⟨⟩
theorem tw4437668587710407332 :True:=⟨⟩
theorem tw8887082049452694804 :True:=⟨⟩
theorem tw4860476999233576167 :True:=⟨⟩
theorem tw7749709925480441674 :True:=⟨⟩
theorem tw16532401988374076830 :True:=⟨⟩
theorem tw17293203274850451574 :True:=⟨⟩
theorem tw8508706960054641933 :True:=⟨⟩
theorem tw5264216867836396110 :True:=⟨⟩
theorem tw1655227280389788855 :True:=⟨⟩
theorem tw16744488601330692970 :True:=⟨⟩
theorem tw8068076544381070278 :True:=⟨⟩
theorem tw18047124554415671694 :True:=⟨⟩
theorem tw11362999553857903972 :True:=⟨⟩
theorem tw13050706831123104870 :True:=⟨⟩
theorem tw4768678552381987960 :True:=⟨⟩
theorem tw9404486066451115605 :True:=⟨⟩
theorem tw11847343009022171512 :True:=⟨⟩
theorem tw16384156798426782270 :True:=⟨⟩
theorem tw1792462114841450679 :True:=⟨⟩
theorem tw2424162202159799169 :True:=⟨⟩
theorem tw7043280394025640319 :True:=⟨⟩
theorem tw15345875503057597720 :True:=⟨⟩
theorem tw1896900582973521407 :True:=⟨⟩
theorem tw2081266827544853541 :True:=⟨⟩
theorem tw14153440277381105322 :True:=⟨⟩
theorem tw14808962675096641038 :True:=⟨⟩
theorem tw10819868293038861674 :True:=⟨⟩
end PySem.W.Fast
set_option maxRecDepth 100000 in
set_option maxHeartbeats 0 in
theorem PySem.Challenge.cw_knownholds_k42_whole_ways_to_uses_holds : PySem.Challenge.rw_knownholds_k42_whole_ways_to_uses.Holds := by
 w_on; o_law; k_head; (case hw => w_witness2)
 k_fill
 refine Law.walk (l := PySem.Challenge.rw_knownholds_k42_whole_ways_to_uses) rfl rfl (fun w h Y => PySem.W.kIn_of Y) ?F
 case F =>
  intro w mg fa h KX G hmg
  refine' Law.all_mk KX G hmg ?a0 ?F0 ?a1 ?F1 ?a2 ?F2 ?a3 ?F3 ?a4 ?F4 ?a5 ?F5 ?a6 ?F6 ?a7 ?F7 ?a8 ?F8 ?a9 ?F9 ?a10 ?F10 ?a11 ?F11 ?a12 ?F12 ?a13 ?F13 ?a14 ?F14 ?a15 ?F15 ?a16 ?F16 ?a17 ?F17 ?a18 ?F18 ?a19 ?F19 ?a20 ?F20 ?a21 ?F21 ?a22 ?F22 ?a23 ?F23 ?a24 ?F24 ?a25 ?F25 ?a26 ?F26 ?z_abs ?z_bool ?z_enumerate ?z_int ?z_isinstance ?z_len ?z_list ?z_range ?z_set ?z_sorted ?z_tuple ?z_zip ?aK_BOXES ?aK_USES ?kK_USES ?aK_WRITERS ?kK_WRITERS
  (case a0 => k_is)
  (case F0 => exact ⟨_, L2.fun_mk (by k_is) (by k_is) (by k_is)⟩)
  (case a1 => k_is)
  (case F1 => exact ⟨_, L2.fun_mk (by k_is) (by k_is) (by k_is)⟩)
  (case a2 => k_is)
  (case F2 => exact ⟨_, L2.fun_mk (by k_is) (by k_is) (by k_is)⟩)
  (case a3 => k_is)
  (case F3 => exact ⟨_, L2.fun_mk (by k_is) (by k_is) (by k_is)⟩)
  (case a4 => k_is)
  (case F4 => exact ⟨_, L2.fun_mk (by k_is) (by k_is) (by k_is)⟩)
  (case a5 => k_is)
  (case F5 => exact ⟨_, L2.fun_mk (by k_is) (by k_is) (by k_is)⟩)
  (case a6 => k_is)
  (case F6 => exact ⟨_, L2.fun_mk (by k_is) (by k_is) (by k_is)⟩)
  (case a7 => k_is)
  (case F7 => exact ⟨_, L2.fun_mk (by k_is) (by k_is) (by k_is)⟩)
  (case a8 => k_is)
  (case F8 => exact ⟨_, L2.fun_mk (by k_is) (by k_is) (by k_is)⟩)
  (case a9 => k_is)
  (case F9 => exact ⟨_, L2.fun_mk (by k_is) (by k_is) (by k_is)⟩)
  (case a10 => k_is)
  (case F10 => exact ⟨_, L2.fun_mk (by k_is) (by k_is) (by k_is)⟩)
  (case a11 => k_is)
  (case F11 => exact ⟨_, L2.fun_mk (by k_is) (by k_is) (by k_is)⟩)
  (case a12 => k_is)
  (case F12 => exact ⟨_, L2.fun_mk (by k_is) (by k_is) (by k_is)⟩)
  (case a13 => k_is)
  (case F13 => exact ⟨_, L2.fun_mk (by k_is) (by k_is) (by k_is)⟩)
  (case a14 => k_is)
  (case F14 => exact ⟨_, L2.fun_mk (by k_is) (by k_is) (by k_is)⟩)
  (case a15 => k_is)
  (case F15 => exact ⟨_, L2.fun_mk (by k_is) (by k_is) (by k_is)⟩)
  (case a16 => k_is)
  (case F16 => exact ⟨_, L2.fun_mk (by k_is) (by k_is) (by k_is)⟩)
  (case a17 => k_is)
  (case F17 => exact ⟨_, L2.fun_mk (by k_is) (by k_is) (by k_is)⟩)
  (case a18 => k_is)
  (case F18 => exact ⟨_, L2.fun_mk (by k_is) (by k_is) (by k_is)⟩)
  (case a19 => k_is)
  (case F19 => exact ⟨_, L2.fun_mk (by k_is) (by k_is) (by k_is)⟩)
  (case a20 => k_is)
  (case F20 => exact ⟨_, L2.fun_mk (by k_is) (by k_is) (by k_is)⟩)
  (case a21 => k_is)
  (case F21 => exact ⟨_, L2.fun_mk (by k_is) (by k_is) (by k_is)⟩)
  (case a22 => k_is)
  (case F22 => exact ⟨_, L2.fun_mk (by k_is) (by k_is) (by k_is)⟩)
  (case a23 => k_is)
  (case F23 => exact ⟨_, L2.fun_mk (by k_is) (by k_is) (by k_is)⟩)
  (case a24 => k_is)
  (case F24 => exact ⟨_, L2.fun_mk (by k_is) (by k_is) (by k_is)⟩)
  (case a25 => k_is)
  (case F25 => exact ⟨_, L2.fun_mk (by k_is) (by k_is) (by k_is)⟩)
  (case a26 => k_is)
  (case F26 => exact ⟨_, L2.fun_mk (by k_is) (by k_is) (by k_is)⟩)
  (case z_abs => k_is)
  (case z_bool => k_is)
  (case z_enumerate => k_is)
  (case z_int => k_is)
  (case z_isinstance => k_is)
  (case z_len => k_is)
  (case z_list => k_is)
  (case z_range => k_is)
  (case z_set => k_is)
  (case z_sorted => k_is)
  (case z_tuple => k_is)
  (case z_zip => k_is)
  (case aK_BOXES => k_is)
  (case aK_USES => k_is)
  (case kK_USES => kernel_rfl)
  (case aK_WRITERS => k_is)
  (case kK_WRITERS => kernel_rfl)
