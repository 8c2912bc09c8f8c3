import PyProof.Rows.All
import Wide.All
import OpenK.AllK
import Wide.FinOn
import Lean
import PyProof.EqAt
import PyProof.EqKinds
import PyProof.TupleCall
import KE.KTab
import PyProof.ListRange
import PySem.Challenge.RW_knownholds_k21_a_hand_begins
set_option Elab.async false
set_option linter.all false
set_option maxRecDepth 100000
namespace L2
open PySem PySem.Spec PyProof.Rows

/-- a key: an int or a str -/
abbrev Key := Sum Int Str
def keyIs : Key → Value → Bool
  | .inl k, v => Value.isInt k v
  | .inr x, v => Value.isStrOf x v
def keyH (w : World) : Key → Int
  | .inl k => hashInt k
  | .inr x => hashStr w x
theorem keyIs_shape : ∀ {k : Key} {v : Value}, keyIs k v = true → (∃ i t, k = Sum.inl i ∧ v = Value.int i t) ∨ (∃ x t, k = Sum.inr x ∧ v = Value.str x t)
  | .inl i, v, h => by
    obtain ⟨t, e⟩ := Value.isInt_shape (k := i) (v := v) h
    exact .inl ⟨i, t, rfl, e⟩
  | .inr x, v, h => by
    obtain ⟨t, e⟩ := Value.isStrOf_shape (x := x) (v := v) h
    exact .inr ⟨x, t, rfl, e⟩
theorem keyIs_int (i : Int) (t : Tok) : keyIs (.inl i) (.int i t) = true := by simp [keyIs, Value.isInt]
theorem keyIs_str (x : Str) (t : Tok) : keyIs (.inr x) (.str x t) = true := by simp [keyIs, Value.isStrOf]
theorem key_ll (a b : Int) : decide ((Sum.inl a : Key) = Sum.inl b) = (a == b) := by
  by_cases e : a = b
  · subst e; simp
  · have h : ¬ (Sum.inl a : Key) = Sum.inl b := fun q => e (Sum.inl.inj q)
    rw [decide_eq_false h]
    exact (beq_eq_false_iff_ne.mpr e).symm
theorem key_rr (a b : Str) : decide ((Sum.inr a : Key) = Sum.inr b) = decide (a = b) := by
  by_cases e : a = b
  · subst e; simp
  · have h : ¬ (Sum.inr a : Key) = Sum.inr b := fun q => e (Sum.inr.inj q)
    rw [decide_eq_false h, decide_eq_false e]
theorem key_lr (a : Int) (b : Str) : decide ((Sum.inl a : Key) = Sum.inr b) = false := decide_eq_false (fun q => nomatch q)
theorem key_rl (a : Str) (b : Int) : decide ((Sum.inr a : Key) = Sum.inl b) = false := decide_eq_false (fun q => nomatch q)

def mixKind (prog : Program) (w : World) : PySem.KeyKind prog w Key where
  is := keyIs
  hash := keyH w
  inj := fun v a b ha hb => by
    rcases keyIs_shape ha with ⟨i, t, rfl, rfl⟩ | ⟨x, t, rfl, rfl⟩
    · rcases keyIs_shape hb with ⟨j, u, rfl, e⟩ | ⟨y, u, rfl, e⟩
      · injection e with e1 _; rw [e1]
      · exact nomatch e
    · rcases keyIs_shape hb with ⟨j, u, rfl, e⟩ | ⟨y, u, rfl, e⟩
      · exact nomatch e
      · injection e with e1 _; rw [e1]
  byValue := fun k v h => by
    rcases keyIs_shape h with ⟨i, t, rfl, rfl⟩ | ⟨x, t, rfl, rfl⟩ <;> rfl
  pyHash := fun hv h => by
    rcases keyIs_shape hv with ⟨i, t, rfl, rfl⟩ | ⟨x, t, rfl, rfl⟩
    · exact wpAny_pyHash_int h
    · exact wpAny_pyHash_str h
  eqBool := fun hu hv h => by
    rcases keyIs_shape hu with ⟨i, t, rfl, rfl⟩ | ⟨x, t, rfl, rfl⟩
    · rcases keyIs_shape hv with ⟨j, u, rfl, rfl⟩ | ⟨y, u, rfl, rfl⟩
      · rw [key_ll] at h; exact wpAny_eqBool_int h
      · rw [key_lr] at h; exact SeqAt.EqAt.int_str i t y u _ _ _ _ h
    · rcases keyIs_shape hv with ⟨j, u, rfl, rfl⟩ | ⟨y, u, rfl, rfl⟩
      · rw [key_rl] at h; exact SeqAt.EqAt.str_int x t j u _ _ _ _ h
      · rw [key_rr] at h; exact wpAny_eqBool_str h
  «strs» := fun k x t v h => by
    rcases keyIs_shape h with ⟨i, u, rfl, e⟩ | ⟨y, u, rfl, e⟩
    · exact nomatch e
    · injection e with e1 _
      subst e1
      cases v <;> rfl

theorem mixKind_int (prog : Program) (w : World) (i : Int) (t : Tok) : (mixKind prog w).is (.inl i) (.int i t) = true := keyIs_int i t
theorem mixKind_str (prog : Program) (w : World) (x : Str) (t : Tok) : (mixKind prog w).is (.inr x) (.str x t) = true := keyIs_str x t
end L2

namespace L2
open PySem PySem.Spec PyProof.Rows

/-- a value, without the heap -/
inductive V where
  | non | bl (b : Bool) | int (i : Int) | str (x : Str) | byt (b : Array UInt8) | flt (b : UInt64) | ref (a : Addr) | ty (n : String)
  deriving DecidableEq

def RelV : V → Value → Prop
  | .non, u => u = Value.none
  | .bl b, u => u = Value.bool b
  | .int i, u => ∃ t, u = Value.int i t
  | .str x, u => ∃ t, u = Value.str x t
  | .byt b, u => ∃ t, u = Value.bytes b t
  | .flt b, u => ∃ t, u = Value.float b t
  | .ref a, u => u = Value.ref a
  | .ty n, u => u = Value.type n

abbrev Vals : List V → List Value → Prop := Paired RelV
theorem Vals.length {xs : List V} {us : List Value} (r : Vals xs us) : xs.length = us.length := Paired.length r
theorem Vals.get : ∀ {xs : List V} {us : List Value} {i : Nat} {x : V}, Vals xs us → xs[i]? = some x → ∃ u, us[i]? = some u ∧ RelV x u
  | _, _, _, _, .nil, e => by simp at e
  | _, _, 0, _, .cons r _, e => by simp at e; subst e; exact ⟨_, rfl, r⟩
  | _, _, i + 1, x, .cons _ t, e => by
    obtain ⟨u, h1, h2⟩ := Vals.get (i := i) (x := x) t (by simpa using e)
    exact ⟨u, by simpa using h1, h2⟩
theorem Vals.set {x : V} {u : Value} (r : RelV x u) : ∀ {xs : List V} {us : List Value} (i : Nat), Vals xs us → Vals (xs.set i x) (us.set i u)
  | _, _, _, .nil => .nil
  | _, _, 0, .cons _ t => .cons r t
  | _, _, i + 1, .cons q t => .cons q (Vals.set r i t)
theorem Vals.append : ∀ {xs ys : List V} {us ws : List Value}, Vals xs us → Vals ys ws → Vals (xs ++ ys) (us ++ ws)
  | _, _, _, _, .nil, s => s
  | _, _, _, _, .cons r t, s => .cons r (Vals.append t s)
theorem Vals.take : ∀ {xs : List V} {us : List Value} (n : Nat), Vals xs us → Vals (xs.take n) (us.take n)
  | _, _, 0, _ => .nil
  | _, _, _ + 1, .nil => .nil
  | _, _, n + 1, .cons r t => .cons r (Vals.take n t)
theorem Vals.drop : ∀ {xs : List V} {us : List Value} (n : Nat), Vals xs us → Vals (xs.drop n) (us.drop n)
  | _, _, 0, r => r
  | _, _, _ + 1, .nil => .nil
  | _, _, n + 1, .cons _ t => Vals.drop n t
theorem Vals.none_of : ∀ {xs : List V} {us : List Value} {i : Nat}, Vals xs us → xs[i]? = none → us[i]? = none := fun {xs us i} r e => by
  have h1 := r.length
  have h2 : xs.length ≤ i := List.getElem?_eq_none_iff.mp e
  exact List.getElem?_eq_none_iff.mpr (by omega)

def RelO : Option V → Option Value → Prop
  | some v, some u => RelV v u
  | none, none => True
  | _, _ => False
def KV {κ : Type} : List (κ × V) → List (κ × Value) → Prop := Paired fun (p : κ × V) (q : κ × Value) => p.1 = q.1 ∧ RelV p.2 q.2

/-- a key of a dict (00_mix): an int or a text -/
def kV : Key → V
  | .inl i => .int i
  | .inr x => .str x

/-- what stands at a tracked address -/
inductive HO where
  /-- a list -/
  | lst (xs : List V)
  /-- a tuple (never changes) -/
  | tup (xs : List V)
  /-- a dict whose keys are ints and texts; one whose keys are tuples of ints and texts (the empty one is both) -/
  | dK (kvs : List (Key × V)) | dT (kvs : List (List Key × V))
  /-- a set of ints: its members, its size -/
  | set (S : Int → Bool) (n : Nat)
  /-- an instance of the class at C, its dict at dx, its attributes -/
  | ins (C dx : Addr) (fs : List (Str × V))
  /-- the dict of the instance at x -/
  | own (x : Addr)
  /-- the dict of an exception -/
  | xd (fs : List (Str × V))
  /-- a bound method, f of x -/
  | met (f x : Addr)
  /-- a range object lo, lo + 1, .. below hi -/
  | rng (lo hi : Int)
  /-- a thing that is known to the object (the script; a dict while a loop walks it): read, never written while it is so -/
  | frz (o : Obj) (u : HO)
  /-- a code object's table -/
  | tbl (ps : Array Value)
  /-- any other thing, by what is true of its one object (a def of one's own: SetO a S n := HO.ext fun h => ..) -/
  | ext (φ : Heap → Prop)

abbrev Hp := Addr → Option HO
def upd (H : Hp) (a : Addr) (o : HO) : Hp := fun b => if b = a then some o else H b
theorem upd_same {H : Hp} {a : Addr} {o : HO} : upd H a o a = some o := by unfold upd; rw [if_pos rfl]
theorem upd_ne {H : Hp} {a b : Addr} {o : HO} (h : b ≠ a) : upd H a o b = H b := by unfold upd; rw [if_neg h]
theorem upd_upd {H : Hp} {a : Addr} {o u : HO} : upd (upd H a o) a u = upd H a u := by
  funext b; unfold upd; split <;> rfl
/-- two objects of different content stand apart -/
theorem ne_of {H : Hp} {a b : Addr} {o u : HO} (h : H a = some o) (h' : H b = some u) (d : o ≠ u) : a ≠ b := by
  intro e; subst e; rw [h] at h'; exact d (Option.some.inj h')
theorem ne_of_none {H : Hp} {a b : Addr} {o : HO} (h : H a = some o) (h' : H b = none) : a ≠ b := by
  intro e; subst e; rw [h] at h'; cases h'

section
variable (P : Program) (w : World)
def ObjOk (H : Hp) (h : Heap) (a : Addr) : HO → Prop
  | .lst xs => xs.length ≤ sizeLine ∧ ∃ (its : List Value) (n : Nat), Vals xs its ∧ h.get? a = some { cls := .type "list", data := .seq its.toArray n }
  | .tup xs => xs.length ≤ sizeLine ∧ ∃ its : List Value, Vals xs its ∧ IsTup h a its.toArray
  | .dK kvs => kvs.length ≤ sizeLine ∧ (a == sysModules) = false ∧ ∃ vs, KV kvs vs ∧ h.DictOf (mixKind P w) a vs
  | .dT kvs => kvs.length ≤ sizeLine ∧ (a == sysModules) = false ∧ ∃ xs : List (List Key × Addr × Value),
      Paired (fun (p : List Key × V) (q : List Key × Addr × Value) => p.1 = q.1 ∧ H q.2.1 = some (.tup (p.1.map kV)) ∧ RelV p.2 q.2.2) kvs xs ∧
      ∃ o es ep, h.get? a = some o ∧ o.ExactDict ∧ o.data = .dict es ep ∧ es.toList = xs.map (entryOfKey (tupleKind (mixKind P w))) ∧ (xs.map (·.1)).Nodup
  | .set S n => h.SetOf (intKind P w) a S n
  | .ins C dx fs => H dx = some (.own a) ∧ fs.length ≤ 1000 ∧ dx ≠ a ∧ h.get? a = some (PySem.W.instObj C dx) ∧
      ∃ mA, h.Ns1 dx mA ∧ (∀ f, RelO (fs.lookup f) (mA f)) ∧ PySem.Within mA (fs.map (·.1))
  | .own _ => ∃ o, h.get? a = some o
  | .xd fs => ∃ mA, h.Ns1 a mA ∧ ∀ f, RelO (fs.lookup f) (mA f)
  | .rng lo hi => ∃ t u v, h.get? a = some { cls := .type "range", data := .fields #[.int lo t, .int hi u, .int 1 v] }
  | .frz o u => h.get? a = some o ∧ ObjOk H h a u
  | .tbl ps => h.get? a = some { cls := .none, data := .fields ps }
  | .met f x => h.get? a = some (PySem.W.methodObj (.ref f) (.ref x))
  | .ext φ => φ h ∧ (∃ o, h.get? a = some o) ∧ ∀ h1 h2 : Heap, φ h1 → (∀ o, h1.get? a = some o → h2.get? a = some o) → φ h2
/-- the abstract heap is held -/
def HOk (H : Hp) (h : Heap) : Prop := ∀ a o, H a = some o → ObjOk P w H h a o
end

section
variable {P : Program} {w : World} {H H' : Hp} {h h' : Heap} {a : Addr} {o : HO}
theorem ObjOk.lt (x : ObjOk P w H h a o) : a < h.objs.size := by
  cases o with
  | lst xs => obtain ⟨_, _, _, _, e⟩ := x; exact Heap.lt_size e
  | tup xs => obtain ⟨_, _, _, p⟩ := x; exact p.lt
  | dK kvs => obtain ⟨_, _, _, _, o, _, _, e, _⟩ := x; exact Heap.lt_size e
  | dT kvs => obtain ⟨_, _, _, _, o, _, _, e, _⟩ := x; exact Heap.lt_size e
  | set S n => obtain ⟨o, _, _, _, e, _⟩ := x; exact Heap.lt_size e
  | ins C dx fs => obtain ⟨_, _, _, e, _⟩ := x; exact Heap.lt_size e
  | own y => obtain ⟨_, e⟩ := x; exact Heap.lt_size e
  | xd fs => obtain ⟨_, ⟨_, _, _, e, _⟩, _⟩ := x; exact Heap.lt_size e
  | rng lo hi => obtain ⟨_, _, _, e⟩ := x; exact Heap.lt_size e
  | frz ob u => obtain ⟨e, _⟩ := x; exact Heap.lt_size e
  | tbl ps => exact Heap.lt_size (show h.get? a = some _ from x)
  | met f y => exact Heap.lt_size (show h.get? a = some _ from x)
  | ext φ => obtain ⟨_, ⟨_, e⟩, _⟩ := x; exact Heap.lt_size e
theorem Paired.mapP {α β : Type} {F G : α → β → Prop} : ∀ {l₁ : List α} {l₂ : List β}, Paired F l₁ l₂ → (∀ a b, F a b → G a b) → Paired G l₁ l₂
  | _, _, .nil, _ => .nil
  | _, _, .cons r t, f => .cons (f _ _ r) (Paired.mapP t f)
/-- what an object's description leans on: its own object, its own dict, the tuples -/
theorem ObjOk.stay (x : ObjOk P w H h a o) (k : ∀ b u, (b = a ∨ H b = some (.own a)) → h.get? b = some u → h'.get? b = some u)
    (ho : ∀ b, H b = some (.own a) → H' b = some (.own a)) (ht : ∀ b xs, H b = some (.tup xs) → H' b = some (.tup xs)) : ObjOk P w H' h' a o := by
  induction o with
  | lst xs => obtain ⟨z, its, n, r, e⟩ := x; exact ⟨z, its, n, r, k _ _ (.inl rfl) e⟩
  | tup xs => obtain ⟨z, its, r, ob, e, c⟩ := x; exact ⟨z, its, r, ob, k _ _ (.inl rfl) e, c⟩
  | dK kvs => obtain ⟨z, y, vs, r, ob, es, ep, e, c⟩ := x; exact ⟨z, y, vs, r, ob, es, ep, k _ _ (.inl rfl) e, c⟩
  | dT kvs =>
    obtain ⟨z, y, xs, r, ob, es, ep, e, c⟩ := x
    exact ⟨z, y, xs, Paired.mapP r fun p q z => ⟨z.1, ht _ _ z.2.1, z.2.2⟩, ob, es, ep, k _ _ (.inl rfl) e, c⟩
  | set S n => obtain ⟨ob, es, ep, t, e, c⟩ := x; exact ⟨ob, es, ep, t, k _ _ (.inl rfl) e, c⟩
  | ins C dx fs =>
    obtain ⟨d, z, ne, e, mA, ⟨od, es, ep, e2, c⟩, r⟩ := x
    exact ⟨ho _ d, z, ne, k _ _ (.inl rfl) e, mA, ⟨od, es, ep, k _ _ (.inr d) e2, c⟩, r⟩
  | own y => obtain ⟨ob, e⟩ := x; exact ⟨ob, k _ _ (.inl rfl) e⟩
  | xd fs => obtain ⟨mA, ⟨od, es, ep, e, c⟩, r⟩ := x; exact ⟨mA, ⟨od, es, ep, k _ _ (.inl rfl) e, c⟩, r⟩
  | rng lo hi => obtain ⟨t, u, v, e⟩ := x; exact ⟨t, u, v, k _ _ (.inl rfl) e⟩
  | frz ob u ih => obtain ⟨e, q⟩ := x; exact ⟨k _ _ (.inl rfl) e, ih q⟩
  | tbl ps =>
    have e : h.get? a = some { cls := .none, data := .fields ps } := x
    show h'.get? a = some { cls := .none, data := .fields ps }
    exact k a _ (.inl rfl) e
  | met f y =>
    have e : h.get? a = some (PySem.W.methodObj (.ref f) (.ref y)) := x
    show h'.get? a = some (PySem.W.methodObj (.ref f) (.ref y))
    exact k a _ (.inl rfl) e
  | ext φ => obtain ⟨p, ⟨o, e⟩, st⟩ := x; exact ⟨st _ _ p fun o q => k _ _ (.inl rfl) q, ⟨o, k _ _ (.inl rfl) e⟩, st⟩
theorem HOk.lt (x : HOk P w H h) (e : H a = some o) : a < h.objs.size := (x a o e).lt
theorem HOk.fresh (x : HOk P w H h) (e : h.objs.size ≤ a) : H a = none := by
  cases q : H a with
  | none => rfl
  | some u => exact absurd (Nat.lt_of_lt_of_le (x.lt q) e) (Nat.lt_irrefl _)
/-- every object of the heap is kept -/
theorem HOk.kept (x : HOk P w H h) (k : ∀ b u, h.get? b = some u → h'.get? b = some u) : HOk P w H h' := fun a o e =>
  (x a o e).stay (fun b u _ q => k b u q) (fun _ q => q) fun _ _ q => q
/-- a new object is laid and tracked -/
theorem HOk.laid (x : HOk P w H h) (k : ∀ b u, h.get? b = some u → h'.get? b = some u) (hp : h.objs.size ≤ a) (new : ObjOk P w (upd H a o) h' a o) : HOk P w (upd H a o) h' := fun b u e => by
  have hn := x.fresh hp
  by_cases hb : b = a
  · subst hb; rw [upd_same] at e; cases e; exact new
  · rw [upd_ne hb] at e
    exact (x b u e).stay (fun c v _ q => k c v q) (fun c q => by rw [upd_ne (ne_of_none q hn)]; exact q) fun c xs q => by rw [upd_ne (ne_of_none q hn)]; exact q
end

/-- what may be read as u: it is u, or a known u -/
def Rd (H : Hp) (a : Addr) (u : HO) : Prop := H a = some u ∨ ∃ o, H a = some (.frz o u)
theorem Rd.of {H : Hp} {a : Addr} {u : HO} (h : H a = some u) : Rd H a u := .inl h
theorem Rd.ok {P : Program} {w : World} {H : Hp} {h : Heap} {a : Addr} {u : HO} (r : Rd H a u) (x : HOk P w H h) : ObjOk P w H h a u := by
  rcases r with r | ⟨o, r⟩
  · exact x a u r
  · obtain ⟨_, q⟩ := x a _ r
    exact q
/-- what may be written -/
def Mut : Option HO → Prop
  | some (.lst _) => True
  | some (.dK _) => True
  | some (.dT _) => True
  | some (.set _ _) => True
  | some (.ins _ _ _) => True
  | some (.ext _) => True
  | _ => False
section
variable {P : Program} {w : World} {H : Hp} {h h' : Heap} {x e : Addr} {o' : HO}
/-- the object at e is changed: x itself, or the dict of the instance x -/
theorem HOk.write (ok : HOk P w H h) (mu : Mut (H x)) (he : e = x ∨ H e = some (.own x)) (k : ∀ b u, b ≠ e → h.get? b = some u → h'.get? b = some u) (heo : ∃ u, h'.get? e = some u)
    (new : ObjOk P w (upd H x o') h' x o') : HOk P w (upd H x o') h' := fun b u q => by
  have nown : ∀ c y, H c = some (.own y) → c ≠ x := fun c y r z => by subst z; rw [r] at mu; exact mu
  have ntup : ∀ c xs, H c = some (.tup xs) → c ≠ x := fun c xs r z => by subst z; rw [r] at mu; exact mu
  by_cases hb : b = x
  · subst hb; rw [upd_same] at q; cases q; exact new
  · rw [upd_ne hb] at q
    by_cases hbe : b = e
    · have q' : H b = some (.own x) := by
        rcases he with z | z
        · exact absurd (hbe.trans z) hb
        · rw [hbe]; exact z
      rw [q] at q'; cases q'
      obtain ⟨v, hv⟩ := heo
      exact ⟨v, by rw [hbe]; exact hv⟩
    · refine (ok b u q).stay (fun c v hc r => k c v ?_ r) (fun c r => by rw [upd_ne (nown c b r)]; exact r) fun c xs r => by rw [upd_ne (ntup c xs r)]; exact r
      rcases hc with rfl | hc
      · exact hbe
      · rintro rfl
        rcases he with z | z
        · exact nown c b hc z
        · rw [hc] at z; cases z; exact hb rfl
end

structure Un (fs ex : List Addr) (H H' : Hp) (h h' : Heap) : Prop where
  keep : ∀ b o, h.get? b = some o → H b = none → b ∉ fs → b ∉ ex → h'.get? b = some o
  slot : ∀ b o, h.get? b = some o → H b = none → b ∈ fs → b ∉ ex → ∃ sl, h'.get? b = some { o with slots := sl }
  free : ∀ b o, h.get? b = some o → H b = none → b ∉ ex → H' b = none
  there : ∀ b o, h.get? b = some o → b ∉ ex → ∃ o', h'.get? b = some o'
  tups : ∀ b xs, H b = some (.tup xs) → H' b = some (.tup xs)
  frzs : ∀ b o u, H b = some (.frz o u) → H' b = some (.frz o u)
  tbls : ∀ b ps, H b = some (.tbl ps) → ∃ more, H' b = some (.tbl (ps ++ more))
section
variable {fs fs' ex ex' : List Addr} {H H1 H2 : Hp} {h h1 h2 h' : Heap} {a x e : Addr} {o : HO}
theorem Un.any (u : Un fs ex H H1 h h1) {b : Addr} {ob : Obj} (q : h.get? b = some ob) (n : H b = none) (hx : b ∉ ex) : ∃ sl, h1.get? b = some { ob with slots := sl } := by
  by_cases hb : b ∈ fs
  · exact u.slot b ob q n hb hx
  · exact ⟨ob.slots, u.keep b ob q n hb hx⟩
theorem Un.trans (a : Un fs ex H H1 h h1) (b : Un fs ex H1 H2 h1 h2) : Un fs ex H H2 h h2 where
  keep := fun c ob q n hc hx => b.keep c ob (a.keep c ob q n hc hx) (a.free c ob q n hx) hc hx
  slot := fun c ob q n hc hx => by
    obtain ⟨sl, e1⟩ := a.slot c ob q n hc hx
    obtain ⟨sl', e2⟩ := b.slot c _ e1 (a.free c ob q n hx) hc hx
    exact ⟨sl', e2⟩
  free := fun c ob q n hx => by
    obtain ⟨o', e1⟩ := a.there c ob q hx
    exact b.free c o' e1 (a.free c ob q n hx) hx
  there := fun c ob q hx => by
    obtain ⟨o', e1⟩ := a.there c ob q hx
    exact b.there c o' e1 hx
  tups := fun c xs q => b.tups c xs (a.tups c xs q)
  frzs := fun c ob xs q => b.frzs c ob xs (a.frzs c ob xs q)
  tbls := fun c ps q => by
    obtain ⟨m1, e1⟩ := a.tbls c ps q
    obtain ⟨m2, e2⟩ := b.tbls c _ e1
    exact ⟨m1 ++ m2, by rw [e2, Array.append_assoc]⟩
theorem Un.kept (k : ∀ b u, h.get? b = some u → h'.get? b = some u) : Un fs ex H H h h' :=
  ⟨fun b ob q _ _ _ => k b ob q, fun b ob q _ _ _ => ⟨ob.slots, k b ob q⟩, fun _ _ _ n _ => n, fun b ob q _ => ⟨ob, k b ob q⟩, fun _ _ q => q, fun _ _ _ q => q, fun _ ps q => ⟨#[], by rw [q]; simp⟩⟩
theorem Un.refl : Un fs ex H H h h := Un.kept fun _ _ q => q
theorem Un.laid (k : ∀ b u, h.get? b = some u → h'.get? b = some u) (hp : h.objs.size ≤ a) (hn : H a = none) : Un fs ex H (upd H a o) h h' where
  keep := fun b u q _ _ _ => k b u q
  slot := fun b u q _ _ _ => ⟨u.slots, k b u q⟩
  free := fun b u q n _ => by rw [upd_ne (Nat.ne_of_lt (Nat.lt_of_lt_of_le (Heap.lt_size q) hp))]; exact n
  there := fun b u q _ => ⟨u, k b u q⟩
  tups := fun b xs q => by rw [upd_ne (ne_of_none q hn)]; exact q
  frzs := fun b u xs q => by rw [upd_ne (ne_of_none q hn)]; exact q
  tbls := fun b ps q => ⟨#[], by rw [upd_ne (ne_of_none q hn), q]; simp⟩
theorem Un.write (mu : Mut (H x)) (he : e = x ∨ H e = some (.own x)) (k : ∀ b u, b ≠ e → h.get? b = some u → h'.get? b = some u) (heo : ∃ u, h'.get? e = some u) : Un fs ex H (upd H x o) h h' := by
  have hx : ∀ b, H b = none → b ≠ x := fun b n z => by subst z; rw [n] at mu; exact mu
  have hb : ∀ b, H b = none → b ≠ e := fun b n z => by
    subst z
    rcases he with r | r
    · exact hx b n r
    · rw [n] at r; cases r
  have hm : ∀ b u, H b = some u → ¬ Mut (some u) → b ≠ x := fun b u q nm z => by subst z; rw [q] at mu; exact nm mu
  refine ⟨fun b u q n _ _ => k b u (hb b n) q, fun b u q n _ _ => ⟨u.slots, k b u (hb b n) q⟩, fun b u q n _ => by rw [upd_ne (hx b n)]; exact n, fun b u q _ => ?_,
    fun b xs q => by rw [upd_ne (hm b _ q fun z => z)]; exact q, fun b u xs q => by rw [upd_ne (hm b _ q fun z => z)]; exact q, fun b ps q => ⟨#[], by rw [upd_ne (hm b _ q fun z => z), q]; simp⟩⟩
  by_cases hbe : b = e
  · subst hbe; exact heo
  · exact ⟨u, k b u hbe q⟩
theorem Un.mono (u : Un fs ex H H1 h h1) (hs : ∀ b ∈ fs, b ∈ fs') (hx : ∀ b ∈ ex, b ∈ ex') : Un fs' ex' H H1 h h1 :=
  ⟨fun b ob q n hb he => u.keep b ob q n (fun z => hb (hs b z)) fun z => he (hx b z), fun _ _ q n _ he => u.any q n fun z => he (hx _ z), fun b ob q n he => u.free b ob q n fun z => he (hx b z), fun b ob q he => u.there b ob q fun z => he (hx b z), u.tups, u.frzs, u.tbls⟩
end

def trk (h : Heap) (H : Hp) : List Addr := (List.range h.objs.size).filter fun a => (H a).isSome
def hidT (h : Heap) (H : Hp) : Heap := PySem.W.hideAll h (trk h H)
theorem hidT_size (h : Heap) (H : Hp) : (hidT h H).objs.size = h.objs.size := PySem.W.hideAll_size _ _
theorem hidT_get {h : Heap} {H : Hp} {b : Addr} {o : Obj} (e : h.get? b = some o) (n : H b = none) : (hidT h H).get? b = some o :=
  PySem.W.hideAll_get _ e fun hm => by
    have q : (H b).isSome = true := (List.mem_filter.mp hm).2
    rw [n] at q; simp at q
theorem of_hidT {h : Heap} {H : Hp} {b : Addr} {o : Obj} (e : (hidT h H).get? b = some o) : h.get? b = some o ∧ H b = none := by
  have e' : h.get? b = some o := PySem.W.of_hideAll (trk h H) e
  refine ⟨e', ?_⟩
  cases q : H b with
  | none => rfl
  | some x =>
    have hm : b ∈ trk h H := List.mem_filter.mpr ⟨List.mem_range.mpr (Heap.lt_size e'), by simp [q]⟩
    have z : (hidT h H).get? b = none := PySem.W.hideAll_none (trk h H) hm
    rw [z] at e; cases e

def allNews (g h : Heap) (L : Addr) : List (Addr × Obj) := (List.range h.objs.size).filterMap fun a => if a = L ∨ (g.get? a).isSome = true then none else (h.get? a).map fun o => (a, o)
def rest (g h : Heap) (L d : Addr) : List (Addr × Obj) := (allNews g h L).filter fun p => decide (p.1 ≠ d)
end L2

namespace L2
open PySem PySem.Spec PyProof.Rows

/-- the module's facts, over the base: the heap at the law's entry without what is tracked there -/
structure Mod (K : PySem.W.Frag) (mg : Str → Option Value) (base : Heap) : Prop where
  kin : K.In base
  glob : base.Ns mainGlobals mg
  blt : ∃ mb, base.Ns builtinsNs mb ∧ ∀ x : Str, x ≠ "__name__" → mb x = bootBuiltins x
  nolimit : base.NoLimit

/-- the context: a def's body (or a comprehension's block) running. base: fixed through the whole law; s₀, H₀: the entry; outer: the frames whose slots others may change (a def's callers); stack: all frames that run;
   ex: iterators that were made ahead of the entry and are walked here (a comprehension's); fn: the names whose cells were made at the entry (a def: all; a comprehension's block: its own); calm: not within an except suite; pn: pins that every state bears; xe: what is wanted of an exception that leaves the code -/
structure Cx where
  prog : Program
  w : World
  K : PySem.W.Frag
  mg : Str → Option Value
  base : Heap
  A : Around
  N : List Str
  s₀ : Shared
  H₀ : Hp
  env : Env
  outer : List Env
  stack : List Env
  ex : List Addr
  fn : Str → Bool
  calm : Bool
  pn : List (Addr × Obj)
  xe : Value → Shared → Prop
/-- the callers' frames -/
def frs (l : List Env) : List Addr := l.filterMap (·.frame)
abbrev Cx.fs (X : Cx) : List Addr := frs X.outer

def Vis (sc : Scope) (x : Str) : Prop := sc.names.lookup x = some .local ∨ sc.names.lookup x = some .cell ∨ sc.names.lookup x = some .free
def Loc (sc : Scope) (x : Str) : Prop := sc.names.lookup x = some .local ∨ sc.names.lookup x = some .cell
def Look (env : Env) (h : Heap) (m : Str → Option Value) (x : Str) (u : Value) : Prop :=
  (env.kindOf x = some .local ∧ m x = some u) ∨ ((env.kindOf x = some .cell ∨ env.kindOf x = some .free) ∧ ∃ c, env.cells.lookup x = some c ∧ h.IsCell c (some u))

structure Cx.Ok (X : Cx) : Prop where
  mod : Mod X.K X.mg X.base
  kind : X.env.scope.kind = .function
  glob : X.env.globals = mainGlobals
  blt : X.env.builtins = builtinsNs
  above : X.s₀.heap.objs.size ≤ X.env.locals
  inj : ∀ x y c, X.env.cells.lookup x = some c → X.env.cells.lookup y = some c → x = y
  has : ∀ x, (X.env.kindOf x = some .cell ∨ X.env.kindOf x = some .free) → ∃ c, X.env.cells.lookup x = some c
  cab : ∀ x c, X.fn x = true → X.env.cells.lookup x = some c → X.s₀.heap.objs.size ≤ c
  hd : X.calm = true → X.A.handled = none
  frames : X.A.frames = some X.stack
  stk : X.stack = X.outer ∨ (X.stack = X.env :: X.outer ∧ X.env.frame = some X.env.locals)
  exf : ∀ b ∈ X.ex, b ≠ X.env.locals ∧ ∀ x c, X.env.cells.lookup x = some c → c ≠ b
  bs : ∀ b o, X.base.get? b = some o → X.s₀.heap.get? b = some o ∧ X.H₀ b = none
  bsz : X.base.objs.size ≤ X.s₀.heap.objs.size
  noex : ∀ b o, X.base.get? b = some o → b ∉ X.ex
  exfs : ∀ b ∈ X.ex, b ∉ X.fs
  funs : X.s₀.heap.FunFrames X.base X.outer
  frf : ∀ b ∈ X.fs, X.H₀ b = none

structure Inv (X : Cx) (pins : List (Addr × Obj)) (σ : List (Option V)) (H : Hp) (s : Shared) : Prop where
  ok : X.Ok
  os : s.os = X.s₀.os
  bare : AllBare s.gens
  base : Un X.fs X.ex X.H₀ H X.s₀.heap s.heap
  loc : ∃ m, s.heap.Ns X.env.locals m ∧ ∀ (i : Nat) (x : Str) (v : V), X.N[i]? = some x → σ[i]? = some (some v) → Vis X.env.scope x → ∃ u, RelV v u ∧ Look X.env s.heap m x u
  cell : ∀ x c, X.env.cells.lookup x = some c → ∃ v, s.heap.IsCell c v
  free : H X.env.locals = none
  freeC : ∀ x c, X.env.cells.lookup x = some c → H c = none
  pin : ∀ p ∈ X.pn ++ pins, s.heap.get? p.1 = some p.2 ∧ H p.1 = none ∧ p.1 ≠ X.env.locals ∧ p.1 ∉ X.fs ∧ ∀ v, p.2.data ≠ .cell v
  hok : HOk X.prog X.w H s.heap
  len : σ.length = X.N.length

section
variable {X : Cx} {pins : List (Addr × Obj)} {σ : List (Option V)} {H H' : Hp} {s : Shared} {h' : Heap}

theorem Cx.Ok.nofr (ok : X.Ok) {b : Addr} {o : Obj} (e : X.base.get? b = some o) : b ∉ X.fs := fun hb => by
  have := (ok.funs.mem hb).1
  rw [e] at this; cases this
theorem Inv.bs (I : Inv X pins σ H s) : ∀ b o, X.base.get? b = some o → s.heap.get? b = some o ∧ H b = none := fun b o e =>
  ⟨I.base.keep b o (I.ok.bs b o e).1 (I.ok.bs b o e).2 (I.ok.nofr e) (I.ok.noex b o e), I.base.free b o (I.ok.bs b o e).1 (I.ok.bs b o e).2 (I.ok.noex b o e)⟩
theorem Inv.bk (I : Inv X pins σ H s) : ∀ b o, X.base.get? b = some o → s.heap.get? b = some o := fun b o e => (I.bs b o e).1
theorem Inv.mod (I : Inv X pins σ H s) : Mod X.K X.mg X.base := I.ok.mod
theorem Inv.kIn (I : Inv X pins σ H s) : X.K.In s.heap := I.ok.mod.kin.keeps I.bk
theorem Inv.nolimit (I : Inv X pins σ H s) : s.heap.NoLimit := I.ok.mod.nolimit.keeps I.bk
/-- the frame over the base: for OpenK's rules (K.In X.base is I.mod.kin) -/
theorem Inv.fr (I : Inv X pins σ H s) : ∃ m, Fr X.base X.env.locals s.heap m :=
  let ⟨m, hn, _⟩ := I.loc
  ⟨m, hn, I.bk, Nat.le_trans I.ok.bsz I.ok.above⟩
theorem Inv.lt (I : Inv X pins σ H s) : X.env.locals < s.heap.objs.size := let ⟨_, hn, _⟩ := I.loc; hn.lt
theorem Inv.sz (I : Inv X pins σ H s) : X.s₀.heap.objs.size ≤ s.heap.objs.size := Nat.le_trans I.ok.above (Nat.le_of_lt I.lt)
theorem Inv.nofs (I : Inv X pins σ H s) {a : Addr} (h : s.heap.objs.size ≤ a) : a ∉ X.fs := fun hb => by
  obtain ⟨_, o, ho, _⟩ := I.ok.funs.mem hb
  exact absurd (Nat.lt_of_lt_of_le (Heap.lt_size ho) (Nat.le_trans I.sz h)) (Nat.lt_irrefl _)
theorem Inv.cne (I : Inv X pins σ H s) : ∀ x c, X.env.cells.lookup x = some c → c ≠ X.env.locals := fun x c e z => by
  obtain ⟨v, o, ho, hd⟩ := I.cell x c e
  obtain ⟨m, ⟨o', es, ep, ho', hd', _⟩, _⟩ := I.loc
  rw [z, ho'] at ho; cases ho; rw [hd'] at hd; cases hd
theorem Inv.funs (I : Inv X pins σ H s) : s.heap.FunFrames X.base X.outer := by
  have all : ∀ (l : List Env), (∀ b ∈ frs l, b ∈ X.fs) → X.s₀.heap.FunFrames X.base l → s.heap.FunFrames X.base l := by
    intro l
    induction l with
    | nil => intro _ _; trivial
    | cons env r ih =>
      intro hs hl
      obtain ⟨hk, ⟨L, o, hf, hn, ho, hd⟩, hr⟩ := hl
      have hL : L ∈ X.fs := hs L (by unfold frs; rw [List.filterMap_cons, hf]; exact List.mem_cons_self)
      obtain ⟨sl, e⟩ := I.base.slot L o ho (I.ok.frf L hL) hL fun z => I.ok.exfs L z hL
      exact ⟨hk, ⟨L, _, hf, hn, e, hd⟩, ih (fun b hb => hs b (by unfold frs; rw [List.filterMap_cons, hf]; exact List.mem_cons_of_mem _ hb)) hr⟩
  exact all X.outer (fun _ hb => hb) I.ok.funs

/-- the frames that run, for a call -/
theorem Inv.stack (I : Inv X pins σ H s) : s.heap.FunFrames X.base X.stack := by
  rcases I.ok.stk with e | ⟨e, hf⟩
  · rw [e]; exact I.funs
  · rw [e]
    obtain ⟨m, hn, _⟩ := I.loc
    refine .cons (by rw [I.ok.kind]; decide) hf hn ?_ I.funs
    exact Heap.get?_none_of_le (Nat.le_trans I.ok.bsz I.ok.above)
theorem Inv.stkSub (I : Inv X pins σ H s) : ∀ b ∈ frs X.stack, b ∈ X.env.locals :: X.fs := fun b hb => by
  rcases I.ok.stk with e | ⟨e, hf⟩
  · rw [e] at hb; exact List.mem_cons_of_mem _ hb
  · rw [e] at hb
    unfold frs at hb
    rw [List.filterMap_cons, hf] at hb
    exact hb
theorem Inv.stkFree (I : Inv X pins σ H s) : ∀ b ∈ frs X.stack, H b = none := fun b hb => by
  rcases List.mem_cons.mp (I.stkSub b hb) with e | hb
  · rw [e]; exact I.free
  · obtain ⟨_, o, ho, _⟩ := I.ok.funs.mem hb
    exact I.base.free b o ho (I.ok.frf b hb) fun z => I.ok.exfs b z hb

/-- THE STEP: the untracked objects but the frame and the records at ch are kept (the callers' frames up to slots), the frame's map is kept, the new abstract heap is held -/
theorem Inv.step {g' : Array GenState} {t' : Nat} {d' : Drawn} {ch : List Addr} (I : Inv X pins σ H s)
    (hch : ∀ b ∈ ch, (b ∈ X.ex ∨ X.s₀.heap.objs.size ≤ b) ∧ b ≠ X.env.locals ∧ (∀ x c, X.env.cells.lookup x = some c → c ≠ b) ∧ ∀ p ∈ X.pn ++ pins, p.1 ≠ b)
    (keep : ∀ b o, b ≠ X.env.locals → b ∉ X.fs → b ∉ ch → s.heap.get? b = some o → H b = none → h'.get? b = some o)
    (slot : ∀ b o, b ≠ X.env.locals → b ∈ X.fs → b ∉ ch → s.heap.get? b = some o → H b = none → ∃ sl, h'.get? b = some { o with slots := sl }) (free : ∀ b o, b ∉ ch → s.heap.get? b = some o → H b = none → H' b = none)
    (there : ∀ b o, b ∉ ch → s.heap.get? b = some o → ∃ o', h'.get? b = some o')
    (tups : ∀ b xs, H b = some (.tup xs) → H' b = some (.tup xs)) (frzs : ∀ b o u, H b = some (.frz o u) → H' b = some (.frz o u)) (tbls : ∀ b ps, H b = some (.tbl ps) → ∃ more, H' b = some (.tbl (ps ++ more)))
    (ns : ∀ m, s.heap.Ns X.env.locals m → h'.Ns X.env.locals m) (hok : HOk X.prog X.w H' h') (hg : AllBare g') :
    Inv X pins σ H' { s with heap := h', gens := g', drawn := d', toks := t' } := by
  have neL : ∀ b o, X.s₀.heap.get? b = some o → b ≠ X.env.locals := fun b o e => Nat.ne_of_lt (Nat.lt_of_lt_of_le (Heap.lt_size e) I.ok.above)
  have neC : ∀ b o, X.s₀.heap.get? b = some o → b ∉ X.ex → b ∉ ch := fun b o e hx hb => by
    rcases (hch b hb).1 with z | z
    · exact hx z
    · exact absurd (Nat.lt_of_lt_of_le (Heap.lt_size e) z) (Nat.lt_irrefl _)
  have cellK : ∀ x c, X.env.cells.lookup x = some c → ∀ v, s.heap.IsCell c v → h'.IsCell c v := fun x c e v ⟨o, ho, hd⟩ => by
    have nch : c ∉ ch := fun z => (hch c z).2.2.1 x c e rfl
    by_cases hc : c ∈ X.fs
    · obtain ⟨sl, q⟩ := slot c o (I.cne x c e) hc nch ho (I.freeC x c e)
      exact ⟨_, q, hd⟩
    · exact ⟨o, keep c o (I.cne x c e) hc nch ho (I.freeC x c e), hd⟩
  refine ⟨I.ok, I.os, hg, ⟨fun b o e n hb hx => ?_, fun b o e n hb hx => ?_, fun b o e n hx => ?_, fun b o e hx => ?_, fun b xs e => tups b xs (I.base.tups b xs e), fun b o xs e => frzs b o xs (I.base.frzs b o xs e), fun b ps e => ?_⟩, ?_, fun x c e => ?_, ?_, fun x c e => ?_, fun p hp => ?_, hok, I.len⟩
  · exact keep b o (neL b o e) hb (neC b o e hx) (I.base.keep b o e n hb hx) (I.base.free b o e n hx)
  · obtain ⟨sl, e1⟩ := I.base.slot b o e n hb hx
    obtain ⟨sl', e2⟩ := slot b _ (neL b o e) hb (neC b o e hx) e1 (I.base.free b o e n hx)
    exact ⟨sl', e2⟩
  · obtain ⟨o', e1⟩ := I.base.there b o e hx
    exact free b o' (neC b o e hx) e1 (I.base.free b o e n hx)
  · obtain ⟨o', e1⟩ := I.base.there b o e hx
    exact there b o' (neC b o e hx) e1
  · obtain ⟨m1, e1⟩ := I.base.tbls b ps e
    obtain ⟨m2, e2⟩ := tbls b _ e1
    exact ⟨m1 ++ m2, by rw [e2, Array.append_assoc]⟩
  · obtain ⟨m, hn, hl⟩ := I.loc
    refine ⟨m, ns m hn, fun i x v e1 e2 e3 => ?_⟩
    obtain ⟨u, r, l⟩ := hl i x v e1 e2 e3
    refine ⟨u, r, ?_⟩
    rcases l with l | ⟨k, c, e, z⟩
    · exact .inl l
    · exact .inr ⟨k, c, e, cellK x c e _ z⟩
  · obtain ⟨v, z⟩ := I.cell x c e
    exact ⟨v, cellK x c e v z⟩
  · obtain ⟨m, ⟨o, _, _, ho, _⟩, _⟩ := I.loc
    exact free _ o (fun z => (hch _ z).2.1 rfl) ho I.free
  · obtain ⟨v, o, ho, hd⟩ := I.cell x c e
    exact free c o (fun z => (hch c z).2.2.1 x c e rfl) ho (I.freeC x c e)
  · obtain ⟨e, n, ne, nf, d⟩ := I.pin p hp
    have nch : p.1 ∉ ch := fun z => (hch p.1 z).2.2.2 p hp rfl
    exact ⟨keep p.1 p.2 ne nf nch e n, free p.1 p.2 nch e n, ne, nf, d⟩
/-- .. where the frame's own object is kept too -/
theorem Inv.un {t' : Nat} (I : Inv X pins σ H s) (u : Un X.fs [] H H' s.heap h') (hok : HOk X.prog X.w H' h') : Inv X pins σ H' { s with heap := h', toks := t' } := by
  obtain ⟨m, ⟨o, es, ep, ho, r⟩, _⟩ := id I.loc
  obtain ⟨sl, hL⟩ := u.any ho I.free (by simp)
  exact I.step (g' := s.gens) (d' := s.drawn) (ch := []) (fun _ z => nomatch z) (fun b o _ hb _ e n => u.keep b o e n hb (by simp)) (fun b o _ hb _ e n => u.slot b o e n hb (by simp)) (fun b o _ e n => u.free b o e n (by simp)) (fun b o _ e => u.there b o e (by simp)) u.tups u.frzs u.tbls (fun m' hm => by
    obtain ⟨o', es', ep', ho', r'⟩ := hm
    rw [ho] at ho'; cases ho'
    exact ⟨_, es', ep', hL, r'⟩) hok I.bare
/-- behind a call (or a comprehension's block): the slots of this frame may have changed too, the records at ch may have turned -/
theorem Inv.call {g' : Array GenState} {t' : Nat} {d' : Drawn} {ch : List Addr} (I : Inv X pins σ H s) (u : Un (frs X.stack) ch H H' s.heap h') (hok : HOk X.prog X.w H' h') (hg : AllBare g')
    (hch : ∀ b ∈ ch, (b ∈ X.ex ∨ X.s₀.heap.objs.size ≤ b) ∧ b ≠ X.env.locals ∧ (∀ x c, X.env.cells.lookup x = some c → c ≠ b) ∧ ∀ p ∈ X.pn ++ pins, p.1 ≠ b) :
    Inv X pins σ H' { s with heap := h', gens := g', drawn := d', toks := t' } := by
  obtain ⟨m, ⟨o, es, ep, ho, r⟩, _⟩ := id I.loc
  obtain ⟨sl, hL⟩ := u.any ho I.free fun z => (hch _ z).2.1 rfl
  exact I.step (ch := ch) hch (fun b o hL hb hc e n => u.keep b o e n (fun z => (List.mem_cons.mp (I.stkSub b z)).elim hL hb) hc) (fun b o _ _ hc e n => u.any e n hc) (fun b o hc e n => u.free b o e n hc) (fun b o hc e => u.there b o e hc) u.tups u.frzs u.tbls (fun m' hm => by
    obtain ⟨o', es', ep', ho', r'⟩ := hm
    rw [ho] at ho'; cases ho'
    exact ⟨_, es', ep', hL, r'⟩) hok hg
/-- an untracked record of ours (an iterator) has turned -/
theorem Inv.turned {t' : Nat} {it : Addr} (I : Inv X pins σ H s) (k : ∀ b o, b ≠ it → s.heap.get? b = some o → h'.get? b = some o) (hn : H it = none) (hL : it ≠ X.env.locals)
    (h1 : it ∈ X.ex ∨ X.s₀.heap.objs.size ≤ it) (h2 : ∀ x c, X.env.cells.lookup x = some c → c ≠ it) (h3 : ∀ p ∈ X.pn ++ pins, p.1 ≠ it) : Inv X pins σ H { s with heap := h', toks := t' } := by
  have nit : ∀ b u, H b = some u → b ≠ it := fun b u e z => by rw [z, hn] at e; cases e
  refine I.step (g' := s.gens) (d' := s.drawn) (ch := [it]) (fun b hb => ?_) (fun b o _ _ hc e _ => k b o (fun z => hc (by simp [z])) e) (fun b o _ _ hc e _ => ⟨o.slots, k b o (fun z => hc (by simp [z])) e⟩) (fun _ _ _ _ n => n)
    (fun b o hc e => ⟨o, k b o (fun z => hc (by simp [z])) e⟩) (fun _ _ e => e) (fun _ _ _ e => e) (fun b ps e => ⟨#[], by rw [e]; simp⟩) (fun m hm => ?_) (fun b u e => ?_) I.bare
  · have e : b = it := by simpa using hb
    subst e
    exact ⟨h1, hL, h2, h3⟩
  · obtain ⟨o, es, ep, ho, r⟩ := hm
    exact ⟨o, es, ep, k _ o (Ne.symm hL) ho, r⟩
  · refine (I.hok b u e).stay (fun c v hc q => k c v ?_ q) (fun _ q => q) fun _ _ q => q
    rcases hc with z | z
    · rw [z]; exact nit b u e
    · exact nit c _ z
theorem Inv.tok (I : Inv X pins σ H s) (t : Nat) : Inv X pins σ H { s with toks := t } := I.un (h' := s.heap) (t' := t) Un.refl I.hok
/-- all objects kept -/
theorem Inv.kept {t' : Nat} (I : Inv X pins σ H s) (k : ∀ b u, s.heap.get? b = some u → h'.get? b = some u) : Inv X pins σ H { s with heap := h', toks := t' } := I.un (Un.kept k) (I.hok.kept k)
/-- a new object laid and tracked -/
theorem Inv.laid {a : Addr} {o : HO} {t' : Nat} (I : Inv X pins σ H s) (k : ∀ b u, s.heap.get? b = some u → h'.get? b = some u) (hp : s.heap.objs.size ≤ a) (new : ObjOk X.prog X.w (upd H a o) h' a o) :
    Inv X pins σ (upd H a o) { s with heap := h', toks := t' } := I.un (Un.laid k hp (I.hok.fresh hp)) (I.hok.laid k hp new)
/-- an object written -/
theorem Inv.write {x e : Addr} {o : HO} {t' : Nat} (I : Inv X pins σ H s) (mu : Mut (H x)) (he : e = x ∨ H e = some (.own x)) (k : ∀ b u, b ≠ e → s.heap.get? b = some u → h'.get? b = some u) (heo : ∃ u, h'.get? e = some u)
    (new : ObjOk X.prog X.w (upd H x o) h' x o) : Inv X pins σ (upd H x o) { s with heap := h', toks := t' } := I.un (Un.write mu he k heo) (I.hok.write mu he k heo new)
/-- forgetting slots, pins -/
theorem Inv.weak {σ' : List (Option V)} (I : Inv X pins σ H s) (hl : σ'.length = σ.length) (w : ∀ (i : Nat) v, σ'[i]? = some (some v) → σ[i]? = some (some v)) : Inv X pins σ' H s :=
  ⟨I.ok, I.os, I.bare, I.base, let ⟨m, hn, hl'⟩ := I.loc; ⟨m, hn, fun i x v e1 e2 e3 => hl' i x v e1 (w i v e2) e3⟩, I.cell, I.free, I.freeC, I.pin, I.hok, hl.trans I.len⟩
theorem Inv.pins_of {pins' : List (Addr × Obj)} (I : Inv X pins σ H s) (h : ∀ p ∈ pins', s.heap.get? p.1 = some p.2 ∧ H p.1 = none ∧ p.1 ≠ X.env.locals ∧ p.1 ∉ X.fs ∧ ∀ v, p.2.data ≠ .cell v) : Inv X pins' σ H s :=
  ⟨I.ok, I.os, I.bare, I.base, I.loc, I.cell, I.free, I.freeC, fun p hp => (List.mem_append.mp hp).elim (fun z => I.pin p (List.mem_append_left _ z)) (h p), I.hok, I.len⟩

theorem nodup_ix {N : List Str} (hN : N.Nodup) {i j : Nat} {x : Str} (a : N[i]? = some x) (b : N[j]? = some x) : i = j := by
  obtain ⟨h1, e1⟩ := List.getElem?_eq_some_iff.mp a
  obtain ⟨h2, e2⟩ := List.getElem?_eq_some_iff.mp b
  exact (List.getElem_inj hN).mp (e1.trans e2.symm)

/-- a name is stored; what changed -/
theorem store_ok2 {M : Model} {A : Around} {E : Value → Shared → Prop} {i : Nat} {x : Str} {v : V} {u : Value} {Q : Unit → Shared → Prop} (I : Inv X pins σ H s) (hN : X.N.Nodup) (hi : X.N[i]? = some x) (hx : Loc X.env.scope x) (r : RelV v u)
    (h : ∀ s', Inv X pins (σ.set i (some v)) H s' → (∃ a, Heap.SameBut a s.heap s'.heap ∧ (a = X.env.locals ∨ X.env.cells.lookup x = some a)) → Q () s') (hf : X.fn x = true ∨ X.env.scope.names.lookup x = some .local := by first | exact .inl rfl | exact .inr rfl | assumption) : wpAny M A (storeName X.env x u) Q E s := by
  obtain ⟨m, hn, hl⟩ := id I.loc
  have hcls : (X.env.scope.kind == .class || (X.env.scope.kind == .module && X.env.locals != X.env.globals)) = false := by rw [I.ok.kind]; rfl
  have hiσ : i < σ.length := by rw [I.len]; exact (List.getElem?_eq_some_iff.mp hi).1
  have cne := I.cne
  have tracked : ∀ {a : Addr} {h' : Heap}, (∃ o, s.heap.get? a = some o ∧ H a = none) → Heap.SameBut a s.heap h' → HOk X.prog X.w H h' := fun {a h'} ha hs b ob e => by
    obtain ⟨_, _, hfree⟩ := ha
    refine (I.hok b ob e).stay (fun c w' hc q => (hs.2 c ?_).trans q) (fun _ q => q) fun _ _ q => q
    rintro rfl
    rcases hc with rfl | hc
    · rw [hfree] at e; cases e
    · rw [hfree] at hc; cases hc
  rcases hx with hk | hk
  · refine wpAny_storeName_local hk hn (fun h' hn' hs => ?_) hcls
    obtain ⟨oL, _, _, hoL, _⟩ := id hn
    refine h _ ⟨I.ok, I.os, I.bare, ⟨fun b o e n hb hx => ?_, fun b o e n hb hx => ?_, I.base.free, fun b o e hx => ?_, I.base.tups, I.base.frzs, I.base.tbls⟩, ⟨_, hn', fun j y v' e1 e2 e3 => ?_⟩, fun y c e => ?_, I.free, I.freeC, fun p hp => ?_, tracked ⟨oL, hoL, I.free⟩ hs, by simpa using I.len⟩ ⟨_, hs, .inl rfl⟩
    · exact (hs.2 b (Nat.ne_of_lt (Nat.lt_of_lt_of_le (Heap.lt_size e) I.ok.above))).trans (I.base.keep b o e n hb hx)
    · obtain ⟨sl, e1⟩ := I.base.slot b o e n hb hx
      exact ⟨sl, (hs.2 b (Nat.ne_of_lt (Nat.lt_of_lt_of_le (Heap.lt_size e) I.ok.above))).trans e1⟩
    · obtain ⟨o', e1⟩ := I.base.there b o e hx
      exact ⟨o', (hs.2 b (Nat.ne_of_lt (Nat.lt_of_lt_of_le (Heap.lt_size e) I.ok.above))).trans e1⟩
    · by_cases hj : j = i
      · subst hj
        rw [hi] at e1; cases e1
        rw [List.getElem?_set_self hiσ] at e2
        cases e2
        exact ⟨u, r, .inl ⟨hk, by simp⟩⟩
      · rw [List.getElem?_set_ne (Ne.symm hj)] at e2
        obtain ⟨u', r', q⟩ := hl j y v' e1 e2 e3
        refine ⟨u', r', ?_⟩
        rcases q with ⟨k, e⟩ | ⟨k, c, e, z⟩
        · refine .inl ⟨k, ?_⟩
          have : y ≠ x := fun e => hj (nodup_ix hN e1 (e ▸ hi))
          simp [this, e]
        · exact .inr ⟨k, c, e, z.sameBut hs (cne y c e)⟩
    · obtain ⟨w', z⟩ := I.cell y c e
      exact ⟨w', z.sameBut hs (cne y c e)⟩
    · obtain ⟨e, n, ne, nf, d⟩ := I.pin p hp
      exact ⟨(hs.2 p.1 ne).trans e, n, ne, nf, d⟩
  · have hfn : X.fn x = true := by
      rcases hf with z | z
      · exact z
      · rw [z] at hk; cases hk
    obtain ⟨c, hc⟩ := I.ok.has x (.inl hk)
    obtain ⟨w', z⟩ := I.cell x c hc
    refine wpAny_storeName_cell I.ok.kind hk hc z (fun h' hc' hs => ?_)
    obtain ⟨oc, hoc, hocd⟩ := id z
    refine h { s with heap := h' } ⟨I.ok, I.os, I.bare, ⟨fun b o e n hb hx => ?_, fun b o e n hb hx => ?_, I.base.free, fun b o e hx => ?_, I.base.tups, I.base.frzs, I.base.tbls⟩, ⟨m, hn.sameBut hs (Ne.symm (cne x c hc)), fun j y v' e1 e2 e3 => ?_⟩, fun y c' e => ?_, I.free, I.freeC, fun p hp => ?_, tracked ⟨oc, hoc, I.freeC x c hc⟩ hs, by simpa using I.len⟩ ⟨c, hs, .inr hc⟩
    · exact (hs.2 b (Nat.ne_of_lt (Nat.lt_of_lt_of_le (Heap.lt_size e) (I.ok.cab x c hfn hc)))).trans (I.base.keep b o e n hb hx)
    · obtain ⟨sl, e1⟩ := I.base.slot b o e n hb hx
      exact ⟨sl, (hs.2 b (Nat.ne_of_lt (Nat.lt_of_lt_of_le (Heap.lt_size e) (I.ok.cab x c hfn hc)))).trans e1⟩
    · obtain ⟨o', e1⟩ := I.base.there b o e hx
      exact ⟨o', (hs.2 b (Nat.ne_of_lt (Nat.lt_of_lt_of_le (Heap.lt_size e) (I.ok.cab x c hfn hc)))).trans e1⟩
    · by_cases hj : j = i
      · subst hj
        rw [hi] at e1; cases e1
        rw [List.getElem?_set_self hiσ] at e2
        cases e2
        exact ⟨u, r, .inr ⟨.inl hk, c, hc, hc'⟩⟩
      · rw [List.getElem?_set_ne (Ne.symm hj)] at e2
        obtain ⟨u', r', q⟩ := hl j y v' e1 e2 e3
        refine ⟨u', r', ?_⟩
        rcases q with q | ⟨k, c', e, z'⟩
        · exact .inl q
        · refine .inr ⟨k, c', e, z'.sameBut hs ?_⟩
          rintro rfl
          exact hj (nodup_ix hN e1 (I.ok.inj _ _ _ e hc ▸ hi))
    · by_cases hcc : c' = c
      · subst hcc; exact ⟨_, hc'⟩
      · obtain ⟨w2, z2⟩ := I.cell y c' e
        exact ⟨w2, z2.sameBut hs hcc⟩
    · obtain ⟨e, n, ne, nf, d⟩ := I.pin p hp
      refine ⟨(hs.2 p.1 ?_).trans e, n, ne, nf, d⟩
      intro q
      rw [q, hoc] at e
      have q' : oc = p.2 := Option.some.inj e
      exact d w' (by rw [← q']; exact hocd)
theorem store_ok {M : Model} {A : Around} {E : Value → Shared → Prop} {i : Nat} {x : Str} {v : V} {u : Value} {Q : Unit → Shared → Prop} (I : Inv X pins σ H s) (hN : X.N.Nodup) (hi : X.N[i]? = some x) (hx : Loc X.env.scope x) (r : RelV v u)
    (h : ∀ s', Inv X pins (σ.set i (some v)) H s' → Q () s') (hf : X.fn x = true ∨ X.env.scope.names.lookup x = some .local := by first | exact .inl rfl | exact .inr rfl | assumption) : wpAny M A (storeName X.env x u) Q E s :=
  store_ok2 I hN hi hx r (fun s' I' _ => h s' I') hf
/-- behind a call or a block, the state as it is -/
theorem Inv.call' {s' : Shared} {ch : List Addr} (I : Inv X pins σ H s) (ho : s'.os = s.os) (u : Un (frs X.stack) ch H H' s.heap s'.heap) (hok : HOk X.prog X.w H' s'.heap) (hg : AllBare s'.gens)
    (hch : ∀ b ∈ ch, (b ∈ X.ex ∨ X.s₀.heap.objs.size ≤ b) ∧ b ≠ X.env.locals ∧ (∀ x c, X.env.cells.lookup x = some c → c ≠ b) ∧ ∀ p ∈ X.pn ++ pins, p.1 ≠ b) : Inv X pins σ H' s' := by
  obtain ⟨h', g', d', t', o'⟩ := s'
  have e : o' = s.os := ho
  subst e
  exact I.call (g' := g') (t' := t') (d' := d') u hok hg hch
end

/-- an exception: its class, its own dict's address (where it has one), the abstract heap behind it -/
abbrev XK := Value → Option Addr → Hp → Prop
abbrev St := List (Option V)
abbrev VK := V → Hp → Prop
/-- an expression's reading; a test's; an argument list's -/
abbrev TE := St → Hp → VK → Prop
abbrev TT := St → Hp → (Bool → Hp → Prop) → Prop
abbrev TA := St → Hp → (List V → Hp → Prop) → Prop
/-- what is wanted behind a statement -/
structure Ends where
  nx : St → Hp → Prop
  rt : VK
  bk : St → Hp → Prop := fun _ _ => False
  ct : St → Hp → Prop := fun _ _ => False
abbrev TS := Ends → St → Hp → Prop

def EP (X : Cx) (pins : List (Addr × Obj)) (σ : St) (Q : VK) (u : Value) (s' : Shared) : Prop := ∃ v H', Inv X pins σ H' s' ∧ RelV v u ∧ Q v H'
def TP (X : Cx) (pins : List (Addr × Obj)) (σ : St) (Q : Bool → Hp → Prop) (b : Bool) (s' : Shared) : Prop := ∃ H', Inv X pins σ H' s' ∧ Q b H'
def AP (X : Cx) (pins : List (Addr × Obj)) (σ : St) (Q : List V → Hp → Prop) (us : List Value) (s' : Shared) : Prop := ∃ vs H', Inv X pins σ H' s' ∧ Vals vs us ∧ Q vs H'
def SP (X : Cx) (pins : List (Addr × Obj)) (D : Ends) (f : Flow) (s' : Shared) : Prop :=
  match f with
  | .next => ∃ σ' H', Inv X pins σ' H' s' ∧ D.nx σ' H'
  | .brk => ∃ σ' H', Inv X pins σ' H' s' ∧ D.bk σ' H'
  | .cont => ∃ σ' H', Inv X pins σ' H' s' ∧ D.ct σ' H'
  | .ret u => ∃ v σ' H', Inv X pins σ' H' s' ∧ RelV v u ∧ D.rt v H'

def PE (X : Cx) (e : Expr) (t : TE) : Prop :=
  ∀ (pins : List (Addr × Obj)) (s : Shared) (σ : St) (H : Hp) (Q : VK), Inv X pins σ H s → t σ H Q → wpAny (model X.prog X.w) X.A (eval e X.env) (EP X pins σ Q) X.xe s
def PT (X : Cx) (e : Expr) (t : TT) : Prop :=
  ∀ (pins : List (Addr × Obj)) (s : Shared) (σ : St) (H : Hp) (Q : Bool → Hp → Prop), Inv X pins σ H s → t σ H Q → wpAny (model X.prog X.w) X.A (isTrue e X.env (eval e X.env)) (TP X pins σ Q) X.xe s
/-- a test whatever its 'whole' is (and, or) -/
def PW (X : Cx) (e : Expr) (t : TT) : Prop :=
  ∀ (whole : Sem Value) (pins : List (Addr × Obj)) (s : Shared) (σ : St) (H : Hp) (Q : Bool → Hp → Prop), Inv X pins σ H s → t σ H Q → wpAny (model X.prog X.w) X.A (isTrue e X.env whole) (TP X pins σ Q) X.xe s
theorem PW.pt {X : Cx} {e : Expr} {t : TT} (h : PW X e t) : PT X e t := h _
/-- an argument list (no star), from the left -/
def PA (X : Cx) (es : List Expr) (t : TA) : Prop :=
  ∀ (pos : Pos) (pins : List (Addr × Obj)) (s : Shared) (σ : St) (H : Hp) (Q : List V → Hp → Prop), Inv X pins σ H s → t σ H Q → wpAny (model X.prog X.w) X.A (spliced (backTo pos (starEach es X.env))) (AP X pins σ Q) X.xe s
def PS (X : Cx) (st : Stmt) (t : TS) : Prop :=
  ∀ (pins : List (Addr × Obj)) (s : Shared) (σ : St) (H : Hp) (D : Ends), Inv X pins σ H s → t D σ H → wpAny (model X.prog X.w) X.A (exec st X.env) (SP X pins D) X.xe s
def PSs (X : Cx) (st : List Stmt) (t : TS) : Prop :=
  ∀ (pins : List (Addr × Obj)) (s : Shared) (σ : St) (H : Hp) (D : Ends), Inv X pins σ H s → t D σ H → wpAny (model X.prog X.w) X.A (execs st X.env) (SP X pins D) X.xe s
/-- weaken the end -/
theorem thn {α : Type} {t : Sem α} {Q Q' : α → Shared → Prop} {M : Model} {A : Around} {E : Value → Shared → Prop} {s : Shared} (h : wpAny M A t Q E s) (hQ : ∀ a s, Q a s → Q' a s) : wpAny M A t Q' E s := wpAny_mono h hQ fun _ _ x => x
end L2

namespace L2
open PySem PySem.Spec PyProof.Rows
section
variable {X : Cx}

def tVar (i : Nat) : TE := fun σ H Q => ∃ v, σ[i]? = some (some v) ∧ Q v H
def tC (v : V) : TE := fun _ H Q => Q v H
theorem pe_var {i : Nat} {x : Str} {pos : Pos} (hN : X.N[i]? = some x) (hv : Vis X.env.scope x) (hd : (x == ("__debug__" : Str)) = false := by decide) (hcd : (x == ("__classdict__" : Str)) = false := by decide) : PE X (.Name x pos) (tVar i) := by
  intro pins s σ H Q I h
  obtain ⟨v, e, h⟩ := h
  obtain ⟨m, hn, hl⟩ := I.loc
  obtain ⟨u, r, l⟩ := hl i x v hN e hv
  have fin : EP X pins σ Q u s := ⟨v, H, I, r, h⟩
  rcases l with ⟨hk, hm⟩ | ⟨hk, c, hc, hcell⟩
  · exact wpAny_Name (wpAny_loadName_local I.ok.kind hk hn hm fin) hd
  · rcases hk with hk | hk
    · exact wpAny_Name (wpAny_loadName_cell I.ok.kind hk hc hcell fin) hd
    · exact wpAny_Name (wpAny_loadName_free I.ok.kind hk hc hcell fin hcd) hd
theorem pe_int {i j pos} : PE X (.Constant (.int i) j pos) (tC (.int i)) := fun _ _ _ H _ I h => wpAny_Constant_int ⟨.int i, H, I.tok _, ⟨_, rfl⟩, h⟩
theorem pe_bl {b j pos} : PE X (.Constant (.bool b) j pos) (tC (.bl b)) := fun _ _ _ H _ I h => Constant_bool ⟨.bl b, H, I, rfl, h⟩
theorem pe_non {j pos} : PE X (.Constant .none j pos) (tC .non) := fun _ _ _ H _ I h => Constant_none ⟨.non, H, I, rfl, h⟩
theorem pe_str {x j pos} : PE X (.Constant (.str x) j pos) (tC (.str x)) := fun _ _ _ H _ I h => Calls.Constant_str ⟨.str x, H, I.tok _, ⟨_, rfl⟩, h⟩

/-- a global name of the def -/
def Gl (X : Cx) (x : Str) : Prop := X.env.kindOf x = some .globalImplicit
theorem ld_glob {E : Value → Shared → Prop} {pins : List (Addr × Obj)} {s : Shared} {σ : St} {H : Hp} {x : Str} {u : Value} {pos : Pos} {Q : Value → Shared → Prop} (I : Inv X pins σ H s) (hg : Gl X x) (hm : X.mg x = some u) (h : Q u s)
    (hd : (x == ("__debug__" : Str)) = false := by decide) : wpAny (model X.prog X.w) X.A (eval (.Name x pos) X.env) Q E s :=
  Calls.Name_function_global I.ok.kind hg (Calls.loadGlobal_global (by rw [I.ok.glob]; exact I.mod.glob.keeps I.bk) hm h) hd
theorem ld_blt {E : Value → Shared → Prop} {pins : List (Addr × Obj)} {s : Shared} {σ : St} {H : Hp} {x : Str} {u : Value} {pos : Pos} {Q : Value → Shared → Prop} (I : Inv X pins σ H s) (hg : Gl X x) (hm : X.mg x = none) (hv : bootBuiltins x = some u) (h : Q u s)
    (hn : x ≠ "__name__" := by decide) (hd : (x == ("__debug__" : Str)) = false := by decide) : wpAny (model X.prog X.w) X.A (eval (.Name x pos) X.env) Q E s := by
  obtain ⟨mb, h1, h2⟩ := I.mod.blt
  exact Calls.Name_function_global I.ok.kind hg (Calls.loadGlobal_builtin (by rw [I.ok.glob]; exact I.mod.glob.keeps I.bk) hm (by rw [I.ok.blt]; exact h1.keeps I.bk) ((h2 x hn).trans hv) h) hd
/-- a module's constant, a class, a function, as a value -/
theorem pe_glob {x : Str} {v : V} {u : Value} {pos : Pos} (hg : Gl X x) (hm : X.mg x = some u) (r : RelV v u) (hd : (x == ("__debug__" : Str)) = false := by decide) : PE X (.Name x pos) (tC v) :=
  fun _ _ _ H _ I h => ld_glob I hg hm ⟨v, H, I, r, h⟩ hd
theorem pe_bltn {x : Str} {v : V} {u : Value} {pos : Pos} (hg : Gl X x) (hm : X.mg x = none) (hv : bootBuiltins x = some u) (r : RelV v u) (hn : x ≠ "__name__" := by decide) (hd : (x == ("__debug__" : Str)) = false := by decide) : PE X (.Name x pos) (tC v) :=
  fun _ _ _ H _ I h => ld_blt I hg hm hv ⟨v, H, I, r, h⟩ hn hd

variable {a b : Expr} {ta tb : TE} {pos : Pos}
def PC (X : Cx) (op : CmpOp) (a b : Expr) (t : TE) : Prop :=
  ∀ (pins : List (Addr × Obj)) (s : Shared) (σ : St) (H : Hp) (Q : VK), Inv X pins σ H s → t σ H Q →
    wpAny (model X.prog X.w) X.A (eval a X.env) (fun v s₁ => wpAny (model X.prog X.w) X.A (eval b X.env) (fun u s₂ => wpAny (model X.prog X.w) X.A (compareOp op v u) (EP X pins σ Q) X.xe s₂) X.xe s₁) X.xe s
theorem nobehind (b : Expr) {op : CmpOp} (h : op ≠ .In) (h2 : op ≠ .NotIn) : behindInMarks op b = false := by
  have e1 : (op == CmpOp.In) = false := by cases op <;> first | rfl | exact absurd rfl h
  have e2 : (op == CmpOp.NotIn) = false := by cases op <;> first | rfl | exact absurd rfl h2
  cases b <;> simp [behindInMarks, e1, e2]
/-- is None -/
def tIsN (ta : TE) : TE := fun σ H Q => ta σ H fun x H1 => Q (.bl (decide (x = .non))) H1
def tNotN (ta : TE) : TE := fun σ H Q => ta σ H fun x H1 => Q (.bl (!decide (x = .non))) H1
theorem RelV.none_iff {x : V} {v : Value} (r : RelV x v) : (v == Value.none) = decide (x = .non) := by
  cases x with
  | non => cases r; rfl
  | bl _ => cases r; rfl
  | int _ => obtain ⟨t, rfl⟩ := r; rfl
  | str _ => obtain ⟨t, rfl⟩ := r; rfl
  | byt _ => obtain ⟨t, rfl⟩ := r; rfl
  | flt _ => obtain ⟨t, rfl⟩ := r; rfl
  | ref _ => cases r; rfl
  | ty _ => cases r; rfl
theorem pc_isN {j pos'} (ha : PE X a ta) : PC X .Is a (.Constant .none j pos') (tIsN ta) := by
  intro pins s σ H Q I h
  refine thn (ha pins s σ H _ I h) fun v s1 ⟨x, H1, I1, r1, q1⟩ => ?_
  exact Constant_none (is_none_gen ⟨.bl _, H1, I1, by rw [r1.none_iff]; rfl, q1⟩)
theorem pc_notN {j pos'} (ha : PE X a ta) : PC X .IsNot a (.Constant .none j pos') (tNotN ta) := by
  intro pins s σ H Q I h
  refine thn (ha pins s σ H _ I h) fun v s1 ⟨x, H1, I1, r1, q1⟩ => ?_
  exact Constant_none (isnot_none_gen ⟨.bl _, H1, I1, by rw [r1.none_iff]; rfl, q1⟩)
/-- a comparison as a value, as a test -/
def tB (t : TE) : TT := fun σ H Q => t σ H fun x H1 => ∃ c, x = .bl c ∧ Q c H1
theorem pt_cmp {op : CmpOp} {t : TE} (h : PC X op a b t) (h1 : behindInMarks op b = false := by first | exact nobehind _ (by decide) (by decide) | rfl) : PT X (.Compare a [op] [b] pos) (tB t) := by
  intro pins s σ H Q I hw
  refine wpAny_isTrue_Compare1 (thn (h pins s σ H _ I hw) fun v s1 h1 => thn h1 fun u s2 h2 => thn h2 fun c s3 ⟨x, H1, I1, r1, q1⟩ => ?_) h1
  obtain ⟨d, rfl, q⟩ := q1
  cases r1
  exact wpAny_truthy_bool ⟨H1, I1, q⟩
/-- an expression whose value is a bool, as a test -/
theorem pt_val {e : Expr} {t : TE} (h : PE X e t) (he : ∀ whole, isTrue e X.env whole = (do let v ← whole; standAt e.pos; holding [v] (truthy v)) := by intro _; rfl) : PT X e (tB t) := by
  intro pins s σ H Q I hw
  refine isTrue_plain (thn (h pins s σ H _ I hw) fun v s1 ⟨x, H1, I1, r1, q1⟩ => ?_) (he _)
  obtain ⟨d, rfl, q⟩ := q1
  cases r1
  exact wpAny_truthy_bool ⟨H1, I1, q⟩

variable {tA tB' : TT} {rest : List Expr}
def tAnd (t u : TT) : TT := fun σ H Q => t σ H fun c H1 => if c = true then u σ H1 Q else Q false H1
def tOr (t u : TT) : TT := fun σ H Q => t σ H fun c H1 => if c = true then Q true H1 else u σ H1 Q
def tNot (t : TT) : TT := fun σ H Q => t σ H fun c H1 => Q (!c) H1
theorem pw_and1 (ha : PT X a tA) : PW X (.BoolOp .And [a] pos) tA := by
  intro wh pins s σ H Q I h
  refine isTrue_and (thn (ha pins s σ H Q I h) fun c s1 e => ?_)
  cases c with
  | true => exact isTrue_and_nil e
  | false => exact e
theorem pw_or1 (ha : PT X a tA) : PW X (.BoolOp .Or [a] pos) tA := by
  intro wh pins s σ H Q I h
  refine isTrue_or (thn (ha pins s σ H Q I h) fun c s1 e => ?_)
  cases c with
  | false => exact isTrue_or_nil e
  | true => exact e
theorem pw_and (ha : PT X a tA) (hb : PW X (.BoolOp .And (b :: rest) pos) tB') : PW X (.BoolOp .And (a :: b :: rest) pos) (tAnd tA tB') := by
  intro wh pins s σ H Q I h
  refine isTrue_and (thn (ha pins s σ H _ I h) fun c s1 ⟨H1, I1, q1⟩ => ?_)
  cases c with
  | true => exact hb wh pins s1 σ H1 Q I1 q1
  | false => exact ⟨H1, I1, q1⟩
theorem pw_or (ha : PT X a tA) (hb : PW X (.BoolOp .Or (b :: rest) pos) tB') : PW X (.BoolOp .Or (a :: b :: rest) pos) (tOr tA tB') := by
  intro wh pins s σ H Q I h
  refine isTrue_or (thn (ha pins s σ H _ I h) fun c s1 ⟨H1, I1, q1⟩ => ?_)
  cases c with
  | true => exact ⟨H1, I1, q1⟩
  | false => exact hb wh pins s1 σ H1 Q I1 q1
theorem pt_not (ha : PT X a tA) : PT X (.UnaryOp .Not a pos) (tNot tA) := by
  intro pins s σ H Q I h
  exact isTrue_not (ha pins s σ H (fun c H1 => Q (!c) H1) I h)
/-- .. as values (bools) -/
def tAndV (ta tb : TE) : TE := fun σ H Q => ta σ H fun x H1 => ∃ c, x = .bl c ∧ if c = true then tb σ H1 Q else Q (.bl false) H1
def tOrV (ta tb : TE) : TE := fun σ H Q => ta σ H fun x H1 => ∃ c, x = .bl c ∧ if c = true then Q (.bl true) H1 else tb σ H1 Q
def tNotV (ta : TE) : TE := fun σ H Q => ta σ H fun x H1 => ∃ c, x = .bl c ∧ Q (.bl (!c)) H1
theorem pe_one {op} {t : TE} (h : PE X a t) : PE X (.BoolOp op [a] pos) t := fun pins s σ H Q I hw => BoolOp_one (h pins s σ H Q I hw)
theorem pe_and (ha : PE X a ta) (hb : PE X (.BoolOp .And (b :: rest) pos) tb) : PE X (.BoolOp .And (a :: b :: rest) pos) (tAndV ta tb) := by
  intro pins s σ H Q I h
  refine BoolOp_and (thn (ha pins s σ H _ I h) fun v s1 ⟨x, H1, I1, r1, q1⟩ => ?_)
  obtain ⟨c, rfl, q1⟩ := q1
  cases r1
  refine wpAny_truthy_bool ?_
  cases c with
  | true => exact hb pins s1 σ H1 Q I1 q1
  | false => exact ⟨.bl false, H1, I1, rfl, q1⟩
theorem pe_not (ha : PE X a ta) : PE X (.UnaryOp .Not a pos) (tNotV ta) := by
  intro pins s σ H Q I h
  refine UnaryOp_ (thn (ha pins s σ H _ I h) fun v s1 ⟨x, H1, I1, r1, q1⟩ => ?_)
  obtain ⟨c, rfl, q1⟩ := q1
  cases r1
  exact not_of (wpAny_truthy_bool ⟨.bl (!c), H1, I1, rfl, q1⟩)
/-- a if t else b -/
def tIf (t : TT) (ta tb : TE) : TE := fun σ H Q => t σ H fun c H1 => if c = true then ta σ H1 Q else tb σ H1 Q
end
end L2

namespace L2
open PySem PySem.Spec PyProof.Rows

def SqL (K : PySem.W.Frag) (H : Hp) (a : Addr) (xs : List V) : Prop :=
  Rd H a (.lst xs) ∨
    ∃ (o : Obj) (its : Array Value) (n : Nat), K.lookup a = some o ∧ o.cls = .type "list" ∧ o.dict = none ∧ o.data = .seq its n ∧ its.size ≤ sizeLine ∧ Vals xs its.toList
def SqT (K : PySem.W.Frag) (H : Hp) (a : Addr) (xs : List V) : Prop :=
  Rd H a (.tup xs) ∨
    ∃ (o : Obj) (its : Array Value) (n : Nat), K.lookup a = some o ∧ o.cls = .type "tuple" ∧ o.data = .seq its n ∧ its.size ≤ sizeLine ∧ Vals xs its.toList
def absV : Value → Option V
  | .none => some .non
  | .bool b => some (.bl b)
  | .int i _ => some (.int i)
  | .str x _ => some (.str x)
  | .bytes b _ => some (.byt b)
  | .float b _ => some (.flt b)
  | .ref a => some (.ref a)
  | .type n => some (.ty n)
  | _ => none
theorem RelV.abs {x : V} {u : Value} (r : RelV x u) : absV u = some x := by
  cases x with
  | non => cases r; rfl
  | bl _ => cases r; rfl
  | int _ => obtain ⟨t, rfl⟩ := r; rfl
  | str _ => obtain ⟨t, rfl⟩ := r; rfl
  | byt _ => obtain ⟨t, rfl⟩ := r; rfl
  | flt _ => obtain ⟨t, rfl⟩ := r; rfl
  | ref _ => cases r; rfl
  | ty _ => cases r; rfl
theorem RelV.inj {x y : V} {u : Value} (r : RelV x u) (q : RelV y u) : x = y := Option.some.inj (r.abs.symm.trans q.abs)
theorem Vals.inj : ∀ {xs ys : List V} {us : List Value}, Vals xs us → Vals ys us → xs = ys
  | _, _, _, .nil, .nil => rfl
  | _, _, _, .cons r t, .cons r' t' => by rw [r.inj r', Vals.inj t t']
section
variable {X : Cx} {pins : List (Addr × Obj)} {σ : St} {H : Hp} {s : Shared} {a : Addr} {xs ys : List V}
theorem SqL.of {K : PySem.W.Frag} (h : H a = some (.lst xs)) : SqL K H a xs := .inl (.inl h)
theorem SqT.of {K : PySem.W.Frag} (h : H a = some (.tup xs)) : SqT K H a xs := .inl (.inl h)
theorem Inv.list (I : Inv X pins σ H s) (h : SqL X.K H a xs) : ∃ its : List Value, Vals xs its ∧ PlainL s.heap a its.toArray ∧ xs.length ≤ sizeLine := by
  rcases h with h | ⟨o, its, n, hk, hc, hd, hs, hz, r⟩
  · obtain ⟨z, its, n, r, e⟩ := h.ok I.hok
    exact ⟨its, r, ⟨_, n, e, rfl, rfl, rfl⟩, z⟩
  · refine ⟨its.toList, r, ⟨o, n, I.kIn a o hk, hc, hd, by simpa using hs⟩, ?_⟩
    have e := r.length
    simp only [Array.length_toList] at e
    omega
theorem Inv.tuple (I : Inv X pins σ H s) (h : SqT X.K H a xs) : ∃ its : List Value, Vals xs its ∧ IsTup s.heap a its.toArray ∧ xs.length ≤ sizeLine := by
  rcases h with h | ⟨o, its, n, hk, hc, hs, hz, r⟩
  · obtain ⟨z, its, r, p⟩ := h.ok I.hok
    exact ⟨its, r, p, z⟩
  · refine ⟨its.toList, r, ⟨o, I.kIn a o hk, hc, n, by simpa using hs⟩, ?_⟩
    have e := r.length
    simp only [Array.length_toList] at e
    omega
theorem Inv.list_inj (I : Inv X pins σ H s) (h : SqL X.K H a xs) (h' : SqL X.K H a ys) : xs = ys := by
  obtain ⟨its, r, ⟨o, n, e, _, _, d⟩, _⟩ := I.list h
  obtain ⟨its', r', ⟨o', n', e', _, _, d'⟩, _⟩ := I.list h'
  rw [e] at e'; cases e'
  rw [d] at d'
  injection d' with d1 _
  have : its = its' := by simpa using congrArg Array.toList d1
  subst this
  exact r.inj r'
end

abbrev Cx.wish (X : Cx) (E : Value → Shared → Prop) : Cx := { X with xe := E }
/-- no exception leaves -/
abbrev Cx.nox (X : Cx) : Cx := X.wish fun _ _ => False
theorem Cx.Ok.wish {X : Cx} (ok : X.Ok) (E : Value → Shared → Prop) : (X.wish E).Ok :=
  ⟨ok.mod, ok.kind, ok.glob, ok.blt, ok.above, ok.inj, ok.has, ok.cab, ok.hd, ok.frames, ok.stk, ok.exf, ok.bs, ok.bsz, ok.noex, ok.exfs, ok.funs, ok.frf⟩
theorem Cx.Ok.unwish {X : Cx} {E : Value → Shared → Prop} (ok : (X.wish E).Ok) : X.Ok :=
  ⟨ok.mod, ok.kind, ok.glob, ok.blt, ok.above, ok.inj, ok.has, ok.cab, ok.hd, ok.frames, ok.stk, ok.exf, ok.bs, ok.bsz, ok.noex, ok.exfs, ok.funs, ok.frf⟩
section
variable {X : Cx} {pins : List (Addr × Obj)} {σ : St} {H : Hp} {s : Shared} {E : Value → Shared → Prop}
theorem Inv.wish (I : Inv X pins σ H s) (E : Value → Shared → Prop) : Inv (X.wish E) pins σ H s := ⟨I.ok.wish E, I.os, I.bare, I.base, I.loc, I.cell, I.free, I.freeC, I.pin, I.hok, I.len⟩
theorem Inv.unwish (I : Inv (X.wish E) pins σ H s) : Inv X pins σ H s := ⟨I.ok.unwish, I.os, I.bare, I.base, I.loc, I.cell, I.free, I.freeC, I.pin, I.hok, I.len⟩
theorem SP.unwish {D : Ends} {f : Flow} {s' : Shared} (h : SP (X.wish E) pins D f s') : SP X pins D f s' := by
  cases f with
  | next => obtain ⟨σ', H', I, q⟩ := h; exact ⟨σ', H', I.unwish, q⟩
  | brk => obtain ⟨σ', H', I, q⟩ := h; exact ⟨σ', H', I.unwish, q⟩
  | cont => obtain ⟨σ', H', I, q⟩ := h; exact ⟨σ', H', I.unwish, q⟩
  | ret u => obtain ⟨v, σ', H', I, r, q⟩ := h; exact ⟨v, σ', H', I.unwish, r, q⟩
theorem PE.nox {e : Expr} {t : TE} (h : PE X.nox e t) : PE X e t := fun pins s σ H Q I hw =>
  wpAny_mono (h pins s σ H Q (I.wish _) hw) (fun _ _ ⟨v, H', I', r, q⟩ => ⟨v, H', I'.unwish, r, q⟩) fun _ _ z => False.elim z
theorem PT.nox {e : Expr} {t : TT} (h : PT X.nox e t) : PT X e t := fun pins s σ H Q I hw =>
  wpAny_mono (h pins s σ H Q (I.wish _) hw) (fun _ _ ⟨H', I', q⟩ => ⟨H', I'.unwish, q⟩) fun _ _ z => False.elim z
theorem PSs.nox {st : List Stmt} {t : TS} (h : PSs X.nox st t) : PSs X st t := fun pins s σ H D I hw =>
  wpAny_mono (h pins s σ H D (I.wish _) hw) (fun _ _ q => q.unwish) fun _ _ z => False.elim z
end

section
variable {X : Cx} {st : Stmt} {rest : List Stmt} {t u : TS} {e : Expr} {te : TE} {pos : Pos}
def tNext : TS := fun D σ H => D.nx σ H
def tSeq (t u : TS) : TS := fun D σ H => t { D with nx := u D } σ H
theorem pss_nil : PSs X [] tNext := fun _ _ σ H _ I h => wpAny_execs_nil ⟨σ, H, I, h⟩
theorem pss_cons (h1 : PS X st t) (h2 : PSs X rest u) : PSs X (st :: rest) (tSeq t u) := by
  intro pins s σ H D I h
  refine wpAny_execs_cons (thn (h1 pins s σ H { D with nx := u D } I h) fun f s1 q => ?_)
  cases f with
  | next =>
    obtain ⟨σ', H', I', q⟩ := q
    exact h2 pins s1 σ' H' D I' q
  | ret v => exact q
  | brk => exact q
  | cont => exact q
theorem pss_one (h1 : PS X st t) : PSs X [st] t := by
  intro pins s σ H D I h
  refine wpAny_execs_cons (thn (h1 pins s σ H D I h) fun f s1 q => ?_)
  cases f with
  | next => exact wpAny_execs_nil q
  | ret v => exact q
  | brk => exact q
  | cont => exact q
/-- in a def's body nothing is shown -/
theorem Inv.quiet {pins : List (Addr × Obj)} {σ : St} {H : Hp} {s : Shared} (I : Inv X pins σ H s) : interactive X.env = false := by simp [interactive, I.ok.kind]
/-- an expression whose value is dropped -/
def tDrop (te : TE) : TS := fun D σ H => te σ H fun _ H1 => D.nx σ H1
theorem ps_expr (he : PE X e te) (hs : swapsWith e none pos.line X.env = pure false := by rfl) : PS X (.Expr e pos) (tDrop te) := by
  intro pins s σ H D I h
  exact wpAny_Expr_any (thn (he pins s σ H _ I h) fun v s1 ⟨x, H1, I1, r1, q1⟩ => ⟨σ, H1, I1, q1⟩) I.quiet hs
def tRet (te : TE) : TS := fun D σ H => te σ H D.rt
theorem ps_ret (he : PE X e te) : PS X (.Return (some e) pos) (tRet te) := by
  intro pins s σ H D I h
  exact wpAny_Return_some (thn (he pins s σ H _ I h) fun v s1 ⟨x, H1, I1, r1, q1⟩ => ⟨x, σ, H1, I1, r1, q1⟩)
def tRetN : TS := fun D _ H => D.rt .non H
def tIfS (c : TT) (t u : TS) : TS := fun D σ H => c σ H fun b H1 => if b = true then t D σ H1 else u D σ H1
theorem ps_if {c : Expr} {a b : List Stmt} {tc : TT} (hc : PT X c tc) (ha : PSs X a t) (hb : PSs X b u) : PS X (.If c a b pos) (tIfS tc t u) := by
  intro pins s σ H D I h
  refine wpAny_If (thn (hc pins s σ H _ I h) fun d s1 ⟨H1, I1, q1⟩ => ?_)
  cases d with
  | true => exact ha pins s1 σ H1 D I1 q1
  | false => exact hb pins s1 σ H1 D I1 q1
end

abbrev TG := V → St → Hp → (St → Hp → Prop) → Prop
abbrev TGs := List V → St → Hp → (St → Hp → Prop) → Prop
def PG (X : Cx) (target : Expr) (t : TG) : Prop :=
  ∀ (pins : List (Addr × Obj)) (s : Shared) (σ : St) (H : Hp) (v : V) (u : Value) (Q : St → Hp → Prop), Inv X pins σ H s → RelV v u → t v σ H Q →
    wpAny (model X.prog X.w) X.A (assign target X.env u) (fun _ s' => ∃ σ' H', Inv X pins σ' H' s' ∧ Q σ' H') X.xe s
/-- several targets, one after another -/
def PGs (X : Cx) (ts : List Expr) (t : TGs) : Prop :=
  ∀ (pins : List (Addr × Obj)) (s : Shared) (σ : St) (H : Hp) (vs : List V) (us : List Value) (Q : St → Hp → Prop), Inv X pins σ H s → Vals vs us → t vs σ H Q →
    wpAny (model X.prog X.w) X.A (assignInOrder ((assignEach ts X.env).map (·.2)) us) (fun _ s' => ∃ σ' H', Inv X pins σ' H' s' ∧ Q σ' H') X.xe s
/-- o[i] = v, by values -/
abbrev TSet := V → V → V → Hp → (Hp → Prop) → Prop
def PSet (X : Cx) (t : TSet) : Prop :=
  ∀ (pins : List (Addr × Obj)) (s : Shared) (σ : St) (H : Hp) (o i v : V) (ov iv u : Value) (Q : Hp → Prop), Inv X pins σ H s → RelV o ov → RelV i iv → RelV v u → t o i v H Q →
    wpAny (model X.prog X.w) X.A (setItem ov iv u) (fun _ s' => ∃ H', Inv X pins σ H' s' ∧ Q H') X.xe s
/-- a op= b, by values -/
abbrev TIp := V → V → Hp → VK → Prop
def PIp (X : Cx) (op : Operator) (t : TIp) : Prop :=
  ∀ (pins : List (Addr × Obj)) (s : Shared) (σ : St) (H : Hp) (x y : V) (v u : Value) (Q : VK), Inv X pins σ H s → RelV x v → RelV y u → t x y H Q →
    wpAny (model X.prog X.w) X.A (inplaceOp op v u) (EP X pins σ Q) X.xe s
section
variable {X : Cx} {pos : Pos}
def gName (i : Nat) : TG := fun v σ H Q => Q (σ.set i (some v)) H
theorem pg_name {i : Nat} {x : Str} (hN : X.N.Nodup) (hi : X.N[i]? = some x) (hx : Loc X.env.scope x) (hf : X.fn x = true ∨ X.env.scope.names.lookup x = some .local := by first | exact .inl rfl | exact .inr rfl | assumption) : PG X (.Name x pos) (gName i) := by
  intro pins s σ H v u Q I r h
  exact wpAny_assign_Name (store_ok I hN hi hx r (fun s' I' => ⟨_, H, I', h⟩) hf)
def gNil : TGs := fun vs σ H Q => vs = [] ∧ Q σ H
def gCons (t : TG) (u : TGs) : TGs := fun vs σ H Q => ∃ v r, vs = v :: r ∧ t v σ H fun σ' H' => u r σ' H' Q
theorem pgs_nil : PGs X [] gNil := by
  intro pins s σ H vs us Q I r h
  obtain ⟨e, h⟩ := h
  subst e
  cases r
  exact assignInOrder_nil ⟨σ, H, I, h⟩
theorem pgs_cons {e : Expr} {es : List Expr} {t : TG} {u : TGs} (h1 : PG X e t) (h2 : PGs X es u)
    (hs : (assignEach (e :: es) X.env).map (·.2) = assign e X.env :: (assignEach es X.env).map (·.2) := by rfl) : PGs X (e :: es) (gCons t u) := by
  intro pins s σ H vs us Q I r h
  obtain ⟨v, vr, e1, h⟩ := h
  subst e1
  cases r with
  | cons r rr =>
    rw [hs]
    refine assignInOrder_cons (thn (h1 pins s σ H _ _ _ I r h) fun _ s1 ⟨σ1, H1, I1, q1⟩ => ?_)
    exact h2 pins s1 σ1 H1 _ _ Q I1 rr q1
/-- (a, b, ..) = a tuple of that length -/
def gTup (K : PySem.W.Frag) (n : Nat) (t : TGs) : TG := fun v σ H Q => ∃ a xs, v = .ref a ∧ SqT K H a xs ∧ xs.length = n ∧ t xs σ H Q
theorem pg_tup {es : List Expr} {k : Nat} {t : TGs} {n : Nat} (hc : X.calm = true) (h : PGs X es t)
    (hn : (assignEach es X.env).length = n := by rfl) (hst : (assignEach es X.env).findIdx? (·.1) = none := by rfl) : PG X (.Tuple es k pos) (gTup X.K n t) := by
  intro pins s σ H v u Q I r hw
  obtain ⟨a, xs, e1, hq, hl, hw⟩ := hw
  subst e1
  cases r
  obtain ⟨its, rv, ht, hz⟩ := I.tuple hq
  refine assign_Tuple_tuple (I.ok.hd hc) ht (by simp [hn, ← hl, rv.length]) hst fun h' hx => ?_
  have I1 : Inv X pins σ H { s with heap := h' } := I.kept (t' := s.toks) fun b o e => hx b o (Nat.ne_of_lt (Heap.lt_size e)) e
  exact h pins _ σ H xs _ Q I1 (by simpa using rv) hw
/-- o[i] = .. -/
def gSub (to ti : TE) (t : TSet) : TG := fun v σ H Q => to σ H fun o H1 => ti σ H1 fun i H2 => t o i v H2 fun H3 => Q σ H3
theorem pg_sub {o i : Expr} {to ti : TE} {t : TSet} (ho : PE X o to) (hi : PE X i ti) (hs : PSet X t)
    (ha : ∀ v, assign (.Subscript o i pos) X.env v = (do
      let ov ← holding [v] (eval o X.env)
      let iv ← holding [v, ov] (eval i X.env)
      standAt pos
      holding [v, ov, iv] (setItem ov iv v)
      release [v, ov, iv] []) := by intro _; rfl) : PG X (.Subscript o i pos) (gSub to ti t) := by
  intro pins s σ H v u Q I r h
  rw [ha]
  refine wpAny_bind (wpAny_holding (thn (ho pins s σ H _ I h) fun ov s1 ⟨x, H1, I1, r1, q1⟩ => ?_))
  refine wpAny_bind (wpAny_holding (thn (hi pins s1 σ H1 _ I1 q1) fun iv s2 ⟨y, H2, I2, r2, q2⟩ => ?_))
  refine wpAny_bind (wpAny_standAt (wpAny_bind (wpAny_holding (thn (hs pins s2 σ H2 x y v ov iv u _ I2 r1 r2 r q2) fun _ s3 ⟨H3, I3, q3⟩ => ?_))))
  exact wpAny_release ⟨σ, H3, I3, q3⟩
/-- target = value -/
def tAsg (te : TE) (g : TG) : TS := fun D σ H => te σ H fun x H1 => g x σ H1 D.nx
theorem ps_asg {tg e : Expr} {te : TE} {g : TG} (he : PE X e te) (hg : PG X tg g) (hs : swapsWithSole [tg] e pos.line X.env = pure false := by rfl) (hw : swappedStores [tg] e X.env = pure none := by rfl)
    (h1 : (assignEach [tg] X.env).map (·.2) = [assign tg X.env] := by rfl) : PS X (.Assign [tg] e pos) (tAsg te g) := by
  intro pins s σ H D I h
  refine wpAny_Assign_stores (thn (he pins s σ H _ I h) fun v s1 ⟨x, H1, I1, r1, q1⟩ => ?_) hs hw
  rw [h1]
  exact thn (hg pins s1 σ H1 x v _ I1 r1 q1) fun _ s2 q => q
/-- name = value -/
theorem ps_set {i : Nat} {x : Str} {e : Expr} {te : TE} {pos' : Pos} (hN : X.N.Nodup) (hi : X.N[i]? = some x) (hx : Loc X.env.scope x) (he : PE X e te) (hs : swapsWith e (some (.Name x pos')) pos.line X.env = pure false := by rfl) (hf : X.fn x = true ∨ X.env.scope.names.lookup x = some .local := by first | exact .inl rfl | exact .inr rfl | assumption) :
    PS X (.Assign [.Name x pos'] e pos) (tAsg te (gName i)) := by
  intro pins s σ H D I h
  refine wpAny_Assign_Name (thn (he pins s σ H _ I h) fun v s1 ⟨y, H1, I1, r1, q1⟩ => ?_) hs
  exact store_ok I1 hN hi hx r1 (fun s2 I2 => ⟨_, H1, I2, q1⟩) hf
/-- name op= e -/
def tAug (i : Nat) (te : TE) (ti : TIp) : TS := fun D σ H => ∃ x, σ[i]? = some (some x) ∧ te σ H fun y H1 => ti x y H1 fun z H2 => D.nx (σ.set i (some z)) H2
theorem ps_aug {i : Nat} {x : Str} {e : Expr} {te : TE} {op : Operator} {ti : TIp} {pos' : Pos} (hN : X.N.Nodup) (hi : X.N[i]? = some x) (hx : Loc X.env.scope x) (he : PE X e te) (ho : PIp X op ti) (hf : X.fn x = true ∨ X.env.scope.names.lookup x = some .local := by first | exact .inl rfl | exact .inr rfl | assumption) :
    PS X (.AugAssign (.Name x pos') op e pos) (tAug i te ti) := by
  intro pins s σ H D I h
  obtain ⟨v, e1, h⟩ := h
  obtain ⟨m, hn, hl⟩ := I.loc
  have vis : Vis X.env.scope x := by rcases hx with k | k; exact .inl k; exact .inr (.inl k)
  obtain ⟨u, r, l⟩ := hl i x v hi e1 vis
  refine wpAny_AugAssign_Name ?_
  have go : wpAny (model X.prog X.w) X.A (eval e X.env) (fun w s₂ => wpAny (model X.prog X.w) X.A (inplaceOp op u w) (fun r s₃ => wpAny (model X.prog X.w) X.A (storeName X.env x r) (fun _ => SP X pins D .next) X.xe s₃) X.xe s₂) X.xe s := by
    refine thn (he pins s σ H _ I h) fun w s1 ⟨y, H1, I1, r1, q1⟩ => ?_
    refine thn (ho pins s1 σ H1 v y u w _ I1 r r1 q1) fun z s2 ⟨zv, H2, I2, r2, q2⟩ => ?_
    exact store_ok I2 hN hi hx r2 (fun s3 I3 => ⟨_, H2, I3, q2⟩) hf
  rcases l with ⟨hk, hm⟩ | ⟨hk, c, hc, hcell⟩
  · exact wpAny_loadName_local I.ok.kind hk hn hm go
  · rcases hk with hk | hk
    · exact wpAny_loadName_cell I.ok.kind hk hc hcell go
    · rcases hx with k | k
      · have : X.env.scope.names.lookup x = some .free := hk
        rw [k] at this; cases this
      · have : X.env.scope.names.lookup x = some .free := hk
        rw [k] at this; cases this
/-- ints -/
def ipI (f : Int → Int → Int) : TIp := fun x y H Q => ∃ i j, x = .int i ∧ y = .int j ∧ Q (.int (f i j)) H
theorem ip_add : PIp X .Add (ipI fun i j => i + j) := by
  intro pins s σ H x y v u Q I r1 r2 h
  obtain ⟨i, j, e1, e2, q⟩ := h
  subst e1; subst e2
  obtain ⟨t, rfl⟩ := r1
  obtain ⟨t', rfl⟩ := r2
  exact iadd_int ⟨.int _, H, I.tok _, ⟨_, rfl⟩, q⟩
end

section
variable {X : Cx} {pos : Pos}
/-- the invariant W with its measure -/
def tWhile (c : TT) (tb : TS) : TS := fun D σ H => ∃ W : Nat → St → Hp → Prop, (∃ m, W m σ H) ∧ ∀ m σ H, W m σ H →
  c σ H fun b H1 => if b = true then ∃ N : St → Hp → Prop, (∀ σ' H', N σ' H' → ∃ m', m' < m ∧ W m' σ' H') ∧ tb { D with nx := N, ct := N, bk := D.nx } σ H1 else D.nx σ H1
theorem ps_while {c : Expr} {body : List Stmt} {tc : TT} {tb : TS} (hp : PassesOwn (model X.prog X.w) X.A X.env X.xe) (hc : PT X c tc) (hb : PSs X body tb) : PS X (.While c body [] pos) (tWhile tc tb) := by
  intro pins s σ H D I h
  obtain ⟨W, ⟨m0, w0⟩, turn⟩ := h
  refine wpAny_While (codeAny_whileLoop (fun n s' => ∃ σ' H', Inv X pins σ' H' s' ∧ W n σ' H') ?_ m0 ⟨σ, H, I, w0⟩)
  rintro n s1 ⟨σ1, H1, I1, w1⟩
  refine wpAny_passesOwn hp (thn (hc pins s1 σ1 H1 _ I1 (turn n σ1 H1 w1)) fun b s2 ⟨H2, I2, q2⟩ => ?_)
  cases b with
  | true =>
    obtain ⟨N, hN, q2⟩ := q2
    rw [if_pos rfl]
    refine wpAny_passesOwn hp (thn (hb pins s2 σ1 H2 _ I2 q2) fun f s3 q3 => ?_)
    cases f with
    | next =>
      obtain ⟨σ3, H3, I3, n3⟩ := q3
      obtain ⟨m', hm, w3⟩ := hN σ3 H3 n3
      exact ⟨m', hm, σ3, H3, I3, w3⟩
    | cont =>
      obtain ⟨σ3, H3, I3, n3⟩ := q3
      obtain ⟨m', hm, w3⟩ := hN σ3 H3 n3
      exact ⟨m', hm, σ3, H3, I3, w3⟩
    | brk => exact q3
    | ret v => exact q3
  | false =>
    rw [if_neg Bool.false_ne_true]
    exact wpAny_execs_nil ⟨σ1, H2, I2, q2⟩
end

/-- at turn i: it yields x (the heap may grow), or it stops -/
structure It where
  go : Nat → Hp → Prop
  yld : Nat → Hp → V → Hp → Prop
  stop : Nat → Hp → Prop
/-- the iterator's own objects may turn: they are not the frame's, not pinned, younger than the entry (or a comprehension's own) -/
def FpOk (X : Cx) (pins : List (Addr × Obj)) (H : Hp) (b : Addr) : Prop :=
  H b = none ∧ b ≠ X.env.locals ∧ b ∉ X.fs ∧ (b ∈ X.ex ∨ X.s₀.heap.objs.size ≤ b) ∧ (∀ x c, X.env.cells.lookup x = some c → c ≠ b) ∧ ∀ p ∈ X.pn ++ pins, p.1 ≠ b
theorem Inv.fpOk {X : Cx} {pins : List (Addr × Obj)} {σ : St} {H H' : Hp} {s : Shared} {b : Addr} (I : Inv X pins σ H s) (hb : s.heap.objs.size ≤ b) (hn : H' b = none) : FpOk X pins H' b := by
  refine ⟨hn, Nat.ne_of_gt (Nat.lt_of_lt_of_le I.lt hb), I.nofs hb, .inr (Nat.le_trans I.sz hb), fun x c e z => ?_, fun p hp z => ?_⟩
  · obtain ⟨v, q⟩ := I.cell x c e
    exact absurd (Nat.lt_of_lt_of_le q.lt (by rw [z]; exact hb)) (Nat.lt_irrefl _)
  · exact absurd (Nat.lt_of_lt_of_le (Heap.lt_size (I.pin p hp).1) (by rw [z]; exact hb)) (Nat.lt_irrefl _)
structure Turn (P : Program) (w : World) (K : PySem.W.Frag) (tg : Expr) (J : It) (fp : List Addr) (it : Addr) (tn : Nat → Heap → Prop) : Prop where
  mem : it ∈ fp
  obj : ∀ i h, tn i h → ∀ b ∈ fp, ∃ o, h.get? b = some o ∧ ∀ v, o.data ≠ .cell v
  keep : ∀ i h h', tn i h → (∀ b ∈ fp, ∀ o, h.get? b = some o → h'.get? b = some o) → tn i h'
  item : ∀ (X : Cx), X.prog = P → X.w = w → X.K = K → X.calm = true → ∀ (i : Nat) (pins : List (Addr × Obj)) (s : Shared) (σ : St) (H : Hp) (E : Value → Shared → Prop), Inv X pins σ H s → (∀ b ∈ fp, FpOk X pins H b) → tn i s.heap → J.go i H →
    wpAny (model P w) X.A (pyNext (.ref it)) (fun r s1 => ∃ u, r = some u ∧
      wpAny (model P w) X.A (letOwnedTupleGo tg (.ref it) u) (fun _ s2 => ∃ x H', Inv X pins σ H' s2 ∧ RelV x u ∧ J.yld i H x H' ∧ tn (i + 1) s2.heap ∧ ∀ b ∈ fp, H' b = none) E s1) E s
  done : ∀ (X : Cx), X.prog = P → X.w = w → X.K = K → X.calm = true → ∀ (i : Nat) (pins : List (Addr × Obj)) (s : Shared) (σ : St) (H : Hp) (E : Value → Shared → Prop), Inv X pins σ H s → (∀ b ∈ fp, FpOk X pins H b) → tn i s.heap → J.stop i H →
    wpAny (model P w) X.A (pyNext (.ref it)) (fun r s1 => r = none ∧ Inv X pins σ H s1) E s
  self : ∀ (A : Around) (i : Nat) (s : Shared) (Q : Value → Shared → Prop) (E : Value → Shared → Prop), tn i s.heap → Q (.ref it) s → wpAny (model P w) A (pyIter (.ref it)) Q E s
abbrev TI := St → Hp → (It → Hp → Prop) → Prop
/-- an iterator has come -/
def PIE (X : Cx) (pins : List (Addr × Obj)) (σ : St) (tg : Expr) (R : It → Hp → Prop) (itv : Value) (s2 : Shared) : Prop :=
  ∃ (it : Addr) (fp : List Addr) (tn : Nat → Heap → Prop) (J : It) (H' : Hp), itv = .ref it ∧ Inv X pins σ H' s2 ∧ Turn X.prog X.w X.K tg J fp it tn ∧ tn 0 s2.heap ∧ (∀ b ∈ fp, FpOk X pins H' b) ∧ R J H'
def PI (X : Cx) (tg iter : Expr) (wi : TI) : Prop :=
  ∀ (pins : List (Addr × Obj)) (s : Shared) (σ : St) (H : Hp) (R : It → Hp → Prop), Inv X pins σ H s → wi σ H R →
    wpAny (model X.prog X.w) X.A (eval iter X.env) (fun v s1 => wpAny (model X.prog X.w) X.A (pyIter v) (PIE X pins σ tg R) X.xe s1) X.xe s

/-- the step ahead of the store is nothing for an iterator that keeps no tuple -/
theorem go_of {M : Model} {A : Around} {E : Value → Shared → Prop} {s : Shared} {tg : Expr} {it : Addr} {u : Value} {o : Obj} {n : String} {vs : Array Value} {Q : Unit → Shared → Prop} (ho : s.heap.get? it = some o) (hc : o.cls = .type n) (hd : o.data = .fields vs)
    (hn : ["enumerate", "zip", "dict_itemiterator", "dict_reverseitemiterator", "odict_iterator", "itertools.zip_longest", "itertools.pairwise"].contains n = false) (hQ : Q () s) : wpAny M A (letOwnedTupleGo tg (.ref it) u) Q E s := by
  unfold letOwnedTupleGo
  cases tg <;> first
    | exact wpAny_pure hQ
    | (cases u <;> first
        | exact wpAny_pure hQ
        | (refine wpAny_bind (wpAny_load ho ?_)
           rw [hc, hd]
           show wpAny M A (if (["enumerate", "zip", "dict_itemiterator", "dict_reverseitemiterator", "odict_iterator", "itertools.zip_longest", "itertools.pairwise"].contains n && vs[0]? == some (rawInt _)) = true then _ else _) Q E s
           rw [if_neg (by intro h; rw [hn, Bool.false_and] at h; cases h)]
           exact wpAny_pure hQ))

/-- the list at a, as it stands at each turn (a loop may append to it) -/
def Itl (K : PySem.W.Frag) (a : Addr) : It :=
  ⟨fun i H => ∃ xs x, SqL K H a xs ∧ xs[i]? = some x, fun i H x H' => H' = H ∧ ∀ xs, SqL K H a xs → xs[i]? = some x, fun i H => ∃ xs, SqL K H a xs ∧ xs.length ≤ i⟩
/-- lo, lo + 1, .. (n of them) -/
def Itr (lo : Int) (n : Nat) : It := ⟨fun i _ => i < n, fun i H x H' => H' = H ∧ x = .int (lo + i), fun i _ => n ≤ i⟩
theorem turn_list {P : Program} {w : World} {K : PySem.W.Frag} {tg : Expr} (a it : Addr) : Turn P w K tg (Itl K a) [it] it (fun i h => h.IsListIter it a i) where
  mem := by simp
  obj := fun i h st b hb => by
    have e : b = it := by simpa using hb
    subst e
    obtain ⟨o, e, c, d⟩ := st
    exact ⟨o, e, fun v z => by rw [d] at z; cases z⟩
  keep := fun i h h' st k => st.at fun o e => k it (by simp) o e
  item := by
    intro X hP hw hK hc i pins s σ H E I hf st hg
    subst hP hw hK
    obtain ⟨xs, x, hq, hx⟩ := hg
    obtain ⟨its, rv, p, hz⟩ := I.list hq
    obtain ⟨u, hu, ru⟩ := rv.get hx
    obtain ⟨f0, f1, f2, f3, f4, f5⟩ := hf it (by simp)
    refine wpAny_pyNext_list_item st p.isList (x := u) (by simpa using hu) fun h' st' sb => ?_
    have I1 : Inv X pins σ H { s with heap := h' } := I.turned (t' := s.toks) (fun b o hb e => (sb.2 b hb).trans e) f0 f1 f3 f4 f5
    obtain ⟨o, e, c, d⟩ := id st'
    exact ⟨u, rfl, go_of (s := { s with heap := h' }) e c d (by decide) ⟨x, H, I1, ru, ⟨rfl, fun ys hy => by rw [I.list_inj hy hq]; exact hx⟩, st', fun b hb => (hf b hb).1⟩⟩
  done := by
    intro X hP hw hK hc i pins s σ H E I hf st hg
    subst hP hw hK
    obtain ⟨xs, hq, hx⟩ := hg
    obtain ⟨its, rv, p, hz⟩ := I.list hq
    obtain ⟨f0, f1, f2, f3, f4, f5⟩ := hf it (by simp)
    have hl := rv.length
    exact wpAny_pyNext_list_end (I.ok.hd hc) st p.isList (by simp; omega) fun h' eb => ⟨rfl, I.turned (t' := s.toks) (fun b o hb e => eb b o hb e) f0 f1 f3 f4 f5⟩
  self := fun _ _ _ _ _ st h => wpAny_pyIter_listiter st h
theorem turn_range {P : Program} {w : World} {K : PySem.W.Frag} {tg : Expr} (it : Addr) (lo : Int) (n : Nat) : Turn P w K tg (Itr lo n) [it] it (fun i h => IsRangeIter h it (lo + (i : Nat) * 1) ((n : Int) - (i : Nat)) 1) where
  mem := by simp
  obj := fun i h st b hb => by
    have e : b = it := by simpa using hb
    subst e
    exact ⟨_, st, fun v z => by
      have z' : Data.fields _ = Data.cell v := z
      cases z'⟩
  keep := fun i h h' st k => k it (by simp) _ st
  item := by
    intro X hP hw hK hc i pins s σ H E I hf st hg
    subst hP hw hK
    obtain ⟨f0, f1, f2, f3, f4, f5⟩ := hf it (by simp)
    have W := Walks.range (prog := X.prog) (w := X.w) (I.ok.hd hc) it lo 1 n
    refine W.item i s _ _ hg st fun v h' tk hv st' kk => ?_
    obtain ⟨t, rfl⟩ := hv
    have I1 : Inv X pins σ H { s with heap := h', toks := tk } := I.turned (fun b o hb e => kk b o (by simpa using hb) e) f0 f1 f3 f4 f5
    refine ⟨_, rfl, go_of (s := { s with heap := h', toks := tk }) (n := "range_iterator") st' rfl rfl (by decide) ⟨.int (lo + i), H, I1, ⟨t, ?_⟩, ⟨rfl, rfl⟩, st', fun b hb => (hf b hb).1⟩⟩
    rw [Int.mul_one]
  done := by
    intro X hP hw hK hc i pins s σ H E I hf st hg
    subst hP hw hK
    obtain ⟨f0, f1, f2, f3, f4, f5⟩ := hf it (by simp)
    exact wpAny_pyNext_range_end (I.ok.hd hc) st (by have : n ≤ i := hg; omega) fun h' eb => ⟨rfl, I.turned (t' := s.toks) (fun b o hb e => eb b o hb e) f0 f1 f3 f4 f5⟩
  self := fun _ _ _ _ _ st h => wpAny_pyIter_rangeiter st h
end L2

namespace L2
open PySem PySem.Spec PyProof.Rows
section
variable {X : Cx} {tg : Expr}
def iList (K : PySem.W.Frag) (tl : TE) : TI := fun σ H R => tl σ H fun x H1 => ∃ a, x = .ref a ∧ (∃ xs, SqL K H1 a xs) ∧ R (Itl K a) H1
theorem pi_list {l : Expr} {tl : TE} (hl : PE X l tl) : PI X tg l (iList X.K tl) := by
  intro pins s σ H R I h
  refine thn (hl pins s σ H _ I h) fun v s1 ⟨x, H1, I1, r1, q1⟩ => ?_
  obtain ⟨a, e, ⟨xs, hq⟩, q⟩ := q1
  subst e
  cases r1
  obtain ⟨its, rv, p, hz⟩ := I1.list hq
  refine wpAny_pyIter_list p.isList ?_
  refine ⟨s1.heap.objs.size, [s1.heap.objs.size], _, _, H1, rfl, I1.kept (t' := s1.toks) fun b o e => Heap.get?_push_of_some _ e, turn_list a _, ⟨_, Heap.get?_push_size _ rfl, rfl, rfl⟩, fun b hb => ?_, q⟩
  have e : b = s1.heap.objs.size := by simpa using hb
  subst e
  exact I1.fpOk (Nat.le_refl _) (I1.hok.fresh (Nat.le_refl _))
/-- a range object just made, walked -/
theorem range_it {pins : List (Addr × Obj)} {σ : St} {H : Hp} {s : Shared} {R : It → Hp → Prop} {E : Value → Shared → Prop} {lo hi : Int} {t u v : Tok} {tk : Nat} (I : Inv X pins σ H s) (h1 : -(2 ^ 62) ≤ lo) (h2 : lo < 2 ^ 62) (h3 : -(2 ^ 62) ≤ hi) (h4 : hi < 2 ^ 62)
    (q : R (Itr lo (hi - lo).toNat) H) : wpAny (model X.prog X.w) X.A (pyIter (.ref s.heap.objs.size)) (PIE X pins σ tg R) E { s with heap := s.heap.push { cls := .type "range", data := .fields #[.int lo t, .int hi u, .int 1 v] }, toks := tk } := by
  refine wpAny_pyIter_range (IsRange.new ..) (small_one h1 h2 h3 h4) ?_
  have I1 : Inv X pins σ H { s with heap := s.heap.push { cls := .type "range", data := .fields #[.int lo t, .int hi u, .int 1 v] }, toks := tk } := I.kept fun b o e => Heap.get?_push_of_some _ e
  refine ⟨(s.heap.push { cls := .type "range", data := .fields #[.int lo t, .int hi u, .int 1 v] }).objs.size, [(s.heap.push { cls := .type "range", data := .fields #[.int lo t, .int hi u, .int 1 v] }).objs.size], _, _, H, rfl,
    I1.kept (t' := tk) fun b o e => Heap.get?_push_of_some _ e, turn_range _ lo (hi - lo).toNat, ?_, fun b hb => ?_, q⟩
  · have e1 : lo + ((0 : Nat) : Int) * 1 = lo := by simp
    have e2 : (((hi - lo).toNat : Nat) : Int) - ((0 : Nat) : Int) = Builtin.Range.rangeSize lo hi 1 := by rw [rangeSize_one]; split <;> omega
    show IsRangeIter _ _ (lo + ((0 : Nat) : Int) * 1) ((((hi - lo).toNat : Nat) : Int) - ((0 : Nat) : Int)) 1
    rw [e1, e2]
    exact Heap.get?_push_size _ rfl
  · have e : b = (s.heap.push { cls := .type "range", data := .fields #[.int lo t, .int hi u, .int 1 v] }).objs.size := by simpa using hb
    subst e
    exact I1.fpOk (Nat.le_refl _) (I1.hok.fresh (Nat.le_refl _))
def iRng1 (ta : TA) : TI := fun σ H R => ta σ H fun vs H1 => ∃ j : Int, vs = [.int j] ∧ -(2 ^ 62) ≤ j ∧ j < 2 ^ 62 ∧ R (Itr 0 j.toNat) H1
theorem pi_range1 {a : Expr} {ta : TA} {p pos : Pos} (hg : Gl X "range") (hm : X.mg "range" = none) (ha : PA X [a] ta) (hs : starEach [a] X.env = [(false, eval a X.env)] := by rfl) : PI X tg (.Call (.Name "range" p) [a] [] pos) (iRng1 ta) := by
  intro pins s σ H R I h
  refine Call_ (ld_blt I hg hm boot_range (PyProof.Rows.callWith_type1 (thn (ha pos pins s σ H _ I h) fun us s1 ⟨vs, H1, I1, r1, q1⟩ => ?_) hs rfl))
  obtain ⟨j, e, q1, q2, q⟩ := q1
  subst e
  cases r1 with
  | cons r rr =>
    cases rr
    obtain ⟨t, rfl⟩ := r
    exact call_range_1 (range_it I1 (by omega) (by omega) q1 q2 (by simpa using q))
/-- W: the invariant by the turn and a measure; N: what the body is to reach -/
def tFor (wi : TI) (g : TG) (tb : TS) : TS := fun D σ H => wi σ H fun J H1 => ∃ W : Nat → Nat → St → Hp → Prop, (∃ m, W 0 m σ H1) ∧ ∀ i m σ H, W i m σ H →
  (J.stop i H ∧ D.nx σ H) ∨ (J.go i H ∧ ∃ N : St → Hp → Prop, (∀ σ' H', N σ' H' → ∃ m', m' < m ∧ W (i + 1) m' σ' H') ∧ ∀ x H', J.yld i H x H' → g x σ H' fun σ2 H2 => tb { D with nx := N, ct := N, bk := D.nx } σ2 H2)
/-- the records at fp as they stand -/
def pinsAt (fp : List Addr) (h : Heap) : List (Addr × Obj) := fp.filterMap fun b => (h.get? b).map fun o => (b, o)
theorem mem_pinsAt {fp : List Addr} {h : Heap} {b : Addr} {o : Obj} (hb : b ∈ fp) (e : h.get? b = some o) : (b, o) ∈ pinsAt fp h := List.mem_filterMap.mpr ⟨b, hb, by rw [e]; rfl⟩
theorem of_pinsAt {fp : List Addr} {h : Heap} {p : Addr × Obj} (hp : p ∈ pinsAt fp h) : p.1 ∈ fp ∧ h.get? p.1 = some p.2 := by
  obtain ⟨b, hb, e⟩ := List.mem_filterMap.mp hp
  cases q : h.get? b with
  | none => rw [q] at e; cases e
  | some o =>
    rw [q] at e
    have e' : (b, o) = p := Option.some.inj e
    subst e'
    exact ⟨hb, q⟩
theorem Inv.pinned {pins : List (Addr × Obj)} {σ : St} {H : Hp} {s : Shared} {fp : List Addr} (I : Inv X pins σ H s) (hf : ∀ b ∈ fp, FpOk X pins H b) (ho : ∀ b ∈ fp, ∃ o, s.heap.get? b = some o ∧ ∀ v, o.data ≠ .cell v) : Inv X (pins ++ pinsAt fp s.heap) σ H s :=
  I.pins_of fun p hp => (List.mem_append.mp hp).elim (fun z => I.pin p (List.mem_append_right _ z)) fun z => by
    obtain ⟨hb, e⟩ := of_pinsAt z
    obtain ⟨f0, f1, f2, _⟩ := hf p.1 hb
    obtain ⟨o, e', d⟩ := ho p.1 hb
    rw [e] at e'; cases e'
    exact ⟨e, f0, f1, f2, d⟩
theorem Inv.unpinned {pins pl : List (Addr × Obj)} {σ : St} {H : Hp} {s : Shared} (I : Inv X (pins ++ pl) σ H s) : Inv X pins σ H s := I.pins_of fun p hp => I.pin p (List.mem_append_right _ (List.mem_append_left _ hp))
theorem ps_for {iter : Expr} {body : List Stmt} {wi : TI} {g : TG} {tb : TS} {pos : Pos} (hp : PassesOwn (model X.prog X.w) X.A X.env X.xe) (hc : X.calm = true) (hi : PI X tg iter wi) (hg : PG X tg g) (hb : PSs X body tb)
    (hs : ∀ x, foldedSetIterable iter X.env x = pure x := by intro _; rfl) : PS X (.For tg iter body [] pos) (tFor wi g tb) := by
  intro pins s σ H D I h
  refine wpAny_For (thn (hi pins s σ H _ I h) fun v s1 h1 => thn h1 fun itv s2 h2 => ?_) hs
  obtain ⟨it, fp, tn, J, H2, e, I2, T, st2, f2, W, ⟨m0, w0⟩, turn⟩ := h2
  subst e
  have stat : ∀ {H' : Hp}, (∀ b ∈ fp, H' b = none) → ∀ b ∈ fp, FpOk X pins H' b := fun hn b hb => ⟨hn b hb, (f2 b hb).2⟩
  refine codeAny_forLoop_any (fun n s' => ∃ i σ' H', Inv X pins σ' H' s' ∧ tn i s'.heap ∧ (∀ b ∈ fp, H' b = none) ∧ W i n σ' H') ?_ m0 ⟨0, σ, H2, I2, st2, fun b hb => (f2 b hb).1, w0⟩
  rintro n s3 ⟨i, σ3, H3, I3, st3, fr3, w3⟩
  rcases turn i n σ3 H3 w3 with ⟨stop, qn⟩ | ⟨go, N, hN, step⟩
  · refine wpAny_passesOwn hp (thn (T.done X rfl rfl rfl hc i pins s3 σ3 H3 X.xe I3 (stat fr3) st3 stop) fun r s4 ⟨hr, I4⟩ => ?_)
    subst hr
    exact wpAny_execs_nil ⟨σ3, H3, I4, qn⟩
  · refine wpAny_passesOwn hp (thn (T.item X rfl rfl rfl hc i pins s3 σ3 H3 X.xe I3 (stat fr3) st3 go) fun r s4 ⟨u, hr, h4⟩ => ?_)
    subst hr
    refine wpAny_passesOwn hp (thn h4 fun _ s5 ⟨x, H5, I5, r5, y5, st5, fr5⟩ => ?_)
    have I5' := I5.pinned (stat fr5) (T.obj _ _ st5)
    refine wpAny_passesOwn hp (thn (hg _ s5 σ3 H5 x u _ I5' r5 (step x H5 y5)) fun _ s6 ⟨σ6, H6, I6, q6⟩ => ?_)
    refine wpAny_passesOwn hp (thn (hb _ s6 σ6 H6 _ I6 q6) fun f s7 q7 => ?_)
    have again : ∀ {σ7 : St} {H7 : Hp}, Inv X (pins ++ pinsAt fp s5.heap) σ7 H7 s7 → N σ7 H7 → ∃ m, m < n ∧ ∃ i σ' H', Inv X pins σ' H' s7 ∧ tn i s7.heap ∧ (∀ b ∈ fp, H' b = none) ∧ W i m σ' H' := fun {σ7 H7} I7 n7 => by
      obtain ⟨m', hm, w7⟩ := hN σ7 H7 n7
      refine ⟨m', hm, i + 1, σ7, H7, I7.unpinned, T.keep _ _ _ st5 fun b hb o e => (I7.pin (b, o) (List.mem_append_right _ (List.mem_append_right _ (mem_pinsAt hb e)))).1, fun b hb => ?_, w7⟩
      obtain ⟨o, e, d⟩ := T.obj _ _ st5 b hb
      exact (I7.pin (b, o) (List.mem_append_right _ (List.mem_append_right _ (mem_pinsAt hb e)))).2.1
    cases f with
    | next => obtain ⟨σ7, H7, I7, n7⟩ := q7; exact again I7 n7
    | cont => obtain ⟨σ7, H7, I7, n7⟩ := q7; exact again I7 n7
    | brk => obtain ⟨σ7, H7, I7, q7⟩ := q7; exact ⟨σ7, H7, I7.unpinned, q7⟩
    | ret v => obtain ⟨x7, σ7, H7, I7, r7, q7⟩ := q7; exact ⟨x7, σ7, H7, I7.unpinned, r7, q7⟩
end

/-- over a list that the body leaves as it is -/
theorem for_list {K : PySem.W.Frag} {a : Addr} {xs : List V} {g : TG} {tb : TS} {D : Ends} {σ : St} {H : Hp} (Pv : Nat → St → Hp → Prop) (h0 : Pv 0 σ H) (hl : ∀ i σ H, i ≤ xs.length → Pv i σ H → SqL K H a xs)
    (hs : ∀ i x σ H, xs[i]? = some x → Pv i σ H → g x σ H fun σ2 H2 => tb { D with nx := Pv (i + 1), ct := Pv (i + 1), bk := D.nx } σ2 H2) (hd : ∀ σ H, Pv xs.length σ H → D.nx σ H) :
    ∃ W : Nat → Nat → St → Hp → Prop, (∃ m, W 0 m σ H) ∧ ∀ i m σ H, W i m σ H →
      ((Itl K a).stop i H ∧ D.nx σ H) ∨ ((Itl K a).go i H ∧ ∃ N : St → Hp → Prop, (∀ σ' H', N σ' H' → ∃ m', m' < m ∧ W (i + 1) m' σ' H') ∧ ∀ x H', (Itl K a).yld i H x H' → g x σ H' fun σ2 H2 => tb { D with nx := N, ct := N, bk := D.nx } σ2 H2) := by
  refine ⟨fun i m σ H => m = xs.length - i ∧ i ≤ xs.length ∧ Pv i σ H, ⟨xs.length, by simp, Nat.zero_le _, h0⟩, ?_⟩
  rintro i m σ H ⟨rfl, hi, p⟩
  have q := hl i σ H hi p
  by_cases hlt : i < xs.length
  · refine .inr ⟨⟨xs, xs[i], q, by simp [hlt]⟩, Pv (i + 1), fun σ' H' p' => ⟨xs.length - (i + 1), by omega, rfl, hlt, p'⟩, fun x H' y => ?_⟩
    obtain ⟨e, y⟩ := y
    subst e
    exact hs i x σ _ (y xs q) p
  · have e : i = xs.length := by omega
    subst e
    exact .inl ⟨⟨xs, q, Nat.le_refl _⟩, hd σ H p⟩
theorem for_range {lo : Int} {n : Nat} {g : TG} {tb : TS} {D : Ends} {σ : St} {H : Hp} (Pv : Nat → St → Hp → Prop) (h0 : Pv 0 σ H)
    (hs : ∀ i σ H, i < n → Pv i σ H → g (.int (lo + i)) σ H fun σ2 H2 => tb { D with nx := Pv (i + 1), ct := Pv (i + 1), bk := D.nx } σ2 H2) (hd : ∀ σ H, Pv n σ H → D.nx σ H) :
    ∃ W : Nat → Nat → St → Hp → Prop, (∃ m, W 0 m σ H) ∧ ∀ i m σ H, W i m σ H →
      ((Itr lo n).stop i H ∧ D.nx σ H) ∨ ((Itr lo n).go i H ∧ ∃ N : St → Hp → Prop, (∀ σ' H', N σ' H' → ∃ m', m' < m ∧ W (i + 1) m' σ' H') ∧ ∀ x H', (Itr lo n).yld i H x H' → g x σ H' fun σ2 H2 => tb { D with nx := N, ct := N, bk := D.nx } σ2 H2) := by
  refine ⟨fun i m σ H => m = n - i ∧ i ≤ n ∧ Pv i σ H, ⟨n, by simp, Nat.zero_le _, h0⟩, ?_⟩
  rintro i m σ H ⟨rfl, hi, p⟩
  by_cases hlt : i < n
  · refine .inr ⟨hlt, Pv (i + 1), fun σ' H' p' => ⟨n - (i + 1), by omega, rfl, hlt, p'⟩, fun x H' y => ?_⟩
    obtain ⟨e, y⟩ := y
    subst e y
    exact hs i σ _ hlt p
  · have e : i = n := by omega
    subst e
    exact .inl ⟨Nat.le_refl _, hd σ H p⟩
end L2

namespace L2
open PySem PySem.Spec PyProof.Rows

abbrev R2 := V → V → Hp → VK → Prop
/-- a two-place operation on values: f is binaryOp op, inplaceOp op or compareOp op -/
def OpR (X : Cx) (f : Value → Value → Sem Value) (r : R2) : Prop :=
  ∀ (pins : List (Addr × Obj)) (s : Shared) (σ : St) (H : Hp) (x y : V) (v u : Value) (Q : VK), Inv X pins σ H s → RelV x v → RelV y u → r x y H Q →
    wpAny (model X.prog X.w) X.A (f v u) (EP X pins σ Q) X.xe s
/-- a one-place operation -/
def UnR (X : Cx) (f : Value → Sem Value) (r : V → Hp → VK → Prop) : Prop :=
  ∀ (pins : List (Addr × Obj)) (s : Shared) (σ : St) (H : Hp) (x : V) (v : Value) (Q : VK), Inv X pins σ H s → RelV x v → r x H Q →
    wpAny (model X.prog X.w) X.A (f v) (EP X pins σ Q) X.xe s
/-- a call of a value that is known (a builtin, a type) with values -/
def CallR (X : Cx) (f : Value) (r : List V → Hp → VK → Prop) : Prop :=
  ∀ (pins : List (Addr × Obj)) (s : Shared) (σ : St) (H : Hp) (xs : List V) (us : List Value) (Q : VK), Inv X pins σ H s → Vals xs us → r xs H Q →
    wpAny (model X.prog X.w) X.A (call f us) (EP X pins σ Q) X.xe s
def tOp (r : R2) (ta tb : TE) : TE := fun σ H Q => ta σ H fun x H1 => tb σ H1 fun y H2 => r x y H2 Q
def tUn (r : V → Hp → VK → Prop) (ta : TE) : TE := fun σ H Q => ta σ H fun x H1 => r x H1 Q
/-- ints in, under C, and a value out -/
def rI (C : Int → Int → Prop) (g : Int → Int → V) : R2 := fun x y H Q => ∃ i j, x = .int i ∧ y = .int j ∧ C i j ∧ Q (g i j) H
def rI0 (g : Int → Int → V) : R2 := fun x y H Q => ∃ i j, x = .int i ∧ y = .int j ∧ Q (g i j) H
def rU (g : Int → V) : V → Hp → VK → Prop := fun x H Q => ∃ i, x = .int i ∧ Q (g i) H

section
variable {X : Cx} {a b c : Expr} {ta tb tc : TE} {pos : Pos}

theorem binT (ha : PE X a ta) (hb : PE X b tb) {pins : List (Addr × Obj)} {s : Shared} {σ : St} {H : Hp} {R : V → V → Hp → Prop} (I : Inv X pins σ H s)
    (h : ta σ H fun x H1 => tb σ H1 fun y H2 => R x y H2) {Q : Value → Shared → Prop} {f : Value → Value → Sem Value}
    (hf : ∀ v u s2 x y H2, Inv X pins σ H2 s2 → RelV x v → RelV y u → R x y H2 → wpAny (model X.prog X.w) X.A (f v u) Q X.xe s2) :
    wpAny (model X.prog X.w) X.A (eval a X.env) (fun v s₁ => wpAny (model X.prog X.w) X.A (eval b X.env) (fun u s₂ => wpAny (model X.prog X.w) X.A (f v u) Q X.xe s₂) X.xe s₁) X.xe s := by
  refine thn (ha pins s σ H _ I h) fun v s1 ⟨x, H1, I1, r1, q1⟩ => ?_
  refine thn (hb pins s1 σ H1 _ I1 q1) fun u s2 ⟨y, H2, I2, r2, q2⟩ => ?_
  exact hf v u s2 x y H2 I2 r1 r2 q2

theorem pe_op {op : Operator} {r : R2} (ho : OpR X (binaryOp op) r) (ha : PE X a ta) (hb : PE X b tb) : PE X (.BinOp a op b pos) (tOp r ta tb) := by
  intro pins s σ H Q I h
  exact wpAny_BinOp (binT ha hb I h fun v u s2 x y H2 I2 rx ry q => ho pins s2 σ H2 x y v u Q I2 rx ry q)
theorem pe_un {op : UnaryOp} {r : V → Hp → VK → Prop} (ho : UnR X (unaryOp op) r) (ha : PE X a ta) : PE X (.UnaryOp op a pos) (tUn r ta) := by
  intro pins s σ H Q I h
  exact UnaryOp_ (thn (ha pins s σ H _ I h) fun v s1 ⟨x, H1, I1, r1, q1⟩ => ho pins s1 σ H1 x v Q I1 r1 q1)
theorem opI {f : Value → Value → Sem Value} {C : Int → Int → Prop} {g : Int → Int → Int}
    (rule : ∀ (i j : Int) (t u : Tok) (s : Shared) (Q : Value → Shared → Prop) (E : Value → Shared → Prop), C i j → Q (.int (g i j) s.toks) { s with toks := s.toks + 1 } → wpAny (model X.prog X.w) X.A (f (.int i t) (.int j u)) Q E s) :
    OpR X f (rI C fun i j => .int (g i j)) := by
  intro pins s σ H x y v u Q I rx ry h
  obtain ⟨i, j, rfl, rfl, hc, q⟩ := h
  obtain ⟨t, rfl⟩ := rx
  obtain ⟨t', rfl⟩ := ry
  exact rule i j t t' s _ _ hc ⟨.int (g i j), H, I.tok _, ⟨_, rfl⟩, q⟩
theorem opI0 {f : Value → Value → Sem Value} {g : Int → Int → Int}
    (rule : ∀ (i j : Int) (t u : Tok) (s : Shared) (Q : Value → Shared → Prop) (E : Value → Shared → Prop), Q (.int (g i j) s.toks) { s with toks := s.toks + 1 } → wpAny (model X.prog X.w) X.A (f (.int i t) (.int j u)) Q E s) :
    OpR X f (rI0 fun i j => .int (g i j)) := by
  intro pins s σ H x y v u Q I rx ry h
  obtain ⟨i, j, rfl, rfl, q⟩ := h
  obtain ⟨t, rfl⟩ := rx
  obtain ⟨t', rfl⟩ := ry
  exact rule i j t t' s _ _ ⟨.int (g i j), H, I.tok _, ⟨_, rfl⟩, q⟩
theorem opB0 {f : Value → Value → Sem Value} {g : Int → Int → Bool}
    (rule : ∀ (i j : Int) (t u : Tok) (s : Shared) (Q : Value → Shared → Prop) (E : Value → Shared → Prop), Q (.bool (g i j)) s → wpAny (model X.prog X.w) X.A (f (.int i t) (.int j u)) Q E s) :
    OpR X f (rI0 fun i j => .bl (g i j)) := by
  intro pins s σ H x y v u Q I rx ry h
  obtain ⟨i, j, rfl, rfl, q⟩ := h
  obtain ⟨t, rfl⟩ := rx
  obtain ⟨t', rfl⟩ := ry
  exact rule i j t t' s _ _ ⟨.bl (g i j), H, I, rfl, q⟩

def CPow (i j : Int) : Prop := 0 ≤ j ∧ j ≤ 1000000 ∧ i.natAbs < 2 ^ 64
def CMul (i j : Int) : Prop := (-(2 ^ 64) < i ∧ i < 2 ^ 64) ∨ (-(2 ^ 64) < j ∧ j < 2 ^ 64)
theorem CMul.ok {i j : Int} (h : CMul i j) : IntMulOk i j := by
  rcases h with ⟨h1, h2⟩ | ⟨h1, h2⟩
  · exact .of_left (intBits_le_64 h1 h2)
  · exact .of_right (intBits_le_64 h1 h2)
theorem op_add : OpR X (binaryOp .Add) (rI0 fun i j => .int (i + j)) := opI0 fun _ _ _ _ _ _ _ q => add_int q
theorem op_sub : OpR X (binaryOp .Sub) (rI0 fun i j => .int (i - j)) := opI0 fun _ _ _ _ _ _ _ q => sub_int q
theorem op_mul : OpR X (binaryOp .Mult) (rI CMul fun i j => .int (i * j)) := opI fun _ _ _ _ _ _ _ hc q => mul_int q hc.ok
/-- % by a positive divisor of any size -/
theorem op_mod : OpR X (binaryOp .Mod) (rI (fun _ j => 0 < j) fun i j => .int (i % j)) := opI fun i j _ _ _ _ _ hc q => by
  have h1 : (0 : Int) < j := hc
  exact mod_int' (by omega) (by rw [Int.fmod_eq_emod_of_nonneg i (by omega)]; exact q)
theorem op_pow : OpR X (binaryOp .Pow) (rI CPow fun i j => .int (i ^ j.toNat)) := opI fun _ _ _ _ _ _ _ hc q => pow_int_small hc.1 hc.2.1 hc.2.2 q
theorem unI {f : Value → Sem Value} {g : Int → Int}
    (rule : ∀ (i : Int) (t : Tok) (s : Shared) (Q : Value → Shared → Prop) (E : Value → Shared → Prop), Q (.int (g i) s.toks) { s with toks := s.toks + 1 } → wpAny (model X.prog X.w) X.A (f (.int i t)) Q E s) :
    UnR X f (rU fun i => .int (g i)) := by
  intro pins s σ H x v Q I rx h
  obtain ⟨i, rfl, q⟩ := h
  obtain ⟨t, rfl⟩ := rx
  exact rule i t s _ _ ⟨.int (g i), H, I.tok _, ⟨_, rfl⟩, q⟩
theorem un_neg : UnR X (unaryOp .USub) (rU fun i => .int (-i)) := unI fun _ _ _ _ _ q => neg_int q
end

/-- the scalars that == tells apart as data does -/
def scal : V → V → Bool
  | .non, .non => true | .non, .int _ => true | .int _, .non => true | .non, .bl _ => true | .bl _, .non => true | .non, .str _ => true | .str _, .non => true
  | .int _, .int _ => true | .bl _, .bl _ => true | .str _, .str _ => true | .byt _, .byt _ => true
  | .int _, .str _ => true | .str _, .int _ => true | .bl _, .str _ => true | .str _, .bl _ => true
  | _, _ => false
def rEq : R2 := fun x y H Q => scal x y = true ∧ Q (.bl (decide (x = y))) H
def rNe : R2 := fun x y H Q => scal x y = true ∧ Q (.bl (!decide (x = y))) H

theorem dec_int {i j : Int} : decide (V.int i = V.int j) = (i == j) := by
  rw [Bool.eq_iff_iff]
  simp
theorem dec_bl {i j : Bool} : decide (V.bl i = V.bl j) = (i == j) := by
  rw [Bool.eq_iff_iff]
  simp
theorem dec_str {i j : Str} : decide (V.str i = V.str j) = (i == j) := by
  rw [Bool.eq_iff_iff]
  simp
theorem dec_byt {i j : Array UInt8} : decide (V.byt i = V.byt j) = (i.toList == j.toList) := by
  rw [Bool.eq_iff_iff]
  cases i
  cases j
  simp

section
variable {X : Cx} {a b c : Expr} {ta tb tc : TE} {pos : Pos}
theorem fin_bl {pins : List (Addr × Obj)} {σ : St} {H : Hp} {s : Shared} {Q : VK} {k k' : Bool} (I : Inv X pins σ H s) (q : Q (.bl k) H) (e : k = k') : EP X pins σ Q (.bool k') s := by
  subst e
  exact ⟨.bl k, H, I, rfl, q⟩
theorem op_eq : OpR X (compareOp .Eq) rEq := by
  intro pins s σ H x y v u Q I rx ry h
  obtain ⟨hs, q⟩ := h
  cases x with
  | non =>
    cases rx
    cases y with
    | non => cases ry; exact PySem.EqNone.eq_none_none (fin_bl I q (by simp))
    | bl j => cases ry; exact PySem.EqNone.eq_none_bool (fin_bl I q (by simp))
    | int j => obtain ⟨t', rfl⟩ := ry; exact PySem.EqNone.eq_none_int (fin_bl I q (by simp))
    | str j => obtain ⟨t', rfl⟩ := ry; exact PySem.EqNone.eq_none_str (fin_bl I q (by simp))
    | _ => exact absurd (show false = true from hs) Bool.false_ne_true
  | bl i =>
    cases rx
    cases y with
    | non => cases ry; exact PySem.EqNone.eq_bool_none (fin_bl I q (by simp))
    | bl j => cases ry; exact eq_bool (fin_bl I q dec_bl)
    | str j => obtain ⟨t', rfl⟩ := ry; exact PySem.EqMixed.eq_bool_str (fin_bl I q (by simp))
    | _ => exact absurd (show false = true from hs) Bool.false_ne_true
  | int i =>
    obtain ⟨t, rfl⟩ := rx
    cases y with
    | non => cases ry; exact PySem.EqNone.eq_int_none (fin_bl I q (by simp))
    | int j => obtain ⟨t', rfl⟩ := ry; exact eq_int (fin_bl I q dec_int)
    | str j => obtain ⟨t', rfl⟩ := ry; exact PySem.EqMixed.eq_int_str (fin_bl I q (by simp))
    | _ => exact absurd (show false = true from hs) Bool.false_ne_true
  | str i =>
    obtain ⟨t, rfl⟩ := rx
    cases y with
    | non => cases ry; exact PySem.EqNone.eq_str_none (fin_bl I q (by simp))
    | bl j => cases ry; exact PySem.EqMixed.eq_str_bool (fin_bl I q (by simp))
    | int j => obtain ⟨t', rfl⟩ := ry; exact PySem.EqMixed.eq_str_int (fin_bl I q (by simp))
    | str j => obtain ⟨t', rfl⟩ := ry; exact eq_str (fin_bl I q dec_str)
    | _ => exact absurd (show false = true from hs) Bool.false_ne_true
  | byt i =>
    obtain ⟨t, rfl⟩ := rx
    cases y with
    | byt j => obtain ⟨t', rfl⟩ := ry; exact PySem.W.eq_bytes (fin_bl I q dec_byt)
    | _ => exact absurd (show false = true from hs) Bool.false_ne_true
  | _ => cases y <;> exact absurd (show false = true from hs) Bool.false_ne_true
theorem op_ne : OpR X (compareOp .NotEq) rNe := by
  intro pins s σ H x y v u Q I rx ry h
  obtain ⟨hs, q⟩ := h
  cases x with
  | non =>
    cases rx
    cases y with
    | non => cases ry; exact PySem.EqNone.ne_none_none (fin_bl I q (by simp))
    | bl j => cases ry; exact PySem.EqNone.ne_none_bool (fin_bl I q (by simp))
    | int j => obtain ⟨t', rfl⟩ := ry; exact PySem.EqNone.ne_none_int (fin_bl I q (by simp))
    | str j => obtain ⟨t', rfl⟩ := ry; exact PySem.EqNone.ne_none_str (fin_bl I q (by simp))
    | _ => exact absurd (show false = true from hs) Bool.false_ne_true
  | bl i =>
    cases rx
    cases y with
    | non => cases ry; exact PySem.EqNone.ne_bool_none (fin_bl I q (by simp))
    | bl j => cases ry; exact ne_bool (fin_bl I q (congrArg not dec_bl))
    | str j => obtain ⟨t', rfl⟩ := ry; exact PySem.EqMixed.ne_bool_str (fin_bl I q (by simp))
    | _ => exact absurd (show false = true from hs) Bool.false_ne_true
  | int i =>
    obtain ⟨t, rfl⟩ := rx
    cases y with
    | non => cases ry; exact PySem.EqNone.ne_int_none (fin_bl I q (by simp))
    | int j => obtain ⟨t', rfl⟩ := ry; exact ne_int (fin_bl I q (congrArg not dec_int))
    | str j => obtain ⟨t', rfl⟩ := ry; exact PySem.EqMixed.ne_int_str (fin_bl I q (by simp))
    | _ => exact absurd (show false = true from hs) Bool.false_ne_true
  | str i =>
    obtain ⟨t, rfl⟩ := rx
    cases y with
    | non => cases ry; exact PySem.EqNone.ne_str_none (fin_bl I q (by simp))
    | bl j => cases ry; exact PySem.EqMixed.ne_str_bool (fin_bl I q (by simp))
    | int j => obtain ⟨t', rfl⟩ := ry; exact PySem.EqMixed.ne_str_int (fin_bl I q (by simp))
    | str j => obtain ⟨t', rfl⟩ := ry; exact ne_str (fin_bl I q (congrArg not dec_str))
    | _ => exact absurd (show false = true from hs) Bool.false_ne_true
  | byt i =>
    obtain ⟨t, rfl⟩ := rx
    cases y with
    | byt j => obtain ⟨t', rfl⟩ := ry; exact PySem.W.ne_bytes (fin_bl I q (congrArg not dec_byt))
    | _ => exact absurd (show false = true from hs) Bool.false_ne_true
  | _ => cases y <;> exact absurd (show false = true from hs) Bool.false_ne_true

theorem op_lt : OpR X (compareOp .Lt) (rI0 fun i j => .bl (decide (i < j))) := opB0 fun _ _ _ _ _ _ _ q => lt_int q
/-- two rules for one operation: by cases -/
theorem OpR.or {f : Value → Value → Sem Value} {r r' : R2} (h : OpR X f r) (h' : OpR X f r') : OpR X f (fun x y H Q => r x y H Q ∨ r' x y H Q) := by
  intro pins s σ H x y v u Q I rx ry q
  rcases q with q | q
  · exact h pins s σ H x y v u Q I rx ry q
  · exact h' pins s σ H x y v u Q I rx ry q

theorem nomark (b : Expr) {op : CmpOp} (h : op ≠ .In := by decide) (h2 : op ≠ .NotIn := by decide) : behindInMarks op b = false := by
  have e1 : (op == CmpOp.In) = false := by cases op <;> first | rfl | exact absurd rfl h
  have e2 : (op == CmpOp.NotIn) = false := by cases op <;> first | rfl | exact absurd rfl h2
  cases b <;> simp [behindInMarks, e1, e2]
/-- a comparison as a value; hm: nomark b, or (for in, not in) by with_unfolding_all rfl -/
theorem pe_cmpR {op : CmpOp} {r : R2} (ho : OpR X (compareOp op) r) (ha : PE X a ta) (hb : PE X b tb) (hm : behindInMarks op b = false) : PE X (.Compare a [op] [b] pos) (tOp r ta tb) := by
  intro pins s σ H Q I h
  exact wpAny_Compare1 (binT ha hb I h fun v u s2 x y H2 I2 rx ry q => ho pins s2 σ H2 x y v u Q I2 rx ry q) hm
/-- a reading of a value as a test -/
def tTest (t : TE) : TT := fun σ H Q => t σ H fun x H' => ∃ k, x = .bl k ∧ Q k H'
theorem pt_cmpR {op : CmpOp} {r : R2} (ho : OpR X (compareOp op) r) (ha : PE X a ta) (hb : PE X b tb) (hm : behindInMarks op b = false) : PT X (.Compare a [op] [b] pos) (tTest (tOp r ta tb)) := by
  intro pins s σ H Q I h
  refine wpAny_isTrue_Compare1 (thn (ha pins s σ H _ I h) fun v s1 ⟨x, H1, I1, r1, q1⟩ => thn (hb pins s1 σ H1 _ I1 q1) fun u s2 ⟨y, H2, I2, r2, q2⟩ =>
    thn (ho pins s2 σ H2 x y v u _ I2 r1 r2 q2) fun c s3 ⟨z, H3, I3, r3, k, e, q3⟩ => ?_) hm
  subst e
  cases r3
  exact wpAny_truthy_bool ⟨H3, I3, q3⟩
/-- a op1 b op2 c -/
def tChain (r r' : R2) (ta tb tc : TE) : TE := fun σ H Q => ta σ H fun x H1 => tb σ H1 fun y H2 => r x y H2 fun z H3 => ∃ k, z = .bl k ∧
  (if k = true then tc σ H3 fun w' H4 => r' y w' H4 Q else Q (.bl false) H3)
theorem line63 : (sizeLine : Nat) < 2 ^ 63 := by rw [sizeLine_eq]; decide
theorem vals1 {x : V} {us : List Value} (r : Vals [x] us) : ∃ u, us = [u] ∧ RelV x u := by
  cases r with
  | cons r1 r2 => cases r2; exact ⟨_, rfl, r1⟩
theorem call_abs : CallR X (.builtin "abs") (fun xs H Q => ∃ i, xs = [.int i] ∧ Q (.int (if i < 0 then -i else i)) H) := by
  intro pins s σ H xs us Q I r h
  obtain ⟨i, rfl, q⟩ := h
  obtain ⟨u, rfl, t, rfl⟩ := vals1 r
  exact call_abs_int fun u tk => ⟨.int (if i < 0 then -i else i), H, I.tok _, ⟨_, rfl⟩, q⟩
/-- len of a str, a bytes, a list, a tuple -/
def LenV (K : PySem.W.Frag) (x : V) (H : Hp) (n : Nat) : Prop :=
  match x with
  | .str y => y.length ≤ sizeLine ∧ n = y.length
  | .byt y => y.size ≤ sizeLine ∧ n = y.size
  | .ref p => (∃ xs, SqL K H p xs ∧ n = xs.length) ∨ ∃ xs, SqT K H p xs ∧ n = xs.length
  | _ => False
theorem call_len : CallR X (.builtin "len") (fun xs H Q => ∃ x n, xs = [x] ∧ LenV X.K x H n ∧ Q (.int n) H) := by
  intro pins s σ H xs us Q I r h
  obtain ⟨x, n, rfl, e, q⟩ := h
  obtain ⟨u, rfl, rx⟩ := vals1 r
  have hl := line63
  have hs : sizeLine = 16777216 := sizeLine_eq
  cases x with
  | str y =>
    obtain ⟨t, rfl⟩ := rx
    obtain ⟨hy, e'⟩ : y.length ≤ sizeLine ∧ n = y.length := e
    subst e'
    exact len_str (by omega) ⟨.int _, H, I.tok _, ⟨_, rfl⟩, q⟩
  | byt y =>
    obtain ⟨t, rfl⟩ := rx
    obtain ⟨hy, e'⟩ : y.size ≤ sizeLine ∧ n = y.size := e
    subst e'
    exact PySem.W.len_bytes (by omega) ⟨.int _, H, I.tok _, ⟨_, rfl⟩, q⟩
  | ref p =>
    cases rx
    have e' : (∃ xs, SqL X.K H p xs ∧ n = xs.length) ∨ ∃ xs, SqT X.K H p xs ∧ n = xs.length := e
    rcases e' with ⟨xs, hx, e'⟩ | ⟨xs, hx, e'⟩
    · subst e'
      obtain ⟨its, r', pl, hz⟩ := I.list hx
      have hlen := r'.length
      exact Calls.call_len_list pl.isList (by simp only [List.size_toArray]; omega) ⟨.int xs.length, H, I.tok _, ⟨_, by simp only [List.size_toArray]; rw [hlen]⟩, q⟩
    · subst e'
      obtain ⟨its, r', pl, hz⟩ := I.tuple hx
      have hlen := r'.length
      exact len_tuple pl (by simp only [List.size_toArray]; omega) ⟨.int xs.length, H, I.tok _, ⟨_, by simp only [List.size_toArray]; rw [hlen]⟩, q⟩
  | _ => exact (show False from e).elim
end
end L2

namespace L2
open PySem PySem.Spec PyProof.Rows

structure ObjM (h : Heap) (x dx C : Addr) (mA : Str → Option Value) : Prop where
  obj : h.get? x = some (PySem.W.instObj C dx)
  ns : h.Ns1 dx mA
  ne : dx ≠ x

theorem lookIn_ns {h : Heap} {dx : Addr} {mA : Str → Option Value} (n : h.Ns1 dx mA) : ∃ od, h.get? dx = some od ∧ ∀ name, PySem.W.lookIn name od = some (mA name) := by
  obtain ⟨o, es, ep, ho, hd, hk, _, hm⟩ := n
  refine ⟨o, ho, fun name => ?_⟩
  have e := hm name
  unfold nsFind findBy at e
  rw [← Array.find?_toList] at e
  unfold PySem.W.lookIn
  rw [hd]
  dsimp only
  split
  · rename_i y q
    rw [q] at e
    exact congrArg some e
  · rename_i q
    rw [q] at e
    have a : es.toList.any (·.refKey) = false := by
      rw [List.any_eq_false]
      intro y hy
      obtain ⟨z, t, hkey⟩ := hk y (Array.mem_toList_iff.mp hy)
      simp [DictEntry.refKey, hkey]
    have a' : ¬ es.toList.any (·.refKey) = true := by rw [a]; exact Bool.false_ne_true
    rw [if_neg a']
    exact congrArg some e

theorem ObjM.look {h : Heap} {x dx C : Addr} {mA : Str → Option Value} (I : ObjM h x dx C mA) : ∃ od, PySem.W.InstAt h x (PySem.W.instObj C dx) C (some od) ∧ ∀ name, PySem.W.lookIn name od = some (mA name) :=
  let ⟨od, ho, hl⟩ := lookIn_ns I.ns
  ⟨od, ⟨I.obj, rfl, rfl, ho⟩, hl⟩

section
variable {prog : Program} {w : World} {A : Around} {E : Value → Shared → Prop} {s : Shared} {K : PySem.W.Frag} {x dx C f : Addr} {mA : Str → Option Value} {name : Str} {v : Value}

theorem get_map {expr : Bool} {Q : Value → Shared → Prop} (X : K.In s.heap) (I : ObjM s.heap x dx C mA) (hg : PySem.W.plainGet K C name = true) (hh : PySem.W.hasDictIn K C = true)
    (ha : PySem.W.findIn K (.ref C) name = some none) (hv : mA name = some v) (hv' : PySem.W.handedIn v = true) (h : Q v { s with toks := s.toks + 1 }) :
    wpAny (model prog w) A (getAttr (.ref x) name expr) Q E s := by
  obtain ⟨od, J, hl⟩ := I.look
  exact PySem.W.get_value X J (PySem.W.plainGet_of hg).1 (PySem.W.findObj_own hh ha rfl (by rw [hl, hv])) hv' h

theorem get_meth {pl : Sem Bool} {Q : Value × List Value → Shared → Prop} (X : K.In s.heap) (I : ObjM s.heap x dx C mA) (hg : PySem.W.plainGet K C name = true)
    (hf : PySem.W.findIn K (.ref C) name = some (some (.ref f))) (ht : PySem.W.isFn K (.ref f) = true) (hv : mA name = none) (h : Q (.ref f, [.ref x]) s) :
    wpAny (model prog w) A (getMethod (.ref x) name pl) Q E s := by
  obtain ⟨od, J, hl⟩ := I.look
  exact PySem.W.method_fn X J (PySem.W.plainGet_of hg).1 (PySem.W.plainGet_of hg).2 hf (beq_iff_eq.mp ht) (by show (PySem.W.lookIn name od).map (·.isSome) = some false; rw [hl, hv]; rfl) h

theorem set_map {ns : List Str} {Q : Unit → Shared → Prop} (X : K.In s.heap) (I : ObjM s.heap x dx C mA)
    (hs : PySem.W.findIn K (.ref C) "__setattr__" = some (some (.builtin "object.__setattr__"))) (hp : PySem.W.plainOver K C = true) (ht : PySem.W.takerIn K C name = some none) (hh : PySem.W.hasDictIn K C = true)
    (hw : PySem.Within mA ns) (hsz : ns.length ≤ sizeLine)
    (h : ∀ h', ObjM h' x dx C (fun y => if y = name then some v else mA y) → Heap.SameBut dx s.heap h' → Q () { s with heap := h', toks := s.toks + 2 }) :
    wpAny (model prog w) A (setAttr (.ref x) name v) Q E s := by
  obtain ⟨od, J, hl⟩ := I.look
  refine PySem.W.set_plain X J hs (PySem.W.osa_open (s := { s with toks := s.toks + 1 }) (r := none) X J hp ht fun b => ?_)
  obtain ⟨cd, hc, hd'⟩ := PySem.W.any_some hh
  have hx : s.heap.get? x = some ⟨.ref C, some dx, .plain, #[]⟩ := I.obj
  refine wpAny_bind (wpAny_pure (wpAny_bind (wpAny_bind (wpAny_loadPart hx (wpAny_bind (PySem.W.Looks.here (s := { s with toks := s.toks + 1 }) (PySem.W.looks_clsIn X hc) ?_))))))
  rw [hd']
  refine wpAny_pure (a := some dx) (wpAny_bind (wpAny_pure (wpAny_bind ?_)))
  refine wpAny_nsSet1 (s := { s with toks := s.toks + 1 }) I.ns fun h' hn2 hs2 => ?_
  obtain ⟨oD, esD, epD, hoD, hdD, hcD⟩ := hn2.count (PySem.Within.cons name v hw)
  refine wpAny_bind (wpAny_lookBehind hoD (by rw [hdD]; exact pastItsLine_dict (Nat.le_trans hcD (by rw [List.length_cons]; omega))) ?_)
  exact wpAny_pure (h _ ⟨(hs2.2 _ (Ne.symm I.ne)).trans I.obj, hn2, I.ne⟩ hs2)

/-- C(..): the dict at the heap's end, the instance behind it; then its __init__ -/
theorem make_map {R : Result → Shared → Prop} {vs : List Value} {kw : List (Str × Value)} (X : K.In s.heap) (hm : PySem.W.makesIn K C = true)
    (hi : PySem.W.findIn K (.ref C) "__init__" = some (some (.ref f))) (hf : PySem.W.typeIn K (.ref f) = some (.type "function"))
    (h : codeAny (model prog w) (A.under (.builtin "type.__call__" ⟨.ref C :: vs, kw⟩)) (.call (.ref f) ⟨.ref (s.heap.objs.size + 1) :: vs, kw⟩) (PySem.W.InitBack (s.heap.objs.size + 1) R)
      { s with heap := (s.heap.push PySem.W.emptyDict).push (PySem.W.instObj C s.heap.objs.size) }) :
    codeAny (model prog w) A (.call (.ref C) ⟨vs, kw⟩) R s := by
  obtain ⟨hh, g, d, t, os⟩ := s
  exact PySem.W.make_core (PySem.W.makes_of X hm) (PySem.W.looks_findIn X hi) (fun self => PySem.W.bind_fn X self hf) (.inl rfl) h
end

def putF (f : Str) (v : V) : List (Str × V) → List (Str × V)
  | [] => [(f, v)]
  | (g, x) :: r => if g = f then (g, v) :: r else (g, x) :: putF f v r
theorem lookup_putF (f g : Str) (v : V) : ∀ fs : List (Str × V), (putF f v fs).lookup g = if g = f then some v else fs.lookup g
  | [] => by
    show List.lookup g [(f, v)] = _
    by_cases h : g = f
    · have hb : (g == f) = true := beq_iff_eq.mpr h
      simp only [List.lookup, hb, if_pos h]
    · have hb : (g == f) = false := beq_eq_false_iff_ne.mpr h
      simp only [List.lookup, hb, if_neg h]
  | (k, x) :: r => by
    have ih := lookup_putF f g v r
    rw [show putF f v ((k, x) :: r) = (if k = f then (k, v) :: r else (k, x) :: putF f v r) from rfl]
    by_cases hk : k = f
    · rw [if_pos hk]
      by_cases h : g = k
      · have hb : (g == k) = true := beq_iff_eq.mpr h
        simp only [List.lookup, hb, if_pos (h.trans hk)]
      · have hb : (g == k) = false := beq_eq_false_iff_ne.mpr h
        simp only [List.lookup, hb, if_neg (fun e : g = f => h (e.trans hk.symm))]
    · rw [if_neg hk]
      by_cases h : g = k
      · have hb : (g == k) = true := beq_iff_eq.mpr h
        simp only [List.lookup, hb, if_neg (fun e : g = f => hk (h.symm.trans e))]
      · have hb : (g == k) = false := beq_eq_false_iff_ne.mpr h
        simp only [List.lookup, hb]
        exact ih
theorem keys_putF (f : Str) (v : V) : ∀ fs : List (Str × V), f ∈ (putF f v fs).map (·.1) ∧ ∀ g, g ∈ fs.map (·.1) → g ∈ (putF f v fs).map (·.1)
  | [] => ⟨by simp [putF], fun g h => by simp at h⟩
  | (k, x) :: r => by
    obtain ⟨i1, i2⟩ := keys_putF f v r
    rw [show putF f v ((k, x) :: r) = (if k = f then (k, v) :: r else (k, x) :: putF f v r) from rfl]
    by_cases hk : k = f
    · rw [if_pos hk]
      subst hk
      exact ⟨by simp, fun g h => by simpa using h⟩
    · rw [if_neg hk]
      refine ⟨?_, fun g h => ?_⟩
      · rw [List.map_cons]
        exact List.mem_cons_of_mem _ i1
      · rw [List.map_cons] at h ⊢
        rcases List.mem_cons.mp h with e | e
        · exact List.mem_cons.mpr (.inl e)
        · exact List.mem_cons_of_mem _ (i2 g e)
theorem length_putF (f : Str) (v : V) : ∀ fs : List (Str × V), (putF f v fs).length ≤ fs.length + 1
  | [] => by simp [putF]
  | (k, x) :: r => by
    have ih := length_putF f v r
    rw [show putF f v ((k, x) :: r) = (if k = f then (k, v) :: r else (k, x) :: putF f v r) from rfl]
    by_cases hk : k = f
    · rw [if_pos hk, List.length_cons, List.length_cons]; omega
    · rw [if_neg hk, List.length_cons, List.length_cons]; omega

theorem RelO.some_of {v : V} {o : Option Value} (r : RelO (some v) o) : ∃ u, o = some u ∧ RelV v u := by
  cases o with
  | none => exact (show False from r).elim
  | some u => exact ⟨u, rfl, r⟩
theorem RelO.none_of {o : Option Value} (r : RelO none o) : o = none := by
  cases o with
  | none => rfl
  | some u => exact (show False from r).elim
theorem handed_of {v : V} {u : Value} (r : RelV v u) : PySem.W.handedIn u = true := by
  cases v with
  | non => cases (show u = Value.none from r); rfl
  | bl b => cases (show u = Value.bool b from r); rfl
  | int i => obtain ⟨t, e⟩ := (show ∃ t, u = Value.int i t from r); cases e; rfl
  | str x => obtain ⟨t, e⟩ := (show ∃ t, u = Value.str x t from r); cases e; rfl
  | byt b => obtain ⟨t, e⟩ := (show ∃ t, u = Value.bytes b t from r); cases e; rfl
  | flt b => obtain ⟨t, e⟩ := (show ∃ t, u = Value.float b t from r); cases e; rfl
  | ref a => cases (show u = Value.ref a from r); rfl
  | ty n => cases (show u = Value.type n from r); rfl

section
variable {P : Program} {w : World} {H H' : Hp} {h h' : Heap} {a C dx : Addr} {fs fs' : List (Str × V)}
theorem ins_get (hok : HOk P w H h) (e : H a = some (.ins C dx fs)) : ∃ mA, ObjM h a dx C mA ∧ (∀ f, RelO (fs.lookup f) (mA f)) ∧ PySem.Within mA (fs.map (·.1)) ∧ fs.length ≤ 1000 ∧ H dx = some (.own a) := by
  obtain ⟨d, z, ne, ob, mA, n, r, q⟩ := (show ObjOk P w H h a (.ins C dx fs) from hok a _ e)
  exact ⟨mA, ⟨ob, n, ne⟩, r, q, z, d⟩
end

structure Cls (K : PySem.W.Frag) (C : Addr) : Prop where
  pg : PySem.W.plainGet K C Str.empty = true
  hd : PySem.W.hasDictIn K C = true
  po : PySem.W.plainOver K C = true
  sa : PySem.W.findIn K (.ref C) "__setattr__" = some (some (.builtin "object.__setattr__"))
theorem Cls.get {K : PySem.W.Frag} {C : Addr} (c : Cls K C) (f : Str) : PySem.W.plainGet K C f = true := c.pg
/-- no class of it has the name -/
def NoAttr (K : PySem.W.Frag) (C : Addr) (f : Str) : Prop := PySem.W.findIn K (.ref C) f = some none
theorem NoAttr.taker {K : PySem.W.Frag} {C : Addr} {f : Str} (n : NoAttr K C f) : PySem.W.takerIn K C f = some none := by
  unfold PySem.W.takerIn
  rw [show PySem.W.findIn K (.ref C) f = some none from n]
  rfl
/-- a method: a plain def of the class or of one above it -/
structure Meth (K : PySem.W.Frag) (C : Addr) (m : Str) (f : Addr) : Prop where
  at_ : PySem.W.findIn K (.ref C) m = some (some (.ref f))
  fn : PySem.W.isFn K (.ref f) = true
  kp : PySem.W.keepIn K (.ref f) = true

section
variable {X : Cx} {pins : List (Addr × Obj)} {σ : St} {H : Hp} {s : Shared} {a C dx : Addr} {fs : List (Str × V)} {f : Str} {v : V} {A : Around} {E : Value → Shared → Prop}

theorem getattr_ok {b : Bool} {Q : Value → Shared → Prop} (I : Inv X pins σ H s) (e : H a = some (.ins C dx fs)) (c : Cls X.K C) (n : NoAttr X.K C f) (l : fs.lookup f = some v)
    (h : ∀ u s', Inv X pins σ H s' → RelV v u → Q u s') : wpAny (model X.prog X.w) A (getAttr (.ref a) f b) Q E s := by
  obtain ⟨mA, O, r, _, _, _⟩ := ins_get I.hok e
  obtain ⟨u, hu, ru⟩ := RelO.some_of (v := v) (o := mA f) (by rw [← l]; exact r f)
  exact get_map I.kIn O (c.get f) c.hd n hu (handed_of ru) (h u _ (I.tok _) ru)

theorem getmeth_ok {m : Str} {g : Addr} {pl : Sem Bool} {Q : Value × List Value → Shared → Prop} (I : Inv X pins σ H s) (e : H a = some (.ins C dx fs)) (c : Cls X.K C) (k : Meth X.K C m g) (l : fs.lookup m = none)
    (h : Q (.ref g, [.ref a]) s) : wpAny (model X.prog X.w) A (getMethod (.ref a) m pl) Q E s := by
  obtain ⟨mA, O, r, _, _, _⟩ := ins_get I.hok e
  have hn : mA m = none := RelO.none_of (by rw [← l]; exact r m)
  exact get_meth I.kIn O (c.get m) k.at_ k.fn hn h

theorem setattr_ok {y : V} {u : Value} {Q : Unit → Shared → Prop} (I : Inv X pins σ H s) (e : H a = some (.ins C dx fs)) (c : Cls X.K C) (n : NoAttr X.K C f) (hl : fs.length < 1000) (ry : RelV y u)
    (h : ∀ s', Inv X pins σ (upd H a (.ins C dx (putF f y fs))) s' → Q () s') : wpAny (model X.prog X.w) A (setAttr (.ref a) f u) Q E s := by
  obtain ⟨mA, O, r, wi, _, ho⟩ := ins_get I.hok e
  have hz : (fs.map (·.1)).length ≤ sizeLine := by rw [List.length_map, sizeLine_eq]; omega
  refine set_map I.kIn O c.sa c.po n.taker c.hd wi hz fun h' O' sb => h _ ?_
  have hd : ∃ o, h'.get? dx = some o := let ⟨o, _, _, e', _⟩ := O'.ns; ⟨o, e'⟩
  refine I.write (x := a) (e := dx) (by rw [e]; exact True.intro) (.inr ho) (fun b q hb z => (sb.2 b hb).trans z) hd ?_
  refine ⟨by rw [upd_ne O.ne]; exact ho, ?_, O.ne, O'.obj, _, O'.ns, fun g => ?_, fun g hg => ?_⟩
  · have := length_putF f y fs; omega
  · show RelO ((putF f y fs).lookup g) (if g = f then some u else mA g)
    rw [lookup_putF]
    by_cases q : g = f
    · rw [if_pos q, if_pos q]; exact ry
    · rw [if_neg q, if_neg q]; exact r g
  · by_cases q : g = f
    · rw [q]; exact (keys_putF f y fs).1
    · refine (keys_putF f y fs).2 g (wi g fun z => hg ?_)
      show (if g = f then some u else mA g) = none
      rw [if_neg q]; exact z

/-- a new instance, tracked, without attributes -/
theorem Inv.made (I : Inv X pins σ H s) : Inv X pins σ (upd (upd H s.heap.objs.size (.own (s.heap.objs.size + 1))) (s.heap.objs.size + 1) (.ins C s.heap.objs.size []))
    { s with heap := (s.heap.push PySem.W.emptyDict).push (PySem.W.instObj C s.heap.objs.size) } := by
  have e1 : (s.heap.push PySem.W.emptyDict).get? s.heap.objs.size = some PySem.W.emptyDict := Heap.get?_push_size s.heap rfl
  have e2 : ((s.heap.push PySem.W.emptyDict).push (PySem.W.instObj C s.heap.objs.size)).get? (s.heap.objs.size + 1) = some (PySem.W.instObj C s.heap.objs.size) := by
    have := Heap.get?_push_size (s.heap.push PySem.W.emptyDict) (o := PySem.W.instObj C s.heap.objs.size) rfl
    rwa [Heap.size_push] at this
  have e3 : (s.heap.push PySem.W.emptyDict).Ns s.heap.objs.size (fun _ => none) := ⟨PySem.W.emptyDict, #[], _, e1, rfl, (fun e he => absurd he (by simp)), fun _ => rfl⟩
  have I1 := I.laid (a := s.heap.objs.size) (o := .own (s.heap.objs.size + 1)) (h' := s.heap.push PySem.W.emptyDict) (t' := s.toks) (fun b u q => Heap.get?_push_of_some _ q) (Nat.le_refl _) ⟨_, e1⟩
  refine I1.laid (a := s.heap.objs.size + 1) (o := .ins C s.heap.objs.size []) (t' := s.toks) (fun b u q => Heap.get?_push_of_some _ q) (Nat.le_of_eq (Heap.size_push _ _)) ?_
  have ne : s.heap.objs.size ≠ s.heap.objs.size + 1 := Nat.ne_of_lt (Nat.lt_succ_self _)
  refine ⟨by rw [upd_ne ne, upd_same], Nat.zero_le _, ne, e2, fun _ => none, (Heap.Ns1.of_empty e3).at fun o q => Heap.get?_push_of_some _ q, fun _ => True.intro, fun y hy => absurd rfl hy⟩

/-- e.f where nothing but the object is asked: through attributeBase (super) and the last hold -/
theorem attr_of {prog : Program} {w : World} {env : Env} {e : Expr} {f : Str} {pos : Pos} {s : Shared} {Q : Value → Shared → Prop} (hb : attributeBase e f env (eval e env) = eval e env)
    (h : wpAny (model prog w) A (eval e env) (fun o s₁ => wpAny (model prog w) A (getAttr o f true) Q E s₁) E s) : wpAny (model prog w) A (eval (.Attribute e f pos) env) Q E s :=
  Attribute_any_ h (by rw [arm_eval_Attribute, hb])
end

/-- e.f, an attribute of the instance -/
def tFld (K : PySem.W.Frag) (ta : TE) (f : Str) : TE := fun σ H Q => ta σ H fun x H1 => ∃ a C dx fs v, x = .ref a ∧ H1 a = some (.ins C dx fs) ∧ Cls K C ∧ NoAttr K C f ∧ fs.lookup f = some v ∧ Q v H1
/-- e.f = value -/
def sFld (K : PySem.W.Frag) (ta tv : TE) (f : Str) : TS := fun D σ H => tv σ H fun y H1 => ta σ H1 fun x H2 => ∃ a C dx fs, x = .ref a ∧ H2 a = some (.ins C dx fs) ∧ Cls K C ∧ NoAttr K C f ∧ fs.length < 1000 ∧
  D.nx σ (upd H2 a (.ins C dx (putF f y fs)))
section
variable {X : Cx} {o e value : Expr} {f : Str} {pos pos' tpos : Pos} {ta tv : TE}
theorem pe_fld (he : PE X e ta) (hb : attributeBase e f X.env (eval e X.env) = eval e X.env) : PE X (.Attribute e f pos) (tFld X.K ta f) := by
  intro pins s σ H Q I h
  refine attr_of hb (thn (he pins s σ H _ I h) fun u s1 ⟨x, H1, I1, rx, a, C, dx, fs, v, ex, ea, c, n, l, q⟩ => ?_)
  subst ex
  obtain rfl : u = Value.ref a := rx
  exact getattr_ok I1 ea c n l fun u' s2 I2 ru => ⟨v, H1, I2, ru, q⟩
theorem ps_fld (ha : PE X o ta) (hv : PE X value tv) (hs : swapsWith value (some (.Attribute o f pos')) pos.line X.env = pure false) : PS X (.Assign [.Attribute o f pos'] value pos) (sFld X.K ta tv f) := by
  intro pins s σ H D I h
  refine plainObj_wpAny_Assign_Attribute (thn (hv pins s σ H _ I h) fun u s1 ⟨y, H1, I1, ry, q⟩ => thn (ha pins s1 σ H1 _ I1 q) fun ov s2 ⟨x, H2, I2, rx, a, C, dx, fs, ex, ea, c, n, l, q2⟩ => ?_) hs
  subst ex
  obtain rfl : ov = Value.ref a := rx
  exact setattr_ok I2 ea c n l ry fun s3 I3 => ⟨σ, _, I3, q2⟩
end

section
variable {X : Cx} {pins : List (Addr × Obj)} {σ : St} {H : Hp} {s : Shared} {A : Around} {E : Value → Shared → Prop} {Q : Value → Shared → Prop} {c : Value} {b : Bool}
/-- the type of a value, as the fragment's deciders take it; for an instance its class -/
inductive TyOf (K : PySem.W.Frag) (H : Hp) : V → Value → Prop where
  | non : TyOf K H .non (.type "NoneType")
  | bl (x : Bool) : TyOf K H (.bl x) (.type "bool")
  | int (i : Int) : TyOf K H (.int i) (.type "int")
  | str (x : Str) : TyOf K H (.str x) (.type "str")
  | flt (x : UInt64) : TyOf K H (.flt x) (.type "float")
  | lst {a : Addr} {xs : List V} (e : H a = some (.lst xs)) : TyOf K H (.ref a) (.type "list")
  | frz {a : Addr} {o : Obj} {xs : List V} (e : H a = some (.frz o (.lst xs))) : TyOf K H (.ref a) (.type "list")
  | tup {a : Addr} {xs : List V} (e : H a = some (.tup xs)) : TyOf K H (.ref a) (.type "tuple")
  | dK {a : Addr} {kvs : List (Key × V)} (e : H a = some (.dK kvs)) : TyOf K H (.ref a) (.type "dict")
  | dT {a : Addr} {kvs : List (List Key × V)} (e : H a = some (.dT kvs)) : TyOf K H (.ref a) (.type "dict")
  | ins {a C dx : Addr} {fs : List (Str × V)} (e : H a = some (.ins C dx fs)) (cl : Cls K C) (ha : PySem.W.findIn K (.ref C) "__class__" = some (some (.builtin "object.__class__")))
      (hn : PySem.W.specialIn K (.builtin "object.__class__") "__get__" = some (some (.builtin "getset_descriptor.__get__"))) (htk : PySem.W.takesIn K (.builtin "object.__class__") = some true)
      (hm : PySem.W.mroIn K C (.type "object") = some true) : TyOf K H (.ref a) (.ref C)
/-- isinstance(x, c) for one class c, a built-in or an own one: kitOne's answer -/
theorem isinst_ok {x : V} {u t : Value} (I : Inv X pins σ H s) (rx : RelV x u) (ty : TyOf X.K H x t) (e : PySem.W.kitOne X.K t c = some b) (h : ∀ tk, Q (.bool b) { s with toks := tk }) :
    wpAny (model X.prog X.w) A (call (.builtin "isinstance") [u, c]) Q E s := by
  cases ty with
  | non => cases (show u = Value.none from rx); exact PySem.W.kia_one PySem.W.kitx_none I.kIn True.intro e (fun z => nomatch z) h
  | bl y => cases (show u = Value.bool y from rx); exact PySem.W.kia_one PySem.W.kitx_bool I.kIn True.intro e (fun z => nomatch z) h
  | int i => obtain ⟨t, q⟩ := (show ∃ t, u = Value.int i t from rx); cases q; exact PySem.W.kia_one PySem.W.kitx_int I.kIn True.intro e (fun z => nomatch z) h
  | str y => obtain ⟨t, q⟩ := (show ∃ t, u = Value.str y t from rx); cases q; exact PySem.W.kia_one PySem.W.kitx_str I.kIn True.intro e (fun z => nomatch z) h
  | flt y => obtain ⟨t, q⟩ := (show ∃ t, u = Value.float y t from rx); cases q; exact PySem.W.kia_one PySem.W.kitx_float I.kIn True.intro e (fun z => nomatch z) h
  | @lst a xs ea =>
    cases (show u = Value.ref a from rx)
    obtain ⟨_, _, n, _, h1⟩ := (show ObjOk X.prog X.w H s.heap a (.lst xs) from I.hok a _ ea)
    exact PySem.W.kia_one PySem.W.kitx_list I.kIn ⟨_, h1, rfl⟩ e (fun z => nomatch z) h
  | @frz a ob xs ea =>
    cases (show u = Value.ref a from rx)
    obtain ⟨_, _, _, n, _, h1⟩ := (show ObjOk X.prog X.w H s.heap a (.frz ob (.lst xs)) from I.hok a _ ea)
    exact PySem.W.kia_one PySem.W.kitx_list I.kIn ⟨_, h1, rfl⟩ e (fun z => nomatch z) h
  | @tup a xs ea =>
    cases (show u = Value.ref a from rx)
    obtain ⟨_, _, _, p⟩ := (show ObjOk X.prog X.w H s.heap a (.tup xs) from I.hok a _ ea)
    obtain ⟨o, h1, h2, _⟩ := p
    exact PySem.W.kia_one PySem.W.kitx_tuple I.kIn ⟨o, h1, h2⟩ e (fun z => nomatch z) h
  | @dK a kvs ea =>
    cases (show u = Value.ref a from rx)
    obtain ⟨_, _, vs, _, p⟩ := (show ObjOk X.prog X.w H s.heap a (.dK kvs) from I.hok a _ ea)
    obtain ⟨o, es, ep, h1, h2, _⟩ := p
    exact PySem.W.kia_one PySem.W.kitx_dict I.kIn ⟨o, h1, h2.1⟩ e (fun z => nomatch z) h
  | @dT a kvs ea =>
    cases (show u = Value.ref a from rx)
    obtain ⟨_, _, xs, _, o, es, ep, h1, h2, _⟩ := (show ObjOk X.prog X.w H s.heap a (.dT kvs) from I.hok a _ ea)
    exact PySem.W.kia_one PySem.W.kitx_dict I.kIn ⟨o, h1, h2.1⟩ e (fun z => nomatch z) h
  | @ins a C dx fs ea cl ha hn htk hm =>
    cases (show u = Value.ref a from rx)
    obtain ⟨mA, O, _⟩ := ins_get I.hok ea
    obtain ⟨od, J, _⟩ := O.look
    exact PySem.W.kia_one (PySem.W.kitx_own (cl.get _) cl.hd ha hn htk hm) I.kIn J e (fun z => nomatch z) h
end
end L2

namespace L2
open PySem PySem.Spec PyProof.Rows

structure Room (k : Nat) (A : Around) : Prop where
  hd : A.handled = none
  dp : A.depth + 3 * k + 5 < recursionLimit
  un : A.units + 16 * k + 200 < cLine
theorem Room.mono {j k : Nat} {A : Around} (r : Room k A) (h : j ≤ k) : Room j A := ⟨r.hd, by have := r.dp; omega, by have := r.un; omega⟩
theorem Room.deeper {k : Nat} {A : Around} (r : Room (k + 1) A) (env : Env) : Room k (A.deeper env) :=
  ⟨r.hd, by have := r.dp; show A.depth + 1 + 3 * k + 5 < _; omega, by have := r.un; show A.units + 3 + 16 * k + 200 < _; omega⟩
theorem Room.in1 {k : Nat} {A : Around} (r : Room (k + 1) A) : Room k A.in1 :=
  ⟨r.hd, by have := r.dp; show A.depth + 3 * k + 5 < _; omega, by have := r.un; show A.units + 1 + 16 * k + 200 < _; omega⟩
theorem make_depth {A : Around} {C : Addr} {us : List Value} {kw : List (Str × Value)} : (A.under (.builtin "type.__call__" ⟨.ref C :: us, kw⟩)).depth = A.depth + 1 := by
  first | rfl | simp [Around.under, Code.weight, Code.isCreation, Code.isGuard, Code.isCaller, Code.frames, Code.isFrame, guardIds]
theorem make_units {A : Around} {C : Addr} {us : List Value} {kw : List (Str × Value)} : (A.under (.builtin "type.__call__" ⟨.ref C :: us, kw⟩)).units = A.units + 1 := by
  first | rfl | simp [Around.under, Code.cUnits, Code.frames, Code.isFrame]
theorem Room.make {k : Nat} {A : Around} (r : Room (k + 1) A) (C : Addr) (us : List Value) (kw : List (Str × Value)) : Room k (A.under (.builtin "type.__call__" ⟨.ref C :: us, kw⟩)) :=
  ⟨r.hd, by have := r.dp; rw [make_depth]; omega, by have := r.un; rw [make_units]; omega⟩
theorem Room.depth {k : Nat} {A : Around} (r : Room k A) : A.depth < recursionLimit := by have := r.dp; omega
theorem Room.units {k : Nat} {A : Around} (r : Room k A) : A.units + 64 < cLine := by have := r.un; omega
def tNil : TA := fun _ H Q => Q [] H
def tCons (ta : TE) (tr : TA) : TA := fun σ H Q => ta σ H fun x H1 => tr σ H1 fun xs H2 => Q (x :: xs) H2
section
variable {X : Cx} {e : Expr} {es : List Expr} {te : TE} {t : TA} {pos : Pos}
theorem pa_nil : PA X [] tNil := fun _ _ _ _ H Q I h => Calls.spliced_nil ⟨[], H, I, .nil, h⟩
theorem pa_cons (ha : PE X e te) (hr : PA X es t) (hs : starEach (e :: es) X.env = (false, eval e X.env) :: starEach es X.env := by rfl) : PA X (e :: es) (tCons te t) := by
  intro pos pins s σ H Q I h
  rw [hs]
  show wpAny _ _ (spliced ((false, eval e X.env) :: backTo pos (starEach es X.env))) _ _ s
  refine Calls.spliced_cons (thn (ha pins s σ H _ I h) fun u s1 ⟨x, H1, I1, r1, q1⟩ => ?_)
  exact thn (hr pos pins s1 σ H1 _ I1 q1) fun us s2 ⟨xs, H2, I2, r2, q2⟩ => ⟨x :: xs, H2, I2, .cons r1 r2, q2⟩

/-- a tuple, a list of written items -/
def tTup (t : TA) : TE := fun σ H Q => t σ H fun xs H1 => xs.length ≤ sizeLine ∧ ∀ p, H1 p = none → Q (.ref p) (upd H1 p (.tup xs))
def tLst (t : TA) : TE := fun σ H Q => t σ H fun xs H1 => xs.length ≤ sizeLine ∧ ∀ p, H1 p = none → Q (.ref p) (upd H1 p (.lst xs))
theorem pe_tup {x1} (h : PA X es t) : PE X (.Tuple es x1 pos) (tTup t) := by
  intro pins s σ H Q I hq
  refine wpAny_Tuple_spliced (thn (h pos pins s σ H _ I hq) fun us s1 ⟨xs, H1, I1, r, z, q⟩ => ⟨by rw [← r.length]; exact z, ?_⟩)
  have hf : H1 s1.heap.objs.size = none := I1.hok.fresh (Nat.le_refl _)
  refine ⟨.ref s1.heap.objs.size, upd H1 s1.heap.objs.size (.tup xs), I1.laid (t' := s1.toks) (fun b u e => Heap.get?_push_of_some _ e) (Nat.le_refl _) ?_, rfl, q _ hf⟩
  exact ⟨z, us, r, ⟨_, Heap.get?_push_size _ rfl, rfl, _, rfl⟩⟩
theorem pe_lst (h : PA X es t) : PE X (.List es pos) (tLst t) := by
  intro pins s σ H Q I hq
  refine wpAny_List_spliced (thn (h pos pins s σ H _ I hq) fun us s1 ⟨xs, H1, I1, r, z, q⟩ => ⟨by rw [← r.length]; exact z, ?_⟩)
  have hf : H1 s1.heap.objs.size = none := I1.hok.fresh (Nat.le_refl _)
  refine ⟨.ref s1.heap.objs.size, upd H1 s1.heap.objs.size (.lst xs), I1.laid (t' := s1.toks) (fun b u e => Heap.get?_push_of_some _ e) (Nat.le_refl _) ?_, rfl, q _ hf⟩
  exact ⟨z, us, 0, r, Heap.get?_push_size _ rfl⟩
end

/-- a def's promise: the bound arguments in the parameters' order, the heap, the wanted end, the wanted exception -/
abbrev Sp := List V → Hp → VK → XK → Prop
/-- how an exception lies behind a call (file 08 gives it): the callers' frames, abstract heap and state ahead of the call, the wish, the exception, the state -/
abbrev CXT := List Env → Hp → Shared → XK → Value → Shared → Prop

/-- the state at a call -/
structure Env0 (P : Program) (w : World) (K : PySem.W.Frag) (mg : Str → Option Value) (base : Heap) (A : Around) (outer : List Env) (s : Shared) (H : Hp) : Prop where
  frames : A.frames = some outer
  mod : Mod K mg base
  bs : ∀ b o, base.get? b = some o → s.heap.get? b = some o ∧ H b = none
  bsz : base.objs.size ≤ s.heap.objs.size
  funs : s.heap.FunFrames base outer
  frf : ∀ b ∈ frs outer, H b = none
  hok : HOk P w H s.heap
  bare : AllBare s.gens
/-- a call's end -/
def CE (outer : List Env) (P : Program) (w : World) (H : Hp) (s : Shared) (Q : VK) (u : Value) (s' : Shared) : Prop :=
  ∃ v H', s'.os = s.os ∧ AllBare s'.gens ∧ Un (frs outer) [] H H' s.heap s'.heap ∧ HOk P w H' s'.heap ∧ RelV v u ∧ Q v H'
def CR (CX : CXT) (outer : List Env) (P : Program) (w : World) (H : Hp) (s : Shared) (Q : VK) (E : XK) (r : Result) (s' : Shared) : Prop :=
  match r with
  | .ok (.ret u) => CE outer P w H s Q u s'
  | .ok _ => False
  | .error e => CX outer H s E e s'
structure FnOk (P : Program) (w : World) (K : PySem.W.Frag) (mg : Str → Option Value) (base : Heap) (CX : CXT) (k : Nat) (f : Addr) (fd : FuncData) (ps : List Str) (sp : Sp) : Prop where
  len : ∀ vs H Q E, sp vs H Q E → vs.length = ps.length
  run : ∀ (A : Around) (outer : List Env) (s : Shared) (H : Hp) (args : Args) (us : List Value) (vs : List V) (Q : VK) (E : XK), Room k A → Env0 P w K mg base A outer s H → BindsTo s fd args (ps.zip us) → Vals vs us → sp vs H Q E →
    codeAny (model P w) A (.call (.ref f) args) (CR CX outer P w H s Q E) s
theorem FnOk.mono {P : Program} {w : World} {K : PySem.W.Frag} {mg : Str → Option Value} {base : Heap} {CX : CXT} {j k : Nat} {f : Addr} {fd : FuncData} {ps : List Str} {sp : Sp} (F : FnOk P w K mg base CX j f fd ps sp) (h : j ≤ k) :
    FnOk P w K mg base CX k f fd ps sp := ⟨F.len, fun A outer s H args us vs Q E hr => F.run A outer s H args us vs Q E (hr.mono h)⟩
/-- a weaker promise -/
theorem FnOk.imp {P : Program} {w : World} {K : PySem.W.Frag} {mg : Str → Option Value} {base : Heap} {CX : CXT} {k : Nat} {f : Addr} {fd : FuncData} {ps : List Str} {sp sp' : Sp} (F : FnOk P w K mg base CX k f fd ps sp)
    (h : ∀ vs H Q E, sp' vs H Q E → sp vs H Q E) : FnOk P w K mg base CX k f fd ps sp' :=
  ⟨fun vs H Q E q => F.len vs H Q E (h _ _ _ _ q), fun A outer s H args us vs Q E hr he hb hv hs => F.run A outer s H args us vs Q E hr he hb hv (h _ _ _ _ hs)⟩

theorem Env0.make {P : Program} {w : World} {K : PySem.W.Frag} {mg : Str → Option Value} {base : Heap} {A : Around} {outer : List Env} {s : Shared} {H : Hp} (e : Env0 P w K mg base A outer s H) (C : Addr) (us : List Value) (kw : List (Str × Value)) :
    Env0 P w K mg base (A.under (.builtin "type.__call__" ⟨.ref C :: us, kw⟩)) outer s H := ⟨by first | exact e.frames | (simpa [Around.under, Code.envs, Code.isFrame, pushEnvs] using e.frames), e.mod, e.bs, e.bsz, e.funs, e.frf, e.hok, e.bare⟩
theorem Env0.in1 {P : Program} {w : World} {K : PySem.W.Frag} {mg : Str → Option Value} {base : Heap} {A : Around} {outer : List Env} {s : Shared} {H : Hp} (e : Env0 P w K mg base A outer s H) :
    Env0 P w K mg base A.in1 outer s H := ⟨e.frames, e.mod, e.bs, e.bsz, e.funs, e.frf, e.hok, e.bare⟩

section
variable {X : Cx} {pins : List (Addr × Obj)} {σ : St} {H : Hp} {s s' : Shared}
/-- from a body: what a callee wants -/
theorem Inv.env0 (I : Inv X pins σ H s) : Env0 X.prog X.w X.K X.mg X.base X.A X.stack s H :=
  ⟨I.ok.frames, I.ok.mod, I.bs, Nat.le_trans I.ok.bsz I.sz, I.stack, I.stkFree, I.hok, I.bare⟩
/-- behind a call -/
theorem Inv.after {Q : VK} {u : Value} (I : Inv X pins σ H s) (h : CE X.stack X.prog X.w H s Q u s') : EP X pins σ Q u s' := by
  obtain ⟨v, H', os, bare, un, hok, r, q⟩ := h
  obtain ⟨hh, g, d, t, os'⟩ := s'
  obtain rfl : os' = s.os := os
  exact ⟨v, H', I.call (h' := hh) (g' := g) (d' := d) (t' := t) (ch := []) un hok bare (fun b z => absurd z (by simp)), r, q⟩
end

/-- f(..): the written arguments, then the defaults dvs; E: what is wanted of an exception -/
def tCall (sp : Sp) (dvs : List V) (E : XK) (t : TA) : TE := fun σ H Q => t σ H fun vs H1 => sp (vs ++ dvs) H1 Q E
/-- o.m(..) of an instance of the class at C -/
def tMeth (C : Addr) (m : Str) (sp : Sp) (dvs : List V) (E : XK) (ta : TE) (t : TA) : TE := fun σ H Q => ta σ H fun x H1 => ∃ a dx fs, x = .ref a ∧ H1 a = some (.ins C dx fs) ∧ fs.lookup m = none ∧
  t σ H1 fun vs H2 => sp (x :: (vs ++ dvs)) H2 Q E
/-- C(..): a new instance and its dict, then __init__ -/
def tMake (C : Addr) (sp : Sp) (dvs : List V) (E : XK) (t : TA) : TE := fun σ H Q => t σ H fun vs H1 => ∀ x dx, H1 x = none → H1 dx = none → dx ≠ x →
  sp (.ref x :: (vs ++ dvs)) (upd (upd H1 dx (.own x)) x (.ins C dx [])) (fun v H2 => v = .non ∧ Q (.ref x) H2) E

/-- how the parameters are bound: us the positional arguments, kw the keywords' values by name, ds the defaults that fill up -/
def Binds (K : PySem.W.Frag) (fd : FuncData) (ps : List Str) (ds : List Value) : Prop :=
  ∀ (s : Shared) (us : List Value), K.In s.heap → (us ++ ds).length = ps.length → BindsTo s fd ⟨us, []⟩ (ps.zip (us ++ ds))
/-- every parameter is given -/
theorem Binds.all {K : PySem.W.Frag} {fd : FuncData} {ps : List Str} (h : ∀ us : List Value, us.length = ps.length → bindArgs fd ⟨us, []⟩ = pure (ps.zip us)) : Binds K fd ps [] := fun s us _ hl => by
  rw [List.append_nil] at hl ⊢
  exact .of_eq (h us hl)

/-- an exception of a callee reaches what this body wants of exceptions -/
def Passes (CX : CXT) (X : Cx) (E : XK) : Prop := ∀ (pins : List (Addr × Obj)) (σ : St) (H : Hp) (s : Shared) (e : Value) (s' : Shared), Inv X pins σ H s → CX X.stack H s E e s' → X.xe e s'

section
variable {X : Cx} {CX : CXT} {k : Nat} {f C : Addr} {fd : FuncData} {ps : List Str} {sp : Sp} {dvs : List V} {ds : List Value} {E : XK} {x m : Str} {p pos apos : Pos} {e o : Expr} {es : List Expr} {ta : TE} {t : TA}

/-- the callee runs -/
theorem run_fn {pins : List (Addr × Obj)} {σ : St} {H : Hp} {s : Shared} {Q : VK} {us : List Value} {vs : List V} (F : FnOk X.prog X.w X.K X.mg X.base CX k f fd ps sp) (hr : Room k X.A) (hb : Binds X.K fd ps ds) (hd : Vals dvs ds) (hx : Passes CX X E)
    (I : Inv X pins σ H s) (r : Vals vs us) (h : sp (vs ++ dvs) H Q E) : wpAny (model X.prog X.w) X.A (call (.ref f) us) (EP X pins σ Q) X.xe s := by
  have r2 : Vals (vs ++ dvs) (us ++ ds) := r.append hd
  have hl : (us ++ ds).length = ps.length := by rw [← r2.length]; exact F.len _ _ _ _ h
  refine wpAny_call (codeAny_mono (F.run X.A X.stack s H ⟨us, []⟩ (us ++ ds) (vs ++ dvs) Q E hr I.env0 (hb s us I.kIn hl) r2 h) fun r s' hq => ?_)
  cases r with
  | error e => exact hx pins σ H s e s' I hq
  | ok fl =>
    cases fl with
    | ret u => exact I.after hq
    | next => exact False.elim hq
    | brk => exact False.elim hq
    | cont => exact False.elim hq

theorem pe_call (F : FnOk X.prog X.w X.K X.mg X.base CX k f fd ps sp) (hr : Room k X.A) (hg : Gl X x) (hm : X.mg x = some (.ref f)) (hk : PySem.W.keepIn X.K (.ref f) = true) (hb : Binds X.K fd ps ds) (hd : Vals dvs ds) (hx : Passes CX X E)
    (ha : PA X (e :: es) t) (hdb : (x == ("__debug__" : Str)) = false := by decide) (he : starEach (e :: es) X.env = (false, eval e X.env) :: starEach es X.env := by rfl) (hpl : (backTo pos (starEach es X.env)).any (·.1) = false := by rfl) :
    PE X (.Call (.Name x p) (e :: es) [] pos) (tCall sp dvs E t) := by
  intro pins s σ H Q I h
  refine wpAny_Call_Name_kw (ld_glob I hg hm ?_ hdb)
  refine PySem.W.callWith_K (h₀ := X.base) I.ok.mod.kin hk (thn (ha pos pins s σ H _ I h) fun us s1 ⟨vs, H1, I1, r, q⟩ => ⟨I1.kIn, ?_⟩) he hpl
  exact run_fn F hr hb hd hx I1 r q
/-- o.m(e, ..) -/
theorem pe_meth {pl : Sem Bool} (he : PE X o ta) (c : Cls X.K C) (hm : Meth X.K C m f) (F : FnOk X.prog X.w X.K X.mg X.base CX k f fd ps sp) (hr : Room k X.A) (hb : Binds X.K fd ps ds) (hd : Vals dvs ds) (hx : Passes CX X E) (ha : PA X (e :: es) t)
    (hst : starEach (e :: es) X.env = (false, eval e X.env) :: starEach es X.env := by rfl) (hpl : (backTo pos (starEach es X.env)).any (·.1) = false := by rfl)
    (ht : eval (.Call (.Attribute o m apos) (e :: es) [] pos) X.env = (do
      let ov ← eval o X.env
      standAt apos.atName
      let (f, first) ← holding [ov] (getMethod ov m pl)
      callWith pos f first (backTo pos (starEach (e :: es) X.env)) (backToKw pos (keywordEach [] X.env))) := by rfl) :
    PE X (.Call (.Attribute o m apos) (e :: es) [] pos) (tMeth C m sp dvs E ta t) := by
  intro pins s σ H Q I h
  refine PySem.W.methodCall_KW (pl := pl) (thn (he pins s σ H _ I h) fun u s1 ⟨x, H1, I1, rx, a, dx, fs, ex, ea, l, q⟩ => ?_) ht
  subst ex
  obtain rfl : u = Value.ref a := rx
  refine getmeth_ok I1 ea c hm l ?_
  refine PySem.W.callWith_K (first := [.ref a]) (h₀ := X.base) I.ok.mod.kin hm.kp (thn (ha pos pins s1 σ H1 _ I1 q) fun us s2 ⟨vs, H2, I2, r, q2⟩ => ⟨I2.kIn, ?_⟩) hst hpl
  exact run_fn (us := .ref a :: us) (vs := .ref a :: vs) F hr hb hd hx I2 (.cons rfl r) q2
/-- o.m() -/
theorem pe_meth0 {pl : Sem Bool} (he : PE X o ta) (c : Cls X.K C) (hm : Meth X.K C m f) (F : FnOk X.prog X.w X.K X.mg X.base CX k f fd ps sp) (hr : Room k X.A) (hb : Binds X.K fd ps ds) (hd : Vals dvs ds) (hx : Passes CX X E)
    (ht : eval (.Call (.Attribute o m apos) [] [] pos) X.env = (do
      let ov ← eval o X.env
      standAt apos.atName
      let (f, first) ← holding [ov] (getMethod ov m pl)
      callWith pos f first (backTo pos (starEach [] X.env)) (backToKw pos (keywordEach [] X.env))) := by rfl) :
    PE X (.Call (.Attribute o m apos) [] [] pos) (tMeth C m sp dvs E ta tNil) := by
  intro pins s σ H Q I h
  refine PySem.W.methodCall_KW (pl := pl) (thn (he pins s σ H _ I h) fun u s1 ⟨x, H1, I1, rx, a, dx, fs, ex, ea, l, q⟩ => ?_) ht
  subst ex
  obtain rfl : u = Value.ref a := rx
  refine getmeth_ok I1 ea c hm l ?_
  exact PySem.W.callWith_K0 (first := [.ref a]) I1.kIn hm.kp (run_fn (us := [.ref a]) (vs := [.ref a]) F hr hb hd hx I1 (.cons rfl .nil) q)

/-- what a class must have to be made -/
structure Mk (K : PySem.W.Frag) (C f : Addr) : Prop where
  makes : PySem.W.makesIn K C = true
  init : PySem.W.findIn K (.ref C) "__init__" = some (some (.ref f))
  fn : PySem.W.isFn K (.ref f) = true
  kp : PySem.W.keepIn K (.ref C) = true

theorem run_make {pins : List (Addr × Obj)} {σ : St} {H : Hp} {s : Shared} {Q : VK} {us : List Value} {vs : List V} (M : Mk X.K C f) (F : FnOk X.prog X.w X.K X.mg X.base CX k f fd ps sp) (hr : Room (k + 1) X.A) (hb : Binds X.K fd ps ds) (hd : Vals dvs ds)
    (hx : Passes CX X E) (I : Inv X pins σ H s) (r : Vals vs us)
    (h : ∀ x dx, H x = none → H dx = none → dx ≠ x → sp (.ref x :: (vs ++ dvs)) (upd (upd H dx (.own x)) x (.ins C dx [])) (fun v H2 => v = .non ∧ Q (.ref x) H2) E) :
    wpAny (model X.prog X.w) X.A (call (.ref C) us) (EP X pins σ Q) X.xe s := by
  have hq := h (s.heap.objs.size + 1) s.heap.objs.size (I.hok.fresh (Nat.le_succ _)) (I.hok.fresh (Nat.le_refl _)) (Nat.ne_of_lt (Nat.lt_succ_self _))
  have I2 := Inv.made (C := C) I
  have r2 : Vals (V.ref (s.heap.objs.size + 1) :: (vs ++ dvs)) (Value.ref (s.heap.objs.size + 1) :: (us ++ ds)) := .cons rfl (r.append hd)
  have hl : (Value.ref (s.heap.objs.size + 1) :: us ++ ds).length = ps.length := by
    have e := r2.length
    rw [F.len _ _ _ _ hq] at e
    exact e.symm
  refine wpAny_call (make_map (f := f) I.kIn M.makes M.init (beq_iff_eq.mp M.fn) (codeAny_mono (F.run _ X.stack _ _ ⟨Value.ref (s.heap.objs.size + 1) :: us, []⟩ (Value.ref (s.heap.objs.size + 1) :: (us ++ ds)) _ _ E (hr.make C us [])
    (I2.env0.make C us []) (hb _ (Value.ref (s.heap.objs.size + 1) :: us) I2.kIn hl) r2 hq) fun r s' hq' => ?_))
  cases r with
  | error e => exact hx pins σ _ _ e s' I2 hq'
  | ok fl =>
    cases fl with
    | ret u =>
      obtain ⟨v, H', I3, rv, ev, q3⟩ := I2.after hq'
      subst ev
      exact ⟨rv, ⟨V.ref (s.heap.objs.size + 1), H', I3, rfl, q3⟩⟩
    | next => exact False.elim hq'
    | brk => exact False.elim hq'
    | cont => exact False.elim hq'
theorem pe_make (M : Mk X.K C f) (F : FnOk X.prog X.w X.K X.mg X.base CX k f fd ps sp) (hr : Room (k + 1) X.A) (hg : Gl X x) (hm : X.mg x = some (.ref C)) (hb : Binds X.K fd ps ds) (hd : Vals dvs ds) (hx : Passes CX X E)
    (ha : PA X (e :: es) t) (hdb : (x == ("__debug__" : Str)) = false := by decide) (he : starEach (e :: es) X.env = (false, eval e X.env) :: starEach es X.env := by rfl) (hpl : (backTo pos (starEach es X.env)).any (·.1) = false := by rfl) :
    PE X (.Call (.Name x p) (e :: es) [] pos) (tMake C sp dvs E t) := by
  intro pins s σ H Q I h
  refine wpAny_Call_Name_kw (ld_glob I hg hm ?_ hdb)
  refine PySem.W.callWith_K (h₀ := X.base) I.ok.mod.kin M.kp (thn (ha pos pins s σ H _ I h) fun us s1 ⟨vs, H1, I1, r, q⟩ => ⟨I1.kIn, ?_⟩) he hpl
  exact run_make M F hr hb hd hx I1 r q
end

/-- the values of the keywords, from the left -/
def PK (X : Cx) (kws : List Keyword) (t : TA) : Prop :=
  ∀ (pos : Pos) (pins : List (Addr × Obj)) (s : Shared) (σ : St) (H : Hp) (Q : List V → Hp → Prop), Inv X pins σ H s → t σ H Q → wpAny (model X.prog X.w) X.A (evalAll ((backToKw pos (keywordEach kws X.env)).map (·.2))) (AP X pins σ Q) X.xe s
section
variable {X : Cx} {CX : CXT} {k : Nat} {f C : Addr} {fd : FuncData} {ps ks : List Str} {sp : Sp} {E : XK} {x m : Str} {p pos apos kpos : Pos} {e o : Expr} {es : List Expr} {kws : List Keyword} {te ta : TE} {t tk : TA} {nm : Option Str}
variable {g : List Value → List Value → List Value} {gV : List V → List V → List V}
end

/-- names: the parameters first -/
structure FnScope (N P : List Str) (sc : Scope) : Prop where
  kind : sc.kind = .function
  co : sc.isCoroutine = false
  gen : sc.isGenerator = false
  nd : N.Nodup
  pre : N.take P.length = P
  par : ∀ x ∈ P, sc.names.lookup x = some .local ∨ sc.names.lookup x = some .cell
  nofree : ∀ y ∈ sc.names, y.2 ≠ .free

theorem bindL_out {kindOf : Str → Option NameKind} {x : Str} : ∀ {binds : List (Str × Value)} {m : Str → Option Value}, (∀ v, (x, v) ∉ binds) → bindL kindOf binds m x = m x
  | [], _, _ => rfl
  | (n, v) :: r, m, h => by
    unfold bindL
    rw [bindL_out fun w hw => h w (List.mem_cons_of_mem _ hw)]
    split
    · have : x ≠ n := by rintro rfl; exact h v List.mem_cons_self
      simp [this]
    · rfl
theorem bindC_out {kindOf : Str → Option NameKind} {x : Str} : ∀ {binds : List (Str × Value)} {m : Str → Option Value}, (∀ v, (x, v) ∉ binds) → bindC kindOf binds m x = m x
  | [], _, _ => rfl
  | (n, v) :: r, m, h => by
    unfold bindC
    rw [bindC_out fun w hw => h w (List.mem_cons_of_mem _ hw)]
    split
    · rfl
    · have : x ≠ n := by rintro rfl; exact h v List.mem_cons_self
      simp [this]
theorem bindL_get {kindOf : Str → Option NameKind} {x : Str} {v : Value} : ∀ {P : List Str} {vs : List Value} {i : Nat} {m : Str → Option Value}, P.Nodup → P[i]? = some x → vs[i]? = some v → kindOf x = some .local →
    bindL kindOf (P.zip vs) m x = some v
  | [], _, _, _, _, h, _, _ => by simp at h
  | _ :: _, [], _, _, _, _, h, _ => by simp at h
  | p :: P, w :: vs, 0, m, nd, h1, h2, hk => by
    simp at h1 h2; subst h1; subst h2
    show bindL kindOf ((p, w) :: P.zip vs) m p = _
    unfold bindL
    rw [bindL_out fun v hv => (List.nodup_cons.mp nd).1 (List.of_mem_zip hv).1, if_pos hk]
    simp
  | p :: P, w :: vs, i + 1, m, nd, h1, h2, hk => by
    show bindL kindOf ((p, w) :: P.zip vs) m x = _
    unfold bindL
    exact bindL_get (i := i) (List.nodup_cons.mp nd).2 (by simpa using h1) (by simpa using h2) hk
theorem bindC_get {kindOf : Str → Option NameKind} {x : Str} {v : Value} : ∀ {P : List Str} {vs : List Value} {i : Nat} {m : Str → Option Value}, P.Nodup → P[i]? = some x → vs[i]? = some v → kindOf x ≠ some .local →
    bindC kindOf (P.zip vs) m x = some v
  | [], _, _, _, _, h, _, _ => by simp at h
  | _ :: _, [], _, _, _, _, h, _ => by simp at h
  | p :: P, w :: vs, 0, m, nd, h1, h2, hk => by
    simp at h1 h2; subst h1; subst h2
    show bindC kindOf ((p, w) :: P.zip vs) m p = _
    unfold bindC
    rw [bindC_out fun v hv => (List.nodup_cons.mp nd).1 (List.of_mem_zip hv).1, if_neg hk]
    simp
  | p :: P, w :: vs, i + 1, m, nd, h1, h2, hk => by
    show bindC kindOf ((p, w) :: P.zip vs) m x = _
    unfold bindC
    exact bindC_get (i := i) (List.nodup_cons.mp nd).2 (by simpa using h1) (by simpa using h2) hk

/-- the names' values at the entry -/
def start (N : List Str) (vs : List V) : St := vs.map some ++ List.replicate (N.length - vs.length) none

/-- the context of a def's body, at its entry; an exception leaves the frame, then lies as CX says -/
def cxOf (CX : CXT) (P : Program) (w : World) (K : PySem.W.Frag) (mg : Str → Option Value) (base : Heap) (N : List Str) (qual : Str) (scope : Scope) (f : Addr) (cd : Value) (A : Around) (outer : List Env) (s : Shared) (H : Hp) (E : XK) : Cx where
  prog := P
  w := w
  K := K
  mg := mg
  base := base
  A := A.deeper (envOfC qual scope s.heap.objs.size f cd)
  N := N
  s₀ := s
  H₀ := H
  env := envOfC qual scope s.heap.objs.size f cd
  outer := outer
  stack := envOfC qual scope s.heap.objs.size f cd :: outer
  ex := []
  calm := true
  fn := fun _ => true
  pn := []
  xe := fun e s' => wpAny (model P w) (A.deeper (envOfC qual scope s.heap.objs.size f cd)) (leaving (envOfC qual scope s.heap.objs.size f cd) e) (fun _ s'' => CX outer H s E e s'') (fun e' s'' => CX outer H s E e' s'') s'

theorem cell_has {sc : Scope} {n : Nat} {x : Str} (h : sc.names.lookup x = some .cell) : ∃ c, (cellsFrom n sc.names []).lookup x = some c := by
  have q := PySem.W.cellsFrom_some sc.names n [] (.inl h)
  exact Option.isSome_iff_exists.mp q

theorem inv_start {CX : CXT} {P : Program} {w : World} {K : PySem.W.Frag} {mg : Str → Option Value} {base : Heap} {N ps : List Str} {qual : Str} {scope : Scope} {f : Addr} {cd : Value} {A : Around} {outer : List Env} {s s1 : Shared} {H : Hp} {E : XK} {us : List Value} {vs : List V}
    (S : FnScope N ps scope) (hd : A.handled = none) (e0 : Env0 P w K mg base A outer s H) (hl : vs.length = ps.length) (r : Vals vs us)
    (x : InCallC s s.heap.objs.size (bindL (envOfC qual scope s.heap.objs.size f cd).kindOf (ps.zip us) fun _ => none) (cellsFrom (s.heap.objs.size + 1) scope.names []) (bindC (envOfC qual scope s.heap.objs.size f cd).kindOf (ps.zip us) fun _ => none) s1) :
    Inv (cxOf CX P w K mg base N qual scope f cd A outer s H E) [] (start N vs) H s1 := by
  have hpl : ps.length ≤ N.length := by have := congrArg List.length S.pre; rw [List.length_take] at this; omega
  obtain ⟨h1, tk, rfl, hk⟩ := x.done
  have noA : ∀ b : Addr, b ∉ (cxOf CX P w K mg base N qual scope f cd A outer s H E).ex := fun b z => absurd (show b ∈ ([] : List Addr) from z) (by simp)
  refine ⟨⟨e0.mod, S.kind, rfl, rfl, Nat.le_refl _, fun y z c h1 h2 => ?_, fun y hy => ?_, fun y c _ h => ?_, fun _ => hd, Around.frames_deeper e0.frames, .inr ⟨rfl, rfl⟩, fun b z => absurd z (noA b), e0.bs, e0.bsz, fun b _ _ => noA b, fun b z => absurd z (noA b), e0.funs, e0.frf⟩,
    rfl, e0.bare, Un.kept hk, ⟨_, x.toInCall.ns, fun i y v h1 h2 h3 => ?_⟩, fun y c h => ⟨_, x.cell y c h⟩, e0.hok.fresh (Nat.le_refl _), fun y c h => ?_, fun p hp => absurd (show p ∈ ([] : List (Addr × Obj)) from hp) (by simp), e0.hok.kept hk, ?_⟩
  · exact name_of_addr x.apart (PySem.mem_of_lookup h1) (PySem.mem_of_lookup h2)
  · have hy : scope.names.lookup y = some .cell ∨ scope.names.lookup y = some .free := hy
    rcases hy with hy | hy
    · exact cell_has hy
    · exact absurd rfl (S.nofree _ (PySem.mem_of_lookup hy))
  · exact Nat.le_of_lt (x.above y c (PySem.mem_of_lookup h))
  · have hi : i < vs.length := by
      unfold start at h2
      by_cases hi : i < vs.length
      · exact hi
      · rw [List.getElem?_append_right (by simpa using hi)] at h2
        rw [List.getElem?_replicate] at h2
        split at h2 <;> cases h2
    have ha : vs[i]? = some v := by
      unfold start at h2
      rw [List.getElem?_append_left (by simpa using hi), List.getElem?_map] at h2
      cases e : vs[i]? with
      | none => rw [e] at h2; cases h2
      | some a => rw [e] at h2; cases h2; rfl
    obtain ⟨u, hu, rv⟩ := r.get ha
    have hp : ps[i]? = some y := by
      rw [← S.pre, List.getElem?_take_of_lt (by omega)]; exact h1
    have ndP : ps.Nodup := by rw [← S.pre]; exact S.nd.sublist (List.take_sublist _ _)
    refine ⟨u, rv, ?_⟩
    rcases S.par y (List.mem_of_getElem? hp) with k | k
    · exact .inl ⟨k, bindL_get ndP hp hu k⟩
    · obtain ⟨c, e⟩ := cell_has (n := s.heap.objs.size + 1) k
      refine .inr ⟨.inl k, c, e, ?_⟩
      have q := x.cell y c e
      rw [bindC_get ndP hp hu (by show scope.names.lookup y ≠ _; rw [k]; decide)] at q
      exact q
  · exact e0.hok.fresh (Nat.le_of_lt (x.above y c (PySem.mem_of_lookup h)))
  · unfold start
    show _ = N.length
    rw [List.length_append, List.length_map, List.length_replicate]
    omega

/-- THE RULE: a def (or a method) of the text, by its body. The body's reading t is chosen for each entry; it is run at the parameters' values -/
theorem fn_of {CX : CXT} {P : Program} {w : World} {K : PySem.W.Frag} {mg : Str → Option Value} {base : Heap} {k : Nat} {f : Addr} {name qual : Str} {params : Arguments} {body : List Stmt} {scope : Scope} {dV kV doc pm cdv ct oc : Value} {an od : Option Addr}
    {osl : Array (Option Value)} {N ps : List Str} {sp : Sp} (lk : K.lookup f = some ⟨oc, od, .func (PySem.W.fnOf name qual params body scope dV kV doc pm an cdv ct), osl⟩) (hcd : PySem.W.codeIn K cdv qual = true) (S : FnScope N ps scope)
    (len : ∀ vs H Q E, sp vs H Q E → vs.length = ps.length)
    (hbody : ∀ (A : Around) (outer : List Env) (s : Shared) (H : Hp) (vs : List V) (Q : VK) (E : XK), Room k (A.deeper (envOfC qual scope s.heap.objs.size f cdv)) → sp vs H Q E →
      ∃ t, PSs (cxOf CX P w K mg base N qual scope f cdv A outer s H E) body t ∧ t { nx := fun _ H' => Q .non H', rt := Q } (start N vs) H) :
    FnOk P w K mg base CX (k + 1) f (PySem.W.fnOf name qual params body scope dV kV doc pm an cdv ct) ps sp := by
  refine ⟨len, fun A outer s H args us vs Q E hr e0 hb r hsp => ?_⟩
  have hl := len _ _ _ _ hsp
  have KX : K.In s.heap := e0.mod.kin.keeps fun b o e => (e0.bs b o e).1
  have lim : s.heap.NoLimit := e0.mod.nolimit.keeps fun b o e => (e0.bs b o e).1
  have hkind : ∀ y ∈ ps.zip us, scope.names.lookup y.1 = some .local ∨ (scope.names.lookup y.1 = some .cell ∧ ((cellsFrom (s.heap.objs.size + 1) scope.names []).lookup y.1).isSome = true) := fun ⟨n, v⟩ hy => by
    rcases S.par n (List.of_mem_zip hy).1 with q | q
    · exact .inl q
    · exact .inr ⟨q, PySem.W.cellsFrom_some _ _ _ (.inl q)⟩
  refine codeAny_call_function hr.depth (KX _ _ lk) rfl S.co S.gen rfl (PySem.W.codeRec_of KX hcd) (hb _ _ _ _ ?_)
  refine wpAny_newFunctionEnv_cells S.kind hkind fun env he s1 x => ?_
  subst he
  refine ⟨lim.keeps x.toInCall.keep, codeAny_func ?_⟩
  obtain ⟨t, ht, hq⟩ := hbody A outer s H vs Q E (hr.deeper _) hsp
  have I : Inv (cxOf CX P w K mg base N qual scope f cdv A outer s H E) [] (start N vs) H s1 := inv_start S hr.hd e0 hl r x
  refine wpAny_mono (ht [] s1 (start N vs) H _ I hq) (fun fl s' hs => ?_) fun e s' hs => hs
  have fin : ∀ {σ' : St} {H' : Hp} {v : V} {u : Value}, Inv (cxOf CX P w K mg base N qual scope f cdv A outer s H E) [] σ' H' s' → RelV v u → Q v H' → CE outer P w H s Q u s' :=
    fun {σ' H' v u} J rv q => ⟨v, H', J.os, J.bare, J.base, J.hok, rv, q⟩
  cases fl with
  | ret u =>
    obtain ⟨v, σ', H', J, rv, q⟩ := hs
    exact fin J rv q
  | next =>
    obtain ⟨σ', H', J, q⟩ := hs
    exact fin (v := V.non) (u := Value.none) J rfl q
  | brk =>
    obtain ⟨_, _, _, q⟩ := hs
    exact False.elim q
  | cont =>
    obtain ⟨_, _, _, q⟩ := hs
    exact False.elim q
end L2

namespace L2
open PySem PySem.Spec PyProof.Rows
section
variable {X : Cx} {x : Str} {p pos : Pos} {e : Expr} {es : List Expr} {t : TA} {id T : String} {r : List V → Hp → VK → Prop}

def tCB (r : List V → Hp → VK → Prop) (t : TA) : TE := fun σ H Q => t σ H fun vs H1 => r vs H1 Q
/-- f(e, ..), f a built-in function -/
theorem pe_callB (hc : CallR X (.builtin id) r) (hg : Gl X x) (hm : X.mg x = none) (hv : bootBuiltins x = some (.builtin id)) (ha : PA X (e :: es) t) (hn : x ≠ "__name__" := by decide) (hdb : (x == ("__debug__" : Str)) = false := by decide)
    (he : starEach (e :: es) X.env = (false, eval e X.env) :: starEach es X.env := by rfl) (hpl : (backTo pos (starEach es X.env)).any (·.1) = false := by rfl) : PE X (.Call (.Name x p) (e :: es) [] pos) (tCB r t) := by
  intro pins s σ H Q I h
  refine wpAny_Call_Name_kw (ld_blt I hg hm hv ?_ hn hdb)
  exact PyProof.Rows.callWith_builtin1 (thn (ha pos pins s σ H _ I h) fun us s1 ⟨vs, H1, I1, r1, q1⟩ => hc pins s1 σ H1 vs us Q I1 r1 q1) he hpl
/-- T(e, ..), T a built-in type -/
theorem pe_callTy (hc : CallR X (.type T) r) (hg : Gl X x) (hm : X.mg x = none) (hv : bootBuiltins x = some (.type T)) (ha : PA X (e :: es) t) (hn : x ≠ "__name__" := by decide) (hdb : (x == ("__debug__" : Str)) = false := by decide)
    (he : starEach (e :: es) X.env = (false, eval e X.env) :: starEach es X.env := by rfl) (hpl : (backTo pos (starEach es X.env)).any (·.1) = false := by rfl) : PE X (.Call (.Name x p) (e :: es) [] pos) (tCB r t) := by
  intro pins s σ H Q I h
  refine wpAny_Call_Name_kw (ld_blt I hg hm hv ?_ hn hdb)
  exact PyProof.Rows.callWith_type1 (thn (ha pos pins s σ H _ I h) fun us s1 ⟨vs, H1, I1, r1, q1⟩ => hc pins s1 σ H1 vs us Q I1 r1 q1) he hpl
end
end L2

namespace HT
open PySem PyProof.Rows

section
open PySem.SeqAt
open PySem.AutoSeq1 (wpAny_loadPart')
open PySem.MeetsSeq PySem.MeetsSeq2 PySem.MeetsSeq3

end

section
variable {prog : Program} {w : World} {A : Around} {E : Value → Shared → Prop} {s : Shared}

/-- a slice's bound as a place among n (d where it is left out) -/
def sIx (n d : Nat) : Option Int → Nat
  | none => d
  | some v => if v < 0 then (v + (n : Int)).toNat else min v.toNat n
end
end HT

namespace L2
open PySem PySem.Spec PyProof.Rows

abbrev TO := St → Hp → (Option Int → Hp → Prop) → Prop
/-- a slice's part (left out, or an int) -/
def PO (X : Cx) (e : Option Expr) (t : TO) : Prop :=
  ∀ (pins : List (Addr × Obj)) (s : Shared) (σ : St) (H : Hp) (Q : Option Int → Hp → Prop), Inv X pins σ H s → t σ H Q →
    wpAny (model X.prog X.w) X.A (evalPart e X.env) (fun u s' => ∃ o H', Inv X pins σ H' s' ∧ IsPart u o ∧ Q o H') X.xe s
def tNoPart : TO := fun _ H Q => Q none H
def tPart (t : TE) : TO := fun σ H Q => t σ H fun x H1 => ∃ i, x = .int i ∧ Q (some i) H1

theorem intsAre_of {ns : List Int} : ∀ {us : List Value}, Vals (ns.map V.int) us → IntsAre us ns := by
  induction ns with
  | nil => intro us r; rw [List.map_nil] at r; cases r; exact .nil
  | cons n ns ih =>
    intro us r
    rw [List.map_cons] at r
    cases r with
    | cons r1 r2 =>
      obtain ⟨t, e⟩ := r1
      subst e
      exact .cons n t (ih r2)

section
variable {X : Cx} {e : Expr} {te : TE} {lo hi : Option Expr} {tl th : TO} {pos p2 : Pos}

theorem po_none : PO X none tNoPart := by
  intro pins s σ H Q I h
  rw [evalPart_none]
  exact wpAny_pure ⟨none, H, I, .none, h⟩
theorem po_some (h : PE X e te) : PO X (some e) (tPart te) := by
  intro pins s σ H Q I hw
  rw [evalPart_some]
  refine thn (h pins s σ H _ I hw) fun u s1 ⟨x, H1, I1, r1, q1⟩ => ?_
  obtain ⟨i, rfl, q⟩ := q1
  obtain ⟨t, rfl⟩ := r1
  exact ⟨some i, H1, I1, .int i t, q⟩

/-- what a slice of a value is, by values: the slice object stands at sl -/
def SlR (X : Cx) (r : V → Option Int → Option Int → Hp → VK → Prop) : Prop :=
  ∀ (pins : List (Addr × Obj)) (s : Shared) (σ : St) (H : Hp) (x : V) (v vl vu : Value) (lo hi : Option Int) (sl : Addr) (Q : VK), Inv X pins σ H s → RelV x v → s.heap.IsSliceOf sl vl vu .none → IsPart vl lo → IsPart vu hi → r x lo hi H Q →
    ∃ T id, typeLookup (.type T) "__getitem__" = pure (some (.builtin id)) ∧ s.TypeIs v T ∧ wpAny (model X.prog X.w) X.A (getItem v (.ref sl)) (EP X pins σ Q) X.xe s
theorem SlR.or {r r' : V → Option Int → Option Int → Hp → VK → Prop} (h : SlR X r) (h' : SlR X r') : SlR X (fun x lo hi H Q => r x lo hi H Q ∨ r' x lo hi H Q) := by
  intro pins s σ H x v vl vu lo hi sl Q I rx hs pl pu q
  rcases q with q | q
  · exact h pins s σ H x v vl vu lo hi sl Q I rx hs pl pu q
  · exact h' pins s σ H x v vl vu lo hi sl Q I rx hs pl pu q
def tSl (r : V → Option Int → Option Int → Hp → VK → Prop) (te : TE) (tl th : TO) : TE := fun σ H Q => te σ H fun x H1 => tl σ H1 fun l H2 => th σ H2 fun u H3 => r x l u H3 Q
/-- a[lo:hi], any a -/
theorem pe_slice {r : V → Option Int → Option Int → Hp → VK → Prop} (hr : SlR X r) (he : PE X e te) (hl : PO X lo tl) (hu : PO X hi th) : PE X (.Subscript e (.Slice lo hi none p2) pos) (tSl r te tl th) := by
  intro pins s σ H Q I h
  refine Subscript_ (thn (he pins s σ H _ I h) fun v s1 ⟨x, H1, I1, r1, q1⟩ => ?_)
  refine wpAny_Slice (thn (hl pins s1 σ H1 _ I1 q1) fun vl s2 ⟨l, H2, I2, pl, q2⟩ => thn (hu pins s2 σ H2 _ I2 q2) fun vu s3 ⟨u, H3, I3, pu, q3⟩ => ?_)
  rw [evalPart_none]
  refine wpAny_pure ?_
  have I4 : Inv X pins σ H3 { s3 with heap := s3.heap.push { cls := .type "slice", data := .fields #[vl, vu, .none] } } := I3.kept (t' := s3.toks) fun b ob q => Heap.get?_push_of_some _ q
  obtain ⟨T, id, hT, ht, hg⟩ := hr pins { s3 with heap := s3.heap.push { cls := .type "slice", data := .fields #[vl, vu, .none] } } σ H3 x v vl vu l u s3.heap.objs.size Q I4 r1 (Heap.IsSliceOf.new ..) pl pu q3
  show wpAny (model X.prog X.w) X.A (subscriptTail e (.Slice lo hi none p2) v (.ref s3.heap.objs.size)) (EP X pins σ Q) X.xe { s3 with heap := s3.heap.push { cls := .type "slice", data := .fields #[vl, vu, .none] } }
  exact tail_any (ops := [.ref s3.heap.objs.size, v]) ht hT hg (by with_unfolding_all rfl)

/-- the items of xs[lo:hi] -/
def cutV (xs : List V) (lo hi : Option Int) : List V := (xs.drop (HT.sIx xs.length 0 lo)).take (HT.sIx xs.length xs.length hi - HT.sIx xs.length 0 lo)
theorem cutV_length (xs : List V) (lo hi : Option Int) : (cutV xs lo hi).length ≤ xs.length := by
  unfold cutV
  rw [List.length_take, List.length_drop]
  omega
end
end L2

namespace L2
open PySem PySem.Spec PyProof.Rows

/-- the place that an index of any sign means -/
def ixN (n : Nat) (i : Int) : Option Nat := if 0 ≤ i then (if i < n then some i.toNat else none) else if -(n : Int) ≤ i then some (i + n).toNat else none
def atI {α : Type} (xs : List α) (i : Int) : Option α := (ixN xs.length i).bind fun j => xs[j]?
theorem ixN_seq {n : Nat} {i : Int} {j : Nat} (h : ixN n i = some j) : seqIndex? i n = some j ∧ j < n ∧ -(n : Int) ≤ i ∧ i < n := by
  unfold ixN at h
  by_cases h0 : 0 ≤ i
  · rw [if_pos h0] at h
    by_cases h1 : i < n
    · rw [if_pos h1] at h
      have e : i.toNat = j := Option.some.inj h
      exact ⟨by rw [seqIndex_of h0 h1, e], by omega, by omega, h1⟩
    · rw [if_neg h1] at h; cases h
  · rw [if_neg h0] at h
    by_cases h1 : -(n : Int) ≤ i
    · rw [if_pos h1] at h
      have e : (i + n).toNat = j := Option.some.inj h
      exact ⟨by rw [seqIndex_neg (by omega) h1, e], by omega, h1, by omega⟩
    · rw [if_neg h1] at h; cases h
theorem atI_get {α : Type} {xs : List α} {i : Int} {v : α} (h : atI xs i = some v) : ∃ j, seqIndex? i xs.length = some j ∧ xs[j]? = some v ∧ j < xs.length ∧ -(xs.length : Int) ≤ i ∧ i < xs.length := by
  unfold atI at h
  cases e : ixN xs.length i with
  | none => rw [e] at h; cases h
  | some j =>
    rw [e] at h
    obtain ⟨h1, h2, h3, h4⟩ := ixN_seq e
    exact ⟨j, h1, h, h2, h3, h4⟩
theorem atI_nat {α : Type} {xs : List α} {j : Nat} {v : α} (h : xs[j]? = some v) : atI xs (j : Int) = some v := by
  have hj : j < xs.length := (List.getElem?_eq_some_iff.mp h).1
  have e : ixN xs.length (j : Int) = some j := by
    unfold ixN
    rw [if_pos (by omega), if_pos (by omega)]; simp
  unfold atI; rw [e]; exact h
/-- what stands as an index of a plain subscript -/
def PlainIx (b : Expr) : Prop := ∀ o i, subscripted b false o i = operate [o, i] (getItem o i)
/-- a subscript by values -/
def IxR (X : Cx) (r : R2) : Prop :=
  ∀ (value slice : Expr) (pins : List (Addr × Obj)) (s : Shared) (σ : St) (H : Hp) (x y : V) (v u : Value) (Q : VK), Inv X pins σ H s → RelV x v → RelV y u → r x y H Q →
    subscripted slice false v u = operate [v, u] (getItem v u) → wpAny (model X.prog X.w) X.A (subscriptTail value slice v u) (EP X pins σ Q) X.xe s
/-- a call of a builtin's method by values: the receiver, the arguments -/
def MtR (X : Cx) (id : String) (r : V → List V → Hp → VK → Prop) : Prop :=
  ∀ (pins : List (Addr × Obj)) (s : Shared) (σ : St) (H : Hp) (x : V) (xs : List V) (v : Value) (us : List Value) (Q : VK), Inv X pins σ H s → RelV x v → Vals xs us → r x xs H Q →
    wpAny (model X.prog X.w) X.A (call (.builtin id) (v :: us)) (EP X pins σ Q) X.xe s
section
variable {X : Cx} {a b : Expr} {ta tb : TE} {pos : Pos}
theorem IxR.or {r r' : R2} (h : IxR X r) (h' : IxR X r') : IxR X (fun x y H Q => r x y H Q ∨ r' x y H Q) := by
  intro value slice pins s σ H x y v u Q I rx ry q hs
  rcases q with q | q
  · exact h value slice pins s σ H x y v u Q I rx ry q hs
  · exact h' value slice pins s σ H x y v u Q I rx ry q hs
theorem MtR.or {id : String} {r r' : V → List V → Hp → VK → Prop} (h : MtR X id r) (h' : MtR X id r') : MtR X id (fun x xs H Q => r x xs H Q ∨ r' x xs H Q) := by
  intro pins s σ H x xs v us Q I rx rs q
  rcases q with q | q
  · exact h pins s σ H x xs v us Q I rx rs q
  · exact h' pins s σ H x xs v us Q I rx rs q
/-- a[b] -/
theorem pe_ix {r : R2} (hr : IxR X r) (ha : PE X a ta) (hb : PE X b tb) (hs : PlainIx b) : PE X (.Subscript a b pos) (tOp r ta tb) := by
  intro pins s σ H Q I h
  exact Subscript_ (binT ha hb I h fun v u s2 x y H2 I2 rx ry q => hr a b pins s2 σ H2 x y v u Q I2 rx ry q (hs _ _))

def rIxL (K : PySem.W.Frag) : R2 := fun x y H Q => ∃ p xs i v, x = .ref p ∧ y = .int i ∧ SqL K H p xs ∧ atI xs i = some v ∧ Q v H
def rIxT (K : PySem.W.Frag) : R2 := fun x y H Q => ∃ p xs i v, x = .ref p ∧ y = .int i ∧ SqT K H p xs ∧ atI xs i = some v ∧ Q v H
def rIxS : R2 := fun x y H Q => ∃ z i c, x = .str z ∧ y = .int i ∧ z.length ≤ sizeLine ∧ atI z.cps.toList i = some c ∧ Q (.str ⟨#[c]⟩) H
theorem ix_list : IxR X (rIxL X.K) := by
  intro value slice pins s σ H x y v u Q I rx ry h hs
  obtain ⟨p, xs, i, z, rfl, rfl, hq, he, q⟩ := h
  cases rx
  obtain ⟨t, rfl⟩ := ry
  obtain ⟨its, r, pl, hz⟩ := I.list hq
  obtain ⟨j, h1, h2, h3, h4, h5⟩ := atI_get he
  obtain ⟨w, ew, rw'⟩ := r.get h2
  have hl := r.length
  have hn := line63
  have fin : EP X pins σ Q w s := ⟨z, H, I, rw', q⟩
  by_cases h0 : 0 ≤ i
  · have hj : i.toNat = j := by
      rw [seqIndex_of h0 h5] at h1
      exact Option.some.inj h1
    exact item_listR pl.isList h0 (by omega) (by rw [hj]; simpa using ew) fin hs
  · have hj : (i + (its.toArray.size : Int)).toNat = j := by
      rw [seqIndex_neg (by omega) h4] at h1
      rw [List.size_toArray, ← hl]
      exact Option.some.inj h1
    exact subscriptTail_builtinR (x := w) pl.isList.typeIs slot_list_getitem.lookup
      (wpAny_getItem_list_neg (Q := fun r s' => r = w ∧ EP X pins σ Q r s') pl.isList (by omega) (by rw [List.size_toArray] <;> omega) (by omega) (by rw [hj]; simpa using ew) ⟨rfl, fin⟩) hs
theorem ix_tup : IxR X (rIxT X.K) := by
  intro value slice pins s σ H x y v u Q I rx ry h hs
  obtain ⟨p, xs, i, z, rfl, rfl, hq, he, q⟩ := h
  cases rx
  obtain ⟨t, rfl⟩ := ry
  obtain ⟨its, r, pl, hz⟩ := I.tuple hq
  obtain ⟨j, h1, h2, h3, h4, h5⟩ := atI_get he
  obtain ⟨w, ew, rw'⟩ := r.get h2
  have hl := r.length
  have hn := line63
  have fin : EP X pins σ Q w s := ⟨z, H, I, rw', q⟩
  exact subscriptTail_builtinR (x := w) pl.typeIs slot_tuple_getitem.lookup
    (getItem_tuple (j := j) (Q := fun r s' => r = w ∧ EP X pins σ Q r s') pl (by omega) (by omega) (by rw [List.size_toArray, ← hl]; exact h1) (by simpa using ew) ⟨rfl, fin⟩) hs
theorem ix_str : IxR X rIxS := by
  intro value slice pins s σ H x y v u Q I rx ry h hs
  obtain ⟨z, i, c, rfl, rfl, hz, he, q⟩ := h
  obtain ⟨t, rfl⟩ := rx
  obtain ⟨t', rfl⟩ := ry
  obtain ⟨j, h1, h2, h3, h4, h5⟩ := atI_get he
  have hl : z.cps.toList.length = z.length := by simp [Str.length]
  rw [hl] at h1 h4 h5
  have hn := line63
  exact tail_any (typeIs_str s z t) slot_str_getitem.lookup (getItem_str (c := c) (by
    have e1 : decide (i < -(2 ^ 63 : Int)) = false := decide_eq_false (by omega)
    have e2 : decide (i ≥ 2 ^ 63) = false := decide_eq_false (by omega)
    rw [e1, e2, Bool.or_false]) (by rw [h1]; simpa using h2) ⟨.str ⟨#[c]⟩, H, I.tok _, ⟨_, rfl⟩, q⟩) hs
/-- the list's object behind a store -/
theorem mapSeq_set (its : List Value) (n j : Nat) (u : Value) : Obj.mapSeq (·.setIfInBounds j u) { cls := .type "list", data := .seq its.toArray n } = { cls := .type "list", data := .seq (its.set j u).toArray n } := by
  simp [Obj.mapSeq]
theorem Inv.lst {pins : List (Addr × Obj)} {σ : St} {H : Hp} {s : Shared} {p : Addr} {xs : List V} (I : Inv X pins σ H s) (h : H p = some (.lst xs)) :
    ∃ (its : List Value) (n : Nat), Vals xs its ∧ s.heap.get? p = some { cls := .type "list", data := .seq its.toArray n } ∧ xs.length ≤ sizeLine := by
  obtain ⟨z, its, n, r, e⟩ := I.hok p _ h
  exact ⟨its, n, r, e, z⟩
/-- the list at p is written by an update of its object -/
theorem Inv.lstUpd {pins : List (Addr × Obj)} {σ : St} {H : Hp} {s : Shared} {p : Addr} {xs ys : List V} {its its' : List Value} {n n' : Nat} {f : Obj → Obj} (I : Inv X pins σ H s) (h : H p = some (.lst xs))
    (ho : s.heap.get? p = some { cls := .type "list", data := .seq its.toArray n }) (hf : f { cls := .type "list", data := .seq its.toArray n } = { cls := .type "list", data := .seq its'.toArray n' }) (r : Vals ys its') (hz : ys.length ≤ sizeLine) (t : Nat) :
    Inv X pins σ (upd H p (.lst ys)) { s with heap := s.heap.update p f, toks := t } := by
  have e : (s.heap.update p f).get? p = some { cls := .type "list", data := .seq its'.toArray n' } := by
    rw [Heap.get?_update_self f ho (by rw [hf] <;> rfl), hf]
  refine I.write (x := p) (e := p) (by rw [h]; trivial) (.inl rfl) (fun b u hb q => (Heap.get?_update_other _ _ (Ne.symm hb)).trans q) ⟨_, e⟩ ?_
  exact ⟨hz, its', n', r, e⟩
def rSetL : V → V → V → Hp → (Hp → Prop) → Prop := fun o i v H Q => ∃ p xs k j, o = .ref p ∧ i = .int k ∧ H p = some (.lst xs) ∧ ixN xs.length k = some j ∧ Q (upd H p (.lst (xs.set j v)))
theorem set_list : PSet X rSetL := by
  intro pins s σ H o i v ov iv u Q I ro ri rv h
  obtain ⟨p, xs, k, j, rfl, rfl, hp, hj, q⟩ := h
  cases ro
  obtain ⟨t, rfl⟩ := ri
  obtain ⟨its, n, r, ho, hz⟩ := I.lst hp
  obtain ⟨h1, h2, h3, h4⟩ := ixN_seq hj
  have hl := r.length
  have hn := line63
  have I' : Inv X pins σ (upd H p (.lst (xs.set j v))) { s with heap := s.heap.update p (Obj.mapSeq (·.setIfInBounds j u)) } :=
    I.lstUpd hp ho (mapSeq_set its n j u) (r.set rv j) (by rw [List.length_set]; exact hz) s.toks
  by_cases h0 : 0 ≤ k
  · have hk : k.toNat = j := by
      rw [seqIndex_of h0 h4] at h1
      exact Option.some.inj h1
    exact PySem.W.ki_setAt ho h0 (by omega) (by rw [List.size_toArray, ← hl]; exact h4) (by rw [hk]; exact ⟨_, I', q⟩)
  · have hk : (k + (its.toArray.size : Int)).toNat = j := by
      rw [seqIndex_neg (by omega) h3] at h1
      rw [List.size_toArray, ← hl]
      exact Option.some.inj h1
    exact PySem.W.ki_setBack ho (by omega) (by rw [List.size_toArray, ← hl]; exact h3) (by omega) (by rw [hk]; exact ⟨_, I', q⟩)

theorem slice_bounds (lo hi : Option Int) (n : Nat) : (sliceBounds lo hi none n).1 = ((HT.sIx n 0 lo : Nat) : Int) ∧ (sliceBounds lo hi none n).2.1 = ((HT.sIx n n hi : Nat) : Int) ∧ (sliceBounds lo hi none n).2.2 = 1 := by
  refine ⟨?_, ?_, rfl⟩
  · cases lo with
    | none => simp [sliceBounds, HT.sIx]
    | some i =>
      simp only [sliceBounds, HT.sIx, Option.getD_none, show (1 : Int) > 0 by decide, if_true]
      by_cases h : i < 0
      · simp only [h, if_true] <;> omega
      · simp only [h, if_false] <;> omega
  · cases hi with
    | none => simp [sliceBounds, HT.sIx]
    | some i =>
      simp only [sliceBounds, HT.sIx, Option.getD_none, show (1 : Int) > 0 by decide, if_true]
      by_cases h : i < 0
      · simp only [h, if_true] <;> omega
      · simp only [h, if_false] <;> omega
theorem slicePick_cut (its : List Value) (lo hi : Option Int) : slicePick its.toArray lo hi none = ((its.drop (HT.sIx its.length 0 lo)).take (HT.sIx its.length its.length hi - HT.sIx its.length 0 lo)).toArray := by
  obtain ⟨h1, h2, h3⟩ := slice_bounds lo hi its.toArray.size
  unfold slicePick
  rw [h1, h2, h3]
  simp only [sliceRange_one, pick_run, List.size_toArray] <;> rfl
/-- xs[lo:hi] of a list: a new list -/
def rSlL (K : PySem.W.Frag) : V → Option Int → Option Int → Hp → VK → Prop := fun x lo hi H Q => ∃ a xs, x = .ref a ∧ SqL K H a xs ∧ ∀ p, H p = none → Q (.ref p) (upd H p (.lst (cutV xs lo hi)))
theorem sl_list : SlR X (rSlL X.K) := by
  intro pins s σ H x v vl vu lo hi sl Q I rx hs pl pu h
  obtain ⟨a, xs, rfl, hx, q⟩ := h
  cases rx
  obtain ⟨its, r, ht, hz⟩ := I.list hx
  have hlen := r.length
  refine ⟨"list", _, slot_list_getitem.lookup, ht.isList.typeIs, ?_⟩
  refine wpAny_getItem_list_slice ht.isList hs pl pu .none (by simp) ?_ (by rw [List.size_toArray] <;> omega)
  rw [slicePick_cut, ← hlen]
  refine ⟨.ref s.heap.objs.size, _, I.laid (t' := s.toks) (o := .lst (cutV xs lo hi)) (fun b ob q => Heap.get?_push_of_some _ q) (Nat.le_refl _) ?_, rfl, q _ (I.hok.fresh (Nat.le_refl _))⟩
  exact ⟨Nat.le_trans (cutV_length xs lo hi) hz, _, 0, (r.drop (HT.sIx xs.length 0 lo)).take (HT.sIx xs.length xs.length hi - HT.sIx xs.length 0 lo), Heap.get?_push_size _ rfl⟩

def flatV : V → Bool
  | .non => true
  | .bl _ => true
  | .int _ => true
  | .str _ => true
  | _ => false
/-- == of flat values -/
def eqV : V → V → Bool
  | .non, .non => true
  | .bl a, .bl b => a == b
  | .bl a, .int b => (if a then 1 else 0) == b
  | .int a, .bl b => a == (if b then 1 else 0)
  | .int a, .int b => a == b
  | .str a, .str b => a == b
  | _, _ => false
theorem CallR.or {f : Value} {r r' : List V → Hp → VK → Prop} (h : CallR X f r) (h' : CallR X f r') : CallR X f (fun xs H Q => r xs H Q ∨ r' xs H Q) := by
  intro pins s σ H xs us Q I rs q
  rcases q with q | q
  · exact h pins s σ H xs us Q I rs q
  · exact h' pins s σ H xs us Q I rs q
theorem call_list_of : CallR X (.type "list") (fun xs H Q => ∃ p ys, xs = [.ref p] ∧ (SqL X.K H p ys ∨ SqT X.K H p ys) ∧ ∀ l, H l = none → Q (.ref l) (upd H l (.lst ys))) := by
  intro pins s σ H xs us Q I r h
  obtain ⟨p, ys, rfl, hq, q⟩ := h
  obtain ⟨u, rfl, rx⟩ := vals1 r
  cases rx
  have fin : ∀ (its : List Value), Vals ys its → ys.length ≤ sizeLine → ∀ (h' : Heap) (c' : Nat), (∀ b o', s.heap.get? b = some o' → h'.get? b = some o') →
      h'.get? s.heap.objs.size = some { cls := .type "list", dict := none, data := .seq its.toArray c', slots := #[] } → EP X pins σ Q (.ref s.heap.objs.size) { s with heap := h' } := fun its r' hz h' c' kp e =>
    ⟨.ref s.heap.objs.size, _, I.laid (t' := s.toks) kp (Nat.le_refl _) (show ObjOk X.prog X.w _ h' _ (.lst ys) from ⟨hz, its, c', r', e⟩), rfl, q _ (I.hok.fresh (Nat.le_refl _))⟩
  rcases hq with hq | hq
  · obtain ⟨its, r', pl, hz⟩ := I.list hq
    have hlen := r'.length
    obtain ⟨o, ho, hc, n, hd⟩ := pl.isList
    exact call_list_seq p (.inl rfl) ho hc hd (fun h' c' kp e => fin its r' hz h' c' kp e) (by simp only [List.size_toArray] <;> omega)
  · obtain ⟨its, r', pl, hz⟩ := I.tuple hq
    have hlen := r'.length
    obtain ⟨o, ho, hc, n, hd⟩ := pl
    exact call_list_seq p (.inr rfl) ho hc hd (fun h' c' kp e => fin its r' hz h' c' kp e) (by simp only [List.size_toArray] <;> omega)
/-- the value is of that builtin type -/
def tyV (K : PySem.W.Frag) (T : String) (x : V) (H : Hp) : Prop := match x with
  | .str _ => T = "str"
  | .int _ => T = "int"
  | .ref p => (T = "list" ∧ ∃ xs, SqL K H p xs) ∨ (T = "tuple" ∧ ∃ o, K.lookup p = some o ∧ o.cls = .type "tuple" ∧ o.dict = none) ∨
      (T = "dict" ∧ ((∃ kvs, H p = some (.dK kvs)) ∨ ∃ kvs, H p = some (.dT kvs))) ∨ (T = "set" ∧ ∃ S n, H p = some (.set S n))
  | _ => False
theorem tyV_is {pins : List (Addr × Obj)} {σ : St} {H : Hp} {s : Shared} {T : String} {x : V} {v : Value} (I : Inv X pins σ H s) (r : RelV x v) (ty : tyV X.K T x H) :
    s.TypeIs v T ∧ ∀ a, v = .ref a → ∃ ob, s.heap.get? a = some ob ∧ ob.dict = none := by
  cases x with
  | str z =>
    obtain ⟨t, rfl⟩ := r
    cases (show T = "str" from ty)
    exact ⟨typeIs_str s z t, fun _ e => nomatch e⟩
  | int i =>
    obtain ⟨t, rfl⟩ := r
    cases (show T = "int" from ty)
    exact ⟨typeIs_int s i t, fun _ e => nomatch e⟩
  | ref p =>
    cases r
    rcases ty with ⟨rfl, xs, hq⟩ | ⟨rfl, o, hk, hc, hd⟩ | ⟨rfl, hk⟩ | ⟨rfl, S, n, hk⟩
    · obtain ⟨its, _, pl, _⟩ := I.list hq
      refine ⟨pl.isList.typeIs, fun a e => ?_⟩
      cases e
      obtain ⟨o, n, e, c, hd, _⟩ := pl
      exact ⟨o, e, hd⟩
    · refine ⟨⟨o, I.kIn p o hk, hc⟩, fun a e => ?_⟩
      cases e
      exact ⟨o, I.kIn _ o hk, hd⟩
    · have z : ∃ o, s.heap.get? p = some o ∧ o.ExactDict := by
        rcases hk with ⟨kvs, hk⟩ | ⟨kvs, hk⟩
        · obtain ⟨_, _, _, _, o, _, _, e, ex, _⟩ := I.hok p _ hk
          exact ⟨o, e, ex⟩
        · obtain ⟨_, _, _, _, o, _, _, e, ex, _⟩ := I.hok p _ hk
          exact ⟨o, e, ex⟩
      obtain ⟨o, e, ex⟩ := z
      refine ⟨⟨o, e, ex.1⟩, fun a e2 => ?_⟩
      cases e2
      exact ⟨o, e, ex.2.1⟩
    · obtain ⟨o, _, _, _, e, ex, _⟩ := I.hok p _ hk
      refine ⟨⟨o, e, ex.1⟩, fun a e2 => ?_⟩
      cases e2
      exact ⟨o, e, ex.2.1⟩
  | _ => exact False.elim ty
def tBM (K : PySem.W.Frag) (T : String) (r : V → List V → Hp → VK → Prop) (to : TE) (t : TA) : TE := fun σ H Q => to σ H fun x H1 => tyV K T x H1 ∧ t σ H1 fun xs H2 => r x xs H2 Q
variable {o e : Expr} {es : List Expr} {to : TE} {t : TA} {name : Str} {apos cpos : Pos} {T id : String} {r : V → List V → Hp → VK → Prop}
theorem pe_bm (pa : PlainAttrs T) (slot : Slot T name id) (hty : typeOf (.builtin id) = pure (.type "method_descriptor")) (hm : MtR X id r) (ho : PE X o to) (ha : PA X (e :: es) t)
    (hbase : attributeBase o name X.env (eval o X.env) = eval o X.env := by rfl)
    (hfew : ((backTo cpos (starEach (e :: es) X.env)).all (fun x => !x.1) && (backToKw cpos (keywordEach [] X.env)).all (fun x => x.1.isSome)
      && decide ((e :: es).length + ([] : List Keyword).length + (if ([] : List Keyword).isEmpty then 0 else 1) < 30)) = true := by rfl)
    (hline : (apos.endLine == cpos.line) = true := by rfl) (hs : starEach (e :: es) X.env = (false, eval e X.env) :: starEach es X.env := by rfl) (hplain : (backTo cpos (starEach es X.env)).any (·.1) = false := by rfl) :
    PE X (.Call (.Attribute o name apos) (e :: es) [] cpos) (tBM X.K T r to t) := by
  intro pins s σ H Q I h
  refine wpAny_Call_method_late hbase hfew hline rfl (thn (ho pins s σ H _ I h) fun v s1 ⟨x, H1, I1, r1, ty, q1⟩ => ?_)
  obtain ⟨h1, h2⟩ := tyV_is I1 r1 ty
  refine ⟨T, id, pa, slot, hty, h1, h2, ?_⟩
  have hA := ha cpos pins s1 σ H1 _ I1 q1
  rw [hs] at hA ⊢
  refine Calls.callWith_builtin (by show (false || (backTo cpos (starEach es X.env)).any (·.1)) = false; rw [hplain] <;> rfl) (Calls.evalArgs_plain ?_)
  exact thn hA fun us s2 ⟨vs, H2, I2, r2, q2⟩ => hm pins s2 σ H2 x vs v us Q I2 r1 r2 q2
/- xs.append(e), list.index on a module's tuple .. are MtR facts of 06m -/
end
end L2

namespace L2
open PySem PySem.Spec PyProof.Rows

def MtM (X : Cx) (id : String) (r : V → List V → Hp → VK → Prop) : Prop :=
  ∀ (pins : List (Addr × Obj)) (s : Shared) (σ : St) (H : Hp) (x : V) (xs : List V) (v : Value) (us : List Value) (Q : VK), Inv X pins σ H s → RelV x v → Vals xs us → r x xs H Q →
    wpAny (model X.prog X.w) X.A (call (.builtin id) (v :: us)) (EP X pins σ Q) X.xe s

theorem Vals.one : ∀ {x : V} {us : List Value}, Vals [x] us → ∃ u, us = [u] ∧ RelV x u
  | _, _, .cons r .nil => ⟨_, rfl, r⟩
theorem Vals.two : ∀ {x y : V} {us : List Value}, Vals [x, y] us → ∃ u v, us = [u, v] ∧ RelV x u ∧ RelV y v
  | _, _, _, .cons r (.cons q .nil) => ⟨_, _, rfl, r, q⟩
theorem Vals.zero : ∀ {us : List Value}, Vals [] us → us = []
  | _, .nil => rfl
theorem Vals.reverse {xs : List V} {us : List Value} (h : Vals xs us) : Vals xs.reverse us.reverse := by
  induction h with
  | nil => exact .nil
  | cons r t ih => rw [List.reverse_cons, List.reverse_cons]; exact Vals.append ih (.cons r .nil)
theorem Vals.rep {xs : List V} {us : List Value} (h : Vals xs us) : ∀ k : Nat, Vals (List.replicate k xs).flatten (List.replicate k us).flatten
  | 0 => .nil
  | k + 1 => by
    rw [List.replicate_succ, List.replicate_succ, List.flatten_cons, List.flatten_cons]
    exact Vals.append h (Vals.rep h k)
theorem foldl_rep (its : List Value) : ∀ (k : Nat) (acc : List Value),
    List.foldl (fun x1 x2 => x1 ++ x2) acc.toArray (List.replicate k its.toArray) = (acc ++ (List.replicate k its).flatten).toArray
  | 0, acc => by simp
  | k + 1, acc => by
    have e : acc.toArray ++ its.toArray = (acc ++ its).toArray := by simp
    have e2 : (acc ++ its) ++ (List.replicate k its).flatten = acc ++ (List.replicate (k + 1) its).flatten := by
      rw [List.replicate_succ, List.flatten_cons, List.append_assoc]
    rw [← e2, ← foldl_rep its k (acc ++ its), ← e, List.replicate_succ, List.foldl_cons]

section
variable {X : Cx} {pins : List (Addr × Obj)} {σ : St} {H : Hp} {s : Shared} {l b : Addr} {xs ys zs : List V}

theorem Inv.lset {its its' : List Value} {n : Nat} {f : Array Value → Array Value} {t' : Nat} (I : Inv X pins σ H s) (hH : H l = some (.lst xs))
    (e : s.heap.get? l = some { cls := .type "list", data := .seq its.toArray n }) (hf : f its.toArray = its'.toArray) (hv : Vals ys its') (hz : ys.length ≤ sizeLine) :
    Inv X pins σ (upd H l (.lst ys)) { s with heap := s.heap.update l (Obj.mapSeq f), toks := t' } := by
  have q := PySem.IsL.update e f
  rw [hf] at q
  refine I.write (x := l) (e := l) (by rw [hH]; exact trivial) (.inl rfl) (fun b' u hb hu => (Heap.get?_update_other s.heap (Obj.mapSeq f) (Ne.symm hb)).trans hu) ⟨_, q⟩ ?_
  exact ⟨hz, its', _, hv, q⟩
theorem Inv.lnew {its : List Value} {t' : Nat} (I : Inv X pins σ H s) (hv : Vals ys its) (hz : ys.length ≤ sizeLine) :
    Inv X pins σ (upd H s.heap.objs.size (.lst ys)) { s with heap := s.heap.push { cls := .type "list", data := .seq its.toArray }, toks := t' } :=
  I.laid (fun _ _ q => Heap.get?_push_of_some _ q) (Nat.le_refl _) ⟨hz, its, 0, hv, Heap.get?_push_size _ rfl⟩
theorem Inv.fresh (I : Inv X pins σ H s) : H s.heap.objs.size = none := I.hok.fresh (Nat.le_refl _)
theorem Inv.lstM (I : Inv X pins σ H s) (hH : H l = some (.lst xs)) : xs.length ≤ sizeLine ∧ ∃ (its : List Value) (n : Nat), Vals xs its ∧ xs.length = its.length ∧ s.heap.get? l = some { cls := .type "list", data := .seq its.toArray n } := by
  obtain ⟨z, its, n, r, e⟩ := I.hok l _ hH
  exact ⟨z, its, n, r, r.length, e⟩

theorem notLongL {n : Nat} (h : n ≤ sizeLine) : Builtin.List.listTooLong n = false := by
  unfold Builtin.List.listTooLong
  exact decide_eq_false (by omega)
end

section
variable {X : Cx}

def rAppend : V → List V → Hp → VK → Prop := fun x vs H Q => ∃ l xs y, x = .ref l ∧ vs = [y] ∧ H l = some (.lst xs) ∧ xs.length < sizeLine ∧ Q .non (upd H l (.lst (xs ++ [y])))
theorem mt_append : MtM X "list.append" rAppend := by
  intro pins s σ H x vs v us Q I rx rv h
  obtain ⟨l, xs, y, rfl, rfl, hH, hz, q⟩ := h
  cases rx
  obtain ⟨u, rfl, ru⟩ := rv.one
  obtain ⟨z, its, n, r, hl, e⟩ := I.lstM hH
  refine call_meets F.slot_list_append ⟨_, e, rfl⟩ F.entry_list_append (F.args_list_append_2 _ _) (PySem.list_append l its.toArray n u (by rw [List.size_toArray]; omega)) ⟨e, ?_⟩
  refine ⟨.non, _, I.lset (its' := its ++ [u]) hH e (by simp) (r.append (.cons ru .nil)) ?_, rfl, q⟩
  rw [List.length_append, List.length_singleton]
  omega

def rCat : R2 := fun x y H Q => ∃ l b xs zs, x = .ref l ∧ y = .ref b ∧ H l = some (.lst xs) ∧ H b = some (.lst zs) ∧ xs.length + zs.length ≤ sizeLine ∧ ∀ p, H p = none → Q (.ref p) (upd H p (.lst (xs ++ zs)))
theorem op_cat : OpR X (binaryOp .Add) rCat := by
  intro pins s σ H x y v u Q I rx ry h
  obtain ⟨l, b, xs, zs, rfl, rfl, hH, hB, hz, q⟩ := h
  cases rx
  cases ry
  obtain ⟨z, its, n, r, hl, e⟩ := I.lstM hH
  obtain ⟨z2, its2, n2, r2, hl2, e2⟩ := I.lstM hB
  refine PySem.P.add_list e e2 ?_ (by rw [List.size_toArray, List.size_toArray]; omega)
  have ea : its.toArray ++ its2.toArray = (its ++ its2).toArray := by simp
  rw [ea]
  exact ⟨.ref _, _, I.lnew (t' := s.toks) (r.append r2) (by rw [List.length_append]; omega), rfl, q _ I.fresh⟩
/-- a list times an int (a negative one is nothing) -/
def rRep : R2 := fun x y H Q => ∃ l k xs, x = .ref l ∧ y = .int k ∧ H l = some (.lst xs) ∧ -(2 ^ 63) ≤ k ∧ k < 2 ^ 63 ∧ xs.length * k.toNat ≤ sizeLine ∧
  ∀ p, H p = none → Q (.ref p) (upd H p (.lst (List.replicate k.toNat xs).flatten))
theorem len_rep {α : Type} (xs : List α) (k : Nat) : (List.replicate k xs).flatten.length = k * xs.length := by
  induction k with
  | zero => simp
  | succ k ih => rw [List.replicate_succ, List.flatten_cons, List.length_append, ih, Nat.succ_mul, Nat.add_comm]
theorem op_rep : OpR X (binaryOp .Mult) rRep := by
  intro pins s σ H x y v u Q I rx ry h
  obtain ⟨l, k, xs, rfl, rfl, hH, h1, h2, hz, q⟩ := h
  cases rx
  obtain ⟨t, rfl⟩ := ry
  obtain ⟨z, its, n, r, hl, e⟩ := I.lstM hH
  have hlen : its.toArray.size * k.toNat ≤ sizeLine := by rw [List.size_toArray, ← hl]; exact hz
  have hcap : ¬ its.toArray.size * k.toNat > (2 ^ 63 - 1) / 8 := by
    have : (sizeLine : Nat) ≤ (2 ^ 63 - 1) / 8 := by decide
    omega
  have hfit : ¬ (!Builtin.List.listFitsIndex k) = true := by
    rw [fitsIndex_both h1 h2]
    exact Bool.false_ne_true
  have hlong : ¬ Builtin.List.listTooLong (its.toArray.size * k.toNat) = true := by
    rw [notLongL hlen]
    exact Bool.false_ne_true
  have hnew : List.foldl (fun x1 x2 => x1 ++ x2) #[] (List.replicate (if its.toArray.isEmpty = true then 0 else k.toNat) its.toArray) = (List.replicate k.toNat its).flatten.toArray := by
    have f0 : ∀ m : Nat, List.foldl (fun x1 x2 => x1 ++ x2) #[] (List.replicate m its.toArray) = (List.replicate m its).flatten.toArray := fun m => by
      have := foldl_rep its m []
      rw [List.nil_append] at this
      exact this
    rw [f0]
    cases its with
    | nil => simp
    | cons a r' => rw [if_neg (by simp)]
  refine wpAny_binaryOp_repeat_ref (T := "list") (U := "int") (by decide) ⟨_, e, rfl⟩ (fun s' => typeIs_int s' k t) noFill_list_mul F.fills_int_mul F.slot_int_rmul repeat_list F.slot_int_index.lookup
    (call_meets F.slot_int_rmul (typeIs_int s k t) F.entry_int_rmul (F.args_int_rmul_2 _ _) (int___rmul___int_list k t l its.toArray n)
      ⟨e, rfl, ⟨_, e, rfl⟩, call_meets F.slot_list_mul ⟨_, e, rfl⟩ F.entry_list_mul (F.args_list_mul_2 _ _) (AutoListH.list___mul___list_int_3 l its.toArray n k t hfit hcap hlong) ⟨e, ?_⟩⟩)
  rw [hnew]
  exact ⟨.ref _, _, I.lnew (t' := s.toks) (r.rep k.toNat) (by rw [len_rep, Nat.mul_comm]; exact hz), rfl, q _ I.fresh⟩

end

section
variable {prog : Program} {w : World} {A : Around} {E : Value → Shared → Prop} {s : Shared}
end

section
variable {X : Cx}
end
end L2

namespace L2
open PySem PySem.Spec PyProof.Rows

section
variable {κ : Type} [DecidableEq κ]
def valV (kvs : List (κ × V)) (k : κ) : Option V := (kvs.find? fun kv => decide (kv.1 = k)).map (·.2)
/-- in its place, or at the end -/
def putK (kvs : List (κ × V)) (k : κ) (v : V) : List (κ × V) :=
  if (kvs.any fun kv => decide (kv.1 = k)) = true then kvs.map (fun kv => if kv.1 = k then (kv.1, v) else kv) else kvs ++ [(k, v)]
def dropK (kvs : List (κ × V)) (k : κ) : List (κ × V) := kvs.filter fun kv => decide (kv.1 ≠ k)

theorem valV_pos {p : κ × V} {r : List (κ × V)} {k : κ} (e : p.1 = k) : valV (p :: r) k = some p.2 := by simp [valV, List.find?_cons, e]
theorem valV_neg {p : κ × V} {r : List (κ × V)} {k : κ} (e : ¬ p.1 = k) : valV (p :: r) k = valV r k := by simp [valV, List.find?_cons, e]
theorem valV_any (k : κ) : ∀ kvs : List (κ × V), (kvs.any fun kv => decide (kv.1 = k)) = (valV kvs k).isSome
  | [] => rfl
  | p :: r => by
    rw [List.any_cons]
    by_cases e : p.1 = k
    · simp only [valV_pos e, decide_eq_true e, Bool.true_or, Option.isSome_some]
    · rw [valV_neg e, decide_eq_false e, Bool.false_or]; exact valV_any k r
theorem length_putK (kvs : List (κ × V)) (k : κ) (v : V) : (putK kvs k v).length ≤ kvs.length + 1 := by
  unfold putK
  split
  · rw [List.length_map]; omega
  · rw [List.length_append, List.length_cons, List.length_nil]; omega
theorem RelO.isSome_eq {o : Option V} {u : Option Value} (r : RelO o u) : o.isSome = u.isSome := by
  cases o with
  | none => cases u with
    | none => rfl
    | some _ => exact (show False from r).elim
  | some _ => cases u with
    | none => exact (show False from r).elim
    | some _ => rfl
theorem RelO.getD {o : Option V} {u : Option Value} {d : V} {d' : Value} (r : RelO o u) (rd : RelV d d') : RelV (o.getD d) (u.getD d') := by
  cases o with
  | none => cases u with
    | none => exact rd
    | some _ => exact (show False from r).elim
  | some _ => cases u with
    | none => exact (show False from r).elim
    | some _ => exact r

/-- raw tables of the same keys -/
theorem KV.val {kvs : List (κ × V)} {vs : List (κ × Value)} (r : KV kvs vs) (k : κ) : RelO (valV kvs k) (valueAt vs k) := by
  unfold KV at r
  induction r with
  | nil => exact True.intro
  | @cons p q ps qs h t ih =>
    obtain ⟨h1, h2⟩ := h
    by_cases e : p.1 = k
    · have e' : q.1 = k := h1.symm.trans e
      have b : valueAt (q :: qs) k = some q.2 := by simp [valueAt, List.find?_cons, e']
      rw [valV_pos e, b]; exact h2
    · have e' : ¬ q.1 = k := fun z => e (h1.trans z)
      have b : valueAt (q :: qs) k = valueAt qs k := by simp [valueAt, List.find?_cons, e']
      rw [valV_neg e, b]; exact ih
theorem KV.any {kvs : List (κ × V)} {vs : List (κ × Value)} (r : KV kvs vs) (k : κ) : (kvs.any fun kv => decide (kv.1 = k)) = vs.any fun kv => decide (kv.1 = k) := by
  unfold KV at r
  induction r with
  | nil => rfl
  | cons h t ih => rw [List.any_cons, List.any_cons, ih, h.1]
theorem KV.repl {kvs : List (κ × V)} {vs : List (κ × Value)} (r : KV kvs vs) (k : κ) {y : V} {u : Value} (ry : RelV y u) :
    KV (kvs.map fun kv => if kv.1 = k then (kv.1, y) else kv) (vs.map fun kv => if kv.1 = k then (kv.1, u) else kv) := by
  unfold KV at r ⊢
  induction r with
  | nil => exact .nil
  | @cons p q ps qs h t ih =>
    rw [List.map_cons, List.map_cons]
    refine .cons ?_ ih
    obtain ⟨h1, h2⟩ := h
    by_cases e : p.1 = k
    · rw [if_pos e, if_pos (h1.symm.trans e)]; exact ⟨h1, ry⟩
    · rw [if_neg e, if_neg (fun z => e (h1.trans z))]; exact ⟨h1, h2⟩
theorem KV.put {kvs : List (κ × V)} {vs : List (κ × Value)} (r : KV kvs vs) (k : κ) {y : V} {u : Value} (ry : RelV y u) : KV (putK kvs k y) (stored vs k u) := by
  unfold putK stored
  rw [r.any k]
  by_cases e : (vs.any fun kv => decide (kv.1 = k)) = true
  · rw [if_pos e, if_pos e]; exact r.repl k ry
  · rw [if_neg e, if_neg e]; exact Paired.snoc r ⟨rfl, ry⟩
theorem KV.drop {kvs : List (κ × V)} {vs : List (κ × Value)} (r : KV kvs vs) (k : κ) : KV (dropK kvs k) (without vs k) := by
  unfold KV at r ⊢
  unfold dropK without
  induction r with
  | nil => exact .nil
  | @cons p q ps qs h t ih =>
    obtain ⟨h1, h2⟩ := h
    rw [List.filter_cons, List.filter_cons]
    by_cases e : p.1 = k
    · have a : ¬ decide (p.1 ≠ k) = true := by simp [e]
      have b : ¬ decide (q.1 ≠ k) = true := by simp [h1.symm.trans e]
      rw [if_neg a, if_neg b]; exact ih
    · have e' : ¬ q.1 = k := fun z => e (h1.trans z)
      have a : decide (p.1 ≠ k) = true := by simp [e]
      have b : decide (q.1 ≠ k) = true := by simp [e']
      rw [if_pos a, if_pos b]; exact .cons ⟨h1, h2⟩ ih
theorem KV.keys {kvs : List (κ × V)} {vs : List (κ × Value)} (r : KV kvs vs) : kvs.map (·.1) = vs.map (·.1) := by
  unfold KV at r
  induction r with
  | nil => rfl
  | cons h t ih => rw [List.map_cons, List.map_cons, ih, h.1]
theorem KV.length {kvs : List (κ × V)} {vs : List (κ × Value)} (r : KV kvs vs) : kvs.length = vs.length := Paired.length r
end


theorem kV_is {P : Program} {w : World} {k : Key} {u : Value} (r : RelV (kV k) u) : (mixKind P w).is k u = true := by
  cases k with
  | inl i => obtain ⟨t, e⟩ := (show ∃ t, u = Value.int i t from r); subst e; exact mixKind_int P w i t
  | inr x => obtain ⟨t, e⟩ := (show ∃ t, u = Value.str x t from r); subst e; exact mixKind_str P w x t
theorem items_are {P : Program} {w : World} : ∀ {ks : List Key} {us : List Value}, Vals (ks.map kV) us → ItemsAre (mixKind P w) ks us
  | [], _, r => by rw [List.map_nil] at r; cases r; exact .nil
  | k :: ks, _, r => by
    rw [List.map_cons] at r
    cases r with
    | cons h t => exact .cons (kV_is h) (items_are t)

/-- raw entries of a dict with tuple keys -/
abbrev KT (H : Hp) : List (List Key × V) → List (List Key × Addr × Value) → Prop := Paired fun p q => p.1 = q.1 ∧ H q.2.1 = some (.tup (p.1.map kV)) ∧ RelV p.2 q.2.2
theorem KT.val {H : Hp} {kvs : List (List Key × V)} {xs : List (List Key × Addr × Value)} (r : KT H kvs xs) (k : List Key) : RelO (valV kvs k) ((atKey xs k).map (·.2)) := by
  induction r with
  | nil => exact True.intro
  | @cons p q ps qs h t ih =>
    obtain ⟨h1, _, h2⟩ := h
    by_cases e : p.1 = k
    · have e' : q.1 = k := h1.symm.trans e
      have b : atKey (q :: qs) k = some q.2 := by simp [atKey, List.find?_cons, e']
      rw [valV_pos e, b]; exact h2
    · have e' : ¬ q.1 = k := fun z => e (h1.trans z)
      have b : atKey (q :: qs) k = atKey qs k := by simp [atKey, List.find?_cons, e']
      rw [valV_neg e, b]; exact ih
theorem KT.repl {H : Hp} {kvs : List (List Key × V)} {xs : List (List Key × Addr × Value)} (r : KT H kvs xs) (k : List Key) {y : V} {u : Value} (ry : RelV y u) :
    KT H (kvs.map fun kv => if kv.1 = k then (kv.1, y) else kv) (xs.map (putAt k u)) := by
  induction r with
  | nil => exact .nil
  | @cons p q ps qs h t ih =>
    rw [List.map_cons, List.map_cons]
    refine .cons ?_ ih
    obtain ⟨h1, h2, h3⟩ := h
    unfold putAt
    by_cases e : p.1 = k
    · rw [if_pos e, if_pos (h1.symm.trans e)]; exact ⟨h1, h2, ry⟩
    · rw [if_neg e, if_neg (fun z => e (h1.trans z))]; exact ⟨h1, h2, h3⟩
theorem KT.put {H : Hp} {kvs : List (List Key × V)} {xs : List (List Key × Addr × Value)} (r : KT H kvs xs) (k : List Key) {b : Addr} {y : V} {u : Value} (hb : H b = some (.tup (k.map kV))) (ry : RelV y u) :
    KT H (putK kvs k y) (storedH xs k b u) := by
  have e : (kvs.any fun kv => decide (kv.1 = k)) = (atKey xs k).isSome := by
    rw [valV_any, (r.val k).isSome_eq, Option.isSome_map]
  unfold putK storedH
  rw [e]
  by_cases q : (atKey xs k).isSome = true
  · rw [if_pos q, if_pos q]; exact r.repl k ry
  · rw [if_neg q, if_neg q]; exact Paired.snoc r ⟨rfl, hb, ry⟩
theorem KT.keeps {H H' : Hp} {kvs : List (List Key × V)} {xs : List (List Key × Addr × Value)} (r : KT H kvs xs) (ht : ∀ b ys, H b = some (.tup ys) → H' b = some (.tup ys)) : KT H' kvs xs :=
  Paired.mapP r fun _ _ z => ⟨z.1, ht _ _ z.2.1, z.2.2⟩

section
variable {P : Program} {w : World} {H : Hp} {h : Heap} {a : Addr}
theorem rd_of {u : HO} (ok : HOk P w H h) (e : Rd H a u) : ObjOk P w H h a u := e.ok ok
theorem dk_rd {kvs : List (Key × V)} (ok : HOk P w H h) (e : Rd H a (.dK kvs)) : kvs.length ≤ sizeLine ∧ (a == sysModules) = false ∧ ∃ vs, KV kvs vs ∧ h.DictOf (mixKind P w) a vs :=
  show ObjOk P w H h a (.dK kvs) from rd_of ok e
theorem dk_of {kvs : List (Key × V)} (ok : HOk P w H h) (e : H a = some (.dK kvs)) : kvs.length ≤ sizeLine ∧ (a == sysModules) = false ∧ ∃ vs, KV kvs vs ∧ h.DictOf (mixKind P w) a vs := dk_rd ok (.inl e)
/-- a tracked tuple of ints and texts is a key -/
theorem key_of {ks : List Key} (ok : HOk P w H h) (e : H a = some (.tup (ks.map kV))) : (tupleKind (mixKind P w)).is h ks a := by
  obtain ⟨_, its, r, o, h1, h2, n, h3⟩ := (show ObjOk P w H h a (.tup (ks.map kV)) from ok a _ e)
  exact ⟨o, its.toArray, n, h1, h2, h3, by simpa using items_are r⟩
theorem dt_rd {kvs : List (List Key × V)} (ok : HOk P w H h) (e : Rd H a (.dT kvs)) : kvs.length ≤ sizeLine ∧ (a == sysModules) = false ∧
    ∃ xs, KT H kvs xs ∧ h.DictOfH (tupleKind (mixKind P w)) a xs := by
  obtain ⟨z, y, xs, r, o, es, ep, h1, h2, h3, h4, h5⟩ := (show ObjOk P w H h a (.dT kvs) from rd_of ok e)
  refine ⟨z, y, xs, r, o, es, ep, h1, h2, h3, h4, fun x hx => ?_, h5⟩
  have all : ∀ {l : List (List Key × V)} {m : List (List Key × Addr × Value)}, KT H l m → ∀ x ∈ m, (tupleKind (mixKind P w)).is h x.1 x.2.1 := by
    intro l m q
    induction q with
    | nil => intro x hx; exact nomatch hx
    | @cons p q ps qs hq t ih =>
      intro x hx
      rcases List.mem_cons.mp hx with e | hx
      · subst e
        exact key_of ok (by rw [← hq.1]; exact hq.2.1)
      · exact ih x hx
  exact all r x hx
end

/-- what the dict at a holds at the key y -/
def DGet (H : Hp) (a : Addr) (y : V) (r : Option V) : Prop :=
  (∃ kvs k, Rd H a (.dK kvs) ∧ y = kV k ∧ r = valV kvs k) ∨ ∃ kvs k b, Rd H a (.dT kvs) ∧ y = .ref b ∧ H b = some (.tup (k.map kV)) ∧ r = valV kvs k
/-- the heap behind a[y] = v -/
def DPut (H : Hp) (a : Addr) (y v : V) (H' : Hp) : Prop :=
  (∃ kvs k, H a = some (.dK kvs) ∧ y = kV k ∧ kvs.length < sizeLine ∧ H' = upd H a (.dK (putK kvs k v))) ∨
  ∃ kvs k b, H a = some (.dT kvs) ∧ y = .ref b ∧ H b = some (.tup (k.map kV)) ∧ kvs.length < sizeLine ∧ H' = upd H a (.dT (putK kvs k v))
theorem DGet.k {H : Hp} {a : Addr} {kvs : List (Key × V)} {k : Key} (e : H a = some (.dK kvs)) : DGet H a (kV k) (valV kvs k) := .inl ⟨kvs, k, .inl e, rfl, rfl⟩
theorem DGet.t {H : Hp} {a b : Addr} {kvs : List (List Key × V)} {k : List Key} (e : H a = some (.dT kvs)) (eb : H b = some (.tup (k.map kV))) : DGet H a (.ref b) (valV kvs k) := .inr ⟨kvs, k, b, .inl e, rfl, eb, rfl⟩
theorem DPut.k {H : Hp} {a : Addr} {kvs : List (Key × V)} {k : Key} {v : V} (e : H a = some (.dK kvs)) (hl : kvs.length < sizeLine) : DPut H a (kV k) v (upd H a (.dK (putK kvs k v))) := .inl ⟨kvs, k, e, rfl, hl, rfl⟩
theorem DPut.t {H : Hp} {a b : Addr} {kvs : List (List Key × V)} {k : List Key} {v : V} (e : H a = some (.dT kvs)) (eb : H b = some (.tup (k.map kV))) (hl : kvs.length < sizeLine) :
    DPut H a (.ref b) v (upd H a (.dT (putK kvs k v))) := .inr ⟨kvs, k, b, e, rfl, eb, hl, rfl⟩


section
variable {X : Cx} {pins : List (Addr × Obj)} {σ : St} {H : Hp} {s : Shared} {a : Addr} {y v : V} {u r : Value} {o : Option V} {A : Around} {E : Value → Shared → Prop}

theorem Inv.big (I : Inv X pins σ H s) : sysModules < s.heap.objs.size := by
  have h : mainGlobals < s.heap.objs.size := (I.mod.glob.keeps I.bk).lt
  exact Nat.lt_trans (by decide) h

/-- d[y], there -/
theorem d_getItem {Q : Value → Shared → Prop} (hu : A.units + 1 < cLine) (I : Inv X pins σ H s) (g : DGet H a y (some v)) (ry : RelV y u) (h : ∀ w' s', Inv X pins σ H s' → RelV v w' → Q w' s') :
    wpAny (model X.prog X.w) A (getItem (.ref a) u) Q E s := by
  rcases g with ⟨kvs, k, e, ey, l⟩ | ⟨kvs, k, b, e, ey, eb, l⟩
  · subst ey
    obtain ⟨z, hd, vs, rel, dd⟩ := dk_rd I.hok e
    obtain ⟨w', hw, rw'⟩ := RelO.some_of (v := v) (o := valueAt vs k) (by rw [l]; exact rel.val k)
    exact wpAny_getItem_of (kV_is ry) dd.mapOf hw (h w' _ (I.tok _) rw')
  · subst ey
    cases (show u = Value.ref b from ry)
    obtain ⟨z, hd, xs, rel, dd⟩ := dt_rd I.hok e
    obtain ⟨w', hw, rw'⟩ := RelO.some_of (v := v) (o := (atKey xs k).map (·.2)) (by rw [l]; exact rel.val k)
    obtain ⟨p, hp, hp2⟩ := Option.map_eq_some_iff.mp hw
    refine wpAny_getItem_heap (tupleKind_room_in1 hu) (key_of I.hok eb) dd hp ?_
    rw [hp2]
    exact h w' _ (I.tok _) rw'
/-- a dict's object is replaced -/
theorem d_write {h' : Heap} {t' : Nat} {ob : HO} (I : Inv X pins σ H s) (mu : Mut (H a)) (hs : Heap.SameBut a s.heap h') (he : ∃ q, h'.get? a = some q) (new : ObjOk X.prog X.w (upd H a ob) h' a ob) :
    Inv X pins σ (upd H a ob) { s with heap := h', toks := t' } :=
  I.write (x := a) (e := a) mu (.inl rfl) (fun b q hb z => (hs.2 b hb).trans z) he new
theorem dk_new {P : Program} {w : World} {H' : Hp} {h' : Heap} {kvs : List (Key × V)} {vs : List (Key × Value)} (z : kvs.length ≤ sizeLine) (hd : (a == sysModules) = false) (rel : KV kvs vs) (dd : h'.DictOf (mixKind P w) a vs) :
    ObjOk P w H' h' a (.dK kvs) := ⟨z, hd, vs, rel, dd⟩
end

section
variable {X : Cx} {pins : List (Addr × Obj)} {σ : St} {H : Hp} {s : Shared} {a : Addr} {kvs : List (Key × V)} {k : Key} {u : Value} {A : Around} {E : Value → Shared → Prop}
end


/-- the element of a subscription, not a slice -/
def NoSl (i : Expr) : Prop := ∀ ov iv, subscripted i false ov iv = operate [ov, iv] (getItem ov iv)
theorem subD_of {prog : Program} {w : World} {A : Around} {E : Value → Shared → Prop} {s : Shared} {env : Env} {value slice : Expr} {pos : Pos} {T id : String} {Q : Value → Shared → Prop}
    (hl : typeLookup (.type T) "__getitem__" = pure (some (.builtin id))) (hs : NoSl slice)
    (h : wpAny (model prog w) A (eval value env) (fun o s₁ => wpAny (model prog w) A (eval slice env) (fun i s₂ => s₂.TypeIs o T ∧ wpAny (model prog w) A (getItem o i) Q E s₂) E s₁) E s) :
    wpAny (model prog w) A (eval (.Subscript value slice pos) env) Q E s := by
  refine Subscript_ (wpAny_mono h (fun o s₁ h₁ => wpAny_mono h₁ (fun i s₂ h₂ => ?_) fun _ _ x => x) fun _ _ x => x)
  obtain ⟨hT, h₂⟩ := h₂
  unfold subscriptTail
  refine wpAny_bind ?_
  rw [getitemInPython_of_ne hT.not_modules]
  refine wpAny_bind (wpAny_specialOf hT hl ?_)
  have fin : wpAny (model prog w) A (subscripted slice false o i) (fun r s₃ => wpAny (model prog w) A (letTemporaryGo value o r >>= fun _ => pure r) Q E s₃) E s₂ := by
    rw [hs o i]
    exact wpAny_operating (wpAny_mono h₂ (fun r s₃ h₃ => wpAny_bind (wpAny_letTemporaryGo (wpAny_pure h₃))) fun _ _ x => x)
  first
    | exact wpAny_pure (wpAny_bind fin)
    | exact wpAny_bind (wpAny_pure (wpAny_bind fin))
    | exact wpAny_bind fin

theorem dict_typeIs {X : Cx} {pins : List (Addr × Obj)} {σ : St} {H : Hp} {s : Shared} {a : Addr} {y : V} {o : Option V} (I : Inv X pins σ H s) (g : DGet H a y o) : s.TypeIs (.ref a) "dict" := by
  rcases g with ⟨kvs, k, e, _, _⟩ | ⟨kvs, k, b, e, _, _, _⟩
  · obtain ⟨_, _, vs, _, dd⟩ := dk_rd I.hok e
    exact dd.typeIs
  · obtain ⟨_, _, xs, _, dd⟩ := dt_rd I.hok e
    exact dd.typeIs
section
variable {X : Cx} {o i e value : Expr} {pos pos' tpos : Pos} {td ty tv : TE}
end


theorem dk_empty {P : Program} {w : World} {H : Hp} (h : Heap) (hb : sysModules < h.objs.size) : ObjOk P w H (h.push { cls := .type "dict", data := .dict #[] }) h.objs.size (.dK []) :=
  ⟨Nat.zero_le _, beq_eq_false_iff_ne.mpr (Ne.symm (Nat.ne_of_lt hb)), [], .nil, Heap.DictOf.new h⟩
/-- {}, to be a dict of the kind that is wanted -/
def tDNewK : TE := fun _ H Q => ∀ p, H p = none → Q (.ref p) (upd H p (.dK []))
section
variable {X : Cx} {pos : Pos}
theorem pe_dnewK : PE X (.Dict [] [] pos) tDNewK := fun pins s σ H Q I h =>
  wpAny_Dict_empty ⟨.ref s.heap.objs.size, _, I.laid (a := s.heap.objs.size) (o := .dK []) (t' := s.toks) (fun _ _ q => Heap.get?_push_of_some _ q) (Nat.le_refl _) (dk_empty s.heap I.big), rfl, h _ (I.hok.fresh (Nat.le_refl _))⟩
end

/-- the pairs of a display, from the left -/
def tPairs : List (TE × TE) → St → Hp → (List (V × V) → Hp → Prop) → Prop
  | [], _, H, Q => Q [] H
  | (tk, tv) :: r, σ, H, Q => tk σ H fun x H1 => tv σ H1 fun y H2 => tPairs r σ H2 fun ps H3 => Q ((x, y) :: ps) H3
abbrev VV : List (V × V) → List (Value × Value) → Prop := Paired fun p q => RelV p.1 q.1 ∧ RelV p.2 q.2
def PPs (X : Cx) (pos : Pos) (keys : List (Option Expr)) (values : List Expr) (trs : List (TE × TE)) : Prop :=
  ∀ (pins : List (Addr × Obj)) (s : Shared) (σ : St) (H : Hp) (Q : List (V × V) → Hp → Prop), Inv X pins σ H s → tPairs trs σ H Q →
    wpAny (model X.prog X.w) X.A (evalPairs (pairTrees keys values X.env pos)) (fun vs s' => ∃ ps H', Inv X pins σ H' s' ∧ VV ps vs ∧ Q ps H') X.xe s
theorem pps_nil {X : Cx} {pos : Pos} : PPs X pos [] [] [] := fun pins s σ H Q I h => pairTrees_nil_walk ⟨[], H, I, .nil, h⟩
theorem pps_cons {X : Cx} {pos : Pos} {k v : Expr} {ks : List (Option Expr)} {vs : List Expr} {tk tv : TE} {trs : List (TE × TE)} (hk : PE X k tk) (hv : PE X v tv) (hr : PPs X pos ks vs trs) :
    PPs X pos (some k :: ks) (v :: vs) ((tk, tv) :: trs) := fun pins s σ H Q I h =>
  pairTrees_cons_walk (thn (hk pins s σ H _ I h) fun u s1 ⟨x, H1, I1, rx, q1⟩ => thn (hv pins s1 σ H1 _ I1 q1) fun w2 s2 ⟨y, H2, I2, ry, q2⟩ =>
    thn (hr pins s2 σ H2 _ I2 q2) fun ws s3 ⟨ps, H3, I3, rel, q3⟩ => ⟨(x, y) :: ps, H3, I3, .cons ⟨rx, ry⟩ rel, q3⟩)

def mergeK (kvs more : List (Key × V)) : List (Key × V) := more.foldl (fun acc kv => putK acc kv.1 kv.2) kvs
theorem KV.merge : ∀ {more : List (Key × V)} {rs : List (Key × Value)} {kvs : List (Key × V)} {vs : List (Key × Value)}, KV more rs → KV kvs vs → KV (mergeK kvs more) (merged vs rs) := by
  intro more rs kvs vs r
  unfold KV at r
  induction r generalizing kvs vs with
  | nil => intro q; exact q
  | @cons p q ps qs h t ih =>
    intro r0
    have e : KV (putK kvs p.1 p.2) (stored vs q.1 q.2) := by
      have := r0.put p.1 h.2
      rw [← h.1]; exact this
    exact ih e
theorem length_mergeK : ∀ (more kvs : List (Key × V)), (mergeK kvs more).length ≤ kvs.length + more.length
  | [], kvs => by show kvs.length ≤ kvs.length + 0; omega
  | p :: r, kvs => by
    have h1 := length_mergeK r (putK kvs p.1 p.2)
    have h2 := length_putK kvs p.1 p.2
    show (mergeK (putK kvs p.1 p.2) r).length ≤ _
    rw [List.length_cons]; omega
theorem carries_of {P : Program} {w : World} : ∀ {kvs : List (Key × V)} {ws : List (Value × Value)}, VV (kvs.map fun kv => (kV kv.1, kv.2)) ws → ∃ rs, Carries (mixKind P w) ws rs ∧ KV kvs rs
  | [], _, r => by rw [List.map_nil] at r; cases r; exact ⟨[], True.intro, .nil⟩
  | p :: kvs, _, r => by
    rw [List.map_cons] at r
    cases r with
    | @cons a b as bs h t =>
      obtain ⟨rs, c, q⟩ := carries_of (P := P) (w := w) t
      obtain ⟨b1, b2⟩ := b
      exact ⟨(p.1, b2) :: rs, ⟨kV_is h.1, rfl, c⟩, .cons ⟨rfl, h.2⟩ q⟩
/-- {k: v, ..} with keys ints and texts; the new dict stands empty while the pairs are made -/
def tDisp (trs : List (TE × TE)) : TE := fun σ H Q => ∀ p, H p = none → tPairs trs σ (upd H p (.dK [])) fun ps H2 => H2 p = some (.dK []) ∧ ∃ kvs : List (Key × V), ps = kvs.map (fun kv => (kV kv.1, kv.2)) ∧ kvs.length ≤ 15 ∧ Q (.ref p) (upd H2 p (.dK (mergeK [] kvs)))
theorem pe_disp {X : Cx} {pos : Pos} {keys : List (Option Expr)} {values : List Expr} {trs : List (TE × TE)} (h : PPs X pos keys values trs) (hall : keys.all (·.isSome) = true) (hl : keys.length = values.length) (h0 : keys ≠ [])
    (h15 : keys.length ≤ 15) : PE X (.Dict keys values pos) (tDisp trs) := by
  intro pins s σ H Q I q
  have hn := I.hok.fresh (Nat.le_refl s.heap.objs.size)
  have I1 := I.laid (a := s.heap.objs.size) (o := .dK []) (h' := s.heap.push { cls := .type "dict", data := .dict #[] }) (t' := s.toks) (fun _ _ q => Heap.get?_push_of_some _ q) (Nat.le_refl _) (dk_empty s.heap I.big)
  refine wpAny_Dict_walk (knd := mixKind X.prog X.w) hall hl h0 h15 (thn (h pins _ σ _ _ I1 (q _ hn)) fun ws s2 ⟨ps, H2, I2, rel, e, kvs, ep, lk, q2⟩ => ?_)
  subst ep
  obtain ⟨rs, c, rk⟩ := carries_of (P := X.prog) (w := X.w) rel
  obtain ⟨z, hd, vs0, r0, dd⟩ := dk_of I2.hok e
  cases r0
  refine ⟨rs, c, dd, fun h' dd' hs => ⟨.ref s.heap.objs.size, _, ?_, rfl, q2⟩⟩
  have hz : (mergeK [] kvs).length ≤ sizeLine := by
    have h1 := length_mergeK kvs []
    rw [List.length_nil] at h1
    rw [sizeLine_eq]; omega
  have he : ∃ q, h'.get? s.heap.objs.size = some q := let ⟨q, _, _, hq, _⟩ := dd'; ⟨q, hq⟩
  exact d_write I2 (by rw [e]; exact True.intro) hs he (dk_new hz hd (rk.merge .nil) dd')


section
variable {X : Cx} {pins : List (Addr × Obj)} {σ : St} {H : Hp} {s : Shared} {a : Addr} {y d : V} {u r : Value} {o : Option V} {A : Around} {E : Value → Shared → Prop}
end

section
variable {X : Cx} {o e f : Expr} {apos cpos : Pos} {td ty tx : TE}
end

section
variable {X : Cx} {pins : List (Addr × Obj)} {σ : St} {H : Hp} {s : Shared} {a : Addr} {kvs : List (Key × V)} {A : Around} {E : Value → Shared → Prop}
end


section
variable {X : Cx} {pins : List (Addr × Obj)} {σ : St} {H : Hp} {s : Shared} {a : Addr} {y : V} {u : Value} {A : Around} {E : Value → Shared → Prop}
end
end L2

namespace Att
open PySem PySem.W PySem.Calls PyProof.Rows

theorem ints_of_wellAll {P : Params} {h : Heap} : ∀ (ns : List Int) (vs : List Value), WellAll P h vs (ns.map WData.int) → IntsAre vs ns := by
  intro ns
  induction ns with
  | nil =>
    intro vs w
    rw [List.map_nil] at w
    cases w
    exact .nil
  | cons n ns ih =>
    intro vs w
    rw [List.map_cons] at w
    cases w with
    | cons a b =>
      cases a
      exact .cons _ _ (ih _ b)

theorem script_of {l : OpenLaw} {n : Nat} (hn : l.most = some n) {P : Params} {h : Heap} {args : List WData} {vals : List Value}
    (hpre : l.row.toRowW.claim.pre args = true) (hwl : WellAll P h vals args) :
    ∃ a vs ns, vals = [Value.ref a] ∧ args = [WData.list (ns.map WData.int)] ∧ h.get? a = some { cls := .type "list", data := .seq vs.toArray } ∧ IntsAre vs ns ∧ ns.length ≤ n := by
  have hsh : WShape.hasAll [] args [.list .int] = true := (pre_splitW hpre).1
  have hc : l.pre.holds [] { args := args } = true := (pre_splitW hpre).2
  obtain ⟨d, r, rfl, h1, h2⟩ := hasAllW_cons hsh
  obtain rfl := hasAllW_nil h2
  obtain ⟨xs, rfl, h3⟩ := hasW_list h1
  obtain ⟨ns, rfl⟩ := items_int h3
  have hlen : ns.length ≤ n := by
    unfold OpenLaw.pre at hc
    have h4 : (WTm.not (.lt (.lit (.int (n : Int))) (.len (.arg 0)))).holds [] { args := [.list (ns.map .int)] } = true := by
      have h4 := (holds_andW hc).1
      rw [hn] at h4
      exact h4
    have h5 := condW_of h4 (w_not (w_lt w_lit (w_len_list (w_arg rfl))))
    rw [List.length_map] at h5
    refine Nat.le_of_not_lt fun q => ?_
    have q' : (n : Int) < ((ns.length : Nat) : Int) := by omega
    first
      | (rw [decide_eq_true q'] at h5; exact absurd h5 (by decide))
      | (simp at h5; omega)
  cases hwl with
  | cons w1 w2 =>
    cases w2
    cases w1 with
    | list ho hall => exact ⟨_, _, ns, rfl, rfl, ho, ints_of_wellAll ns _ hall, hlen⟩

theorem post_true (l : OpenLaw) (args : List WData) : l.row.toRowW.claim.post args (.bool true) args = true :=
  postW_of (r := l.row.toRowW) (X := (true == true))
    (show WShape.has [] (.bool true) .bool = true by first | rfl | decide | simp [WShape.has, WShape.arms, WShape.armsAll])
    (show (WTm.eq .res (.lit (.bool true))).value [] { args := args, res := some (.bool true), after := args } = some (.bool (true == true)) from w_eq_bool (w_res rfl) w_lit) rfl

/-- the same from a codeAny of the CALL (for a layer whose function contracts speak of calls) -/
theorem attach_call {l : OpenLaw} {n : Nat} {q : Program} {loose : List Str} {XP : (Str → Option Value) → Heap → Prop} {YP : World → Heap → Prop} {d : DefRec}
    (hn : l.most = some n) (hdf : d.params.defaults = [])
    (call : ∀ (w : World) (s₀ s₁ : Shared) (mg mb : Str → Option Value) (fa : Addr) (o : Obj) (pm cd doc : Value) (a : Addr) (vs : List Value) (ns : List Int),
      Ground q loose [] XP w s₀ mg mb s₁.heap → YP w s₁.heap →
      s₁.heap.get? fa = some o → o.data = .func (docDef d.name d.params d.body d.scope pm cd doc) → s₁.heap.CodeRec cd d.name → mg d.name = some (.ref fa) →
      s₁.heap.get? a = some { cls := .type "list", data := .seq vs.toArray } → IntsAre vs ns → ns.length ≤ n → s₁.gens = #[] →
      codeAny (model l.prog w) callerA (.call (.ref fa) ⟨[.ref a], []⟩) (fun r s' => r = .ok (.ret (.bool true)) ∧ OldK s₁.heap s'.heap ∧ s'.os = s₁.os ∧ AllBare s'.gens) s₁) :
    WalkO q loose XP YP l.row.toRowW d [] (fun f vs => PySem.call f vs) := by
  intro w s₀ s₁ mg mb G Y fa o pm cd doc dV kV ho hd hcd hD hmg hg args vals as hpre hlay hrd hwl hlo
  obtain rfl : dV = .none := Dflts.none hD hdf
  obtain rfl : kV = .none := Dflts.noKw hD
  obtain ⟨a, vs, ns, rfl, rfl, hobj, hints, hlen⟩ := script_of hn hpre hwl
  refine enter_call (codeAny_mono (call w s₀ s₁ mg mb fa o pm cd doc a vs ns G Y ho (fd_plain hd) hcd hmg hobj hints hlen hg) fun r s' hq => ?_)
  obtain ⟨rfl, h2, h3, h4⟩ := hq
  exact ⟨.inl ⟨.bool true, .bool true, [], rfl, fun _ => rfl, .bool true, post_true l _, fun _ => ⟨List.Pairwise.nil, fun _ hm => (nomatch hm)⟩⟩, h2, h3, h4⟩

section
variable {prog : Program} {w : World} {A : Around} {E : Value → Shared → Prop} {s : Shared} {K : Frag}

end
end Att

namespace L2
open PySem PySem.Spec PyProof.Rows

theorem vals_ints : ∀ {vs : List Value} {ns : List Int}, IntsAre vs ns → Vals (ns.map V.int) vs
  | _, _, .nil => .nil
  | _, _, .cons n t h => .cons ⟨t, rfl⟩ (vals_ints h)

/-- nothing is tracked but the script, known to the object (or it is an object of the module) -/
def Only (H : Hp) : Prop := ∀ b, H b = none ∨ ∃ o xs, H b = some (.frz o (.lst xs))

/-- THE HEAD: the law's promise, at the heap behind the top. F, the promise of the law's def, may use that base is part of the heap (so K.In base, base.Ns mainGlobals mg stand in Mod) -/
theorem law_call {P : Program} {w : World} {K : PySem.W.Frag} {mg mb : Str → Option Value} {CX : CXT} {k : Nat} {fa a : Addr} {fd : FuncData} {x : Str} {sp : Sp} {s₁ : Shared} {vs : List Value} {ns : List Int}
    (KX : K.In s₁.heap) (hns : s₁.heap.Ns mainGlobals mg) (hb : s₁.heap.Ns builtinsNs mb) (hbb : ∀ x : Str, x ≠ "__name__" → mb x = bootBuiltins x) (hlim : s₁.heap.NoLimit) (hg : s₁.gens = #[])
    (ha : s₁.heap.get? a = some { cls := .type "list", data := .seq vs.toArray }) (hi : IntsAre vs ns) (hl : ns.length ≤ sizeLine) (hr : Room k callerA)
    (F : ∀ base : Heap, K.In base → base.Ns mainGlobals mg → FnOk P w K mg base CX k fa fd [x] sp) (hbind : ∀ (s : Shared) (u : Value), BindsTo s fd ⟨[u], []⟩ [(x, u)])
    (hsp : ∀ H : Hp, Only H → SqL K H a (ns.map V.int) → sp [.ref a] H (fun v _ => v = .bl true) fun _ _ _ => False)
    (hCX : ∀ H e s', CX [] H s₁ (fun _ _ _ => False) e s' → False) :
    codeAny (model P w) callerA (.call (.ref fa) ⟨[.ref a], []⟩) (fun r s' => r = .ok (.ret (.bool true)) ∧ OldK s₁.heap s'.heap ∧ s'.os = s₁.os ∧ AllBare s'.gens) s₁ := by
  have rv := vals_ints hi
  have lenV := hi.length
  have core : ∀ H : Hp, Only H → SqL K H a (ns.map V.int) → HOk P w H s₁.heap → (∀ b, H b ≠ none → b = a) → (H a ≠ none → K.lookup a = none) →
      codeAny (model P w) callerA (.call (.ref fa) ⟨[.ref a], []⟩) (fun r s' => r = .ok (.ret (.bool true)) ∧ OldK s₁.heap s'.heap ∧ s'.os = s₁.os ∧ AllBare s'.gens) s₁ := by
    intro H hO hS hok hA hK
    have base_of : ∀ {b : Addr} {o : Obj}, s₁.heap.get? b = some o → H b = none → (hidT s₁.heap H).get? b = some o := fun e n => hidT_get e n
    have noA : ∀ {b : Addr} {o : Obj} {es : Array DictEntry} {ep : Nat}, s₁.heap.get? b = some o → o.data = .dict es ep → H b = none := fun {b o es ep} e d => by
      cases q : H b with
      | none => rfl
      | some u =>
        have e' : b = a := hA b (by rw [q]; simp)
        subst e'
        rw [ha] at e; cases e
        have d' : Data.seq vs.toArray _ = Data.dict es ep := d
        cases d'
    have nsK : ∀ {b : Addr} {m : Str → Option Value}, s₁.heap.Ns b m → (hidT s₁.heap H).Ns b m := fun {b m} ⟨o, es, ep, e, d, r⟩ => ⟨o, es, ep, base_of e (noA e d), d, r⟩
    have hKb : K.In (hidT s₁.heap H) := fun b o e => base_of (KX b o e) (by
      cases q : H b with
      | none => rfl
      | some u =>
        have e' : b = a := hA b (by rw [q]; simp)
        subst e'
        rw [hK (by rw [q]; simp)] at e; cases e)
    have hM : Mod K mg (hidT s₁.heap H) := ⟨hKb, nsK hns, ⟨mb, nsK hb, hbb⟩, let ⟨mc, h1, h2⟩ := hlim; ⟨mc, nsK h1, h2⟩⟩
    have e0 : Env0 P w K mg (hidT s₁.heap H) callerA [] s₁ H := ⟨rfl, hM, fun b o e => of_hidT e, Nat.le_of_eq (hidT_size _ _), trivial, fun b hb => absurd (show b ∈ ([] : List Addr) from hb) (by simp), hok, .of_eq hg⟩
    refine codeAny_mono ((F _ hKb (nsK hns)).run callerA [] s₁ H ⟨[.ref a], []⟩ [.ref a] [.ref a] _ _ hr e0 (hbind s₁ (.ref a)) (.cons rfl .nil) (hsp H hO hS)) fun r s' h => ?_
    cases r with
    | error e => exact (hCX H e s' h).elim
    | ok fl =>
      cases fl with
      | next => exact False.elim h
      | brk => exact False.elim h
      | cont => exact False.elim h
      | ret u =>
        obtain ⟨v, H', os, bare, un, hok', r', q⟩ := h
        have q' : v = .bl true := q
        subst q'
        obtain rfl : u = Value.bool true := r'
        refine ⟨rfl, OldK.of_keep fun b o e => ?_, os, bare⟩
        cases q : H b with
        | none => exact un.keep b o e q (by intro z; exact absurd (show b ∈ ([] : List Addr) from z) (by simp)) (by simp)
        | some u =>
          rcases hO b with z | ⟨ob, xs, z⟩
          · rw [q] at z; cases z
          · have z2 := un.frzs b ob _ z
            obtain ⟨e1, _⟩ := hok b _ z
            obtain ⟨e2, _⟩ := hok' b _ z2
            rw [e] at e1; cases e1
            exact e2
  cases hk : K.lookup a with
  | some o =>
    have e := KX a o hk
    rw [ha] at e
    cases e
    refine core (fun _ => none) (fun _ => .inl rfl) (.inr ⟨_, vs.toArray, _, hk, rfl, rfl, rfl, by rw [List.size_toArray, lenV]; exact hl, by simpa using rv⟩) (fun b u z => by have z' : (none : Option HO) = some u := z; cases z') (fun b z => absurd rfl z) fun z => absurd rfl z
  | none =>
    refine core (fun b => if b = a then some (.frz { cls := .type "list", data := .seq vs.toArray } (.lst (ns.map V.int))) else none) (fun b => ?_) (.inl (.inr ⟨{ cls := .type "list", data := .seq vs.toArray }, if_pos rfl⟩)) (fun b u z => ?_) (fun b z => ?_) fun _ => hk
    · by_cases hb : b = a
      · exact .inr ⟨_, _, if_pos hb⟩
      · exact .inl (if_neg hb)
    · by_cases hb : b = a
      · have z' := (if_pos hb).symm.trans z
        cases z'
        subst hb
        exact ⟨ha, by rw [List.length_map]; exact hl, vs, _, rv, ha⟩
      · have z' := (if_neg hb).symm.trans z
        cases z'
    · by_cases hb : b = a
      · exact hb
      · exact absurd (if_neg hb) z
end L2

namespace L2
open PySem PySem.Spec PyProof.Rows

abbrev KOf {K : PySem.W.Frag} {h : Heap} (_ : K.In h) : PySem.W.Frag := K

/-- the goal that k_head leaves (case hc), from the law's promise. F gives the function object fd (K's own) once, then the promise over every base -/
theorem walk_of {l : PySem.W.OpenLaw} {n k : Nat} {q : Program} {loose : List Str} {XP : (Str → Option Value) → Heap → Prop} {YP : World → Heap → Prop} {d : DefRec} {K : Params → PySem.W.Frag} {CX : World → CXT} {sp : World → Sp} {x : Str}
    (hn : l.most = some n) (hn2 : n ≤ sizeLine) (hdf : d.params.defaults = []) (hr : Room k callerA)
    (hY : ∀ (w : World) (h : Heap), YP w h → (K w.params).In h)
    (F : ∀ (w : World) (mg : Str → Option Value) (fa : Addr) (h : Heap), (K w.params).In h → h.Ns mainGlobals mg → mg d.name = some (.ref fa) →
      ∃ fd : FuncData, (∀ (s : Shared) (u : Value), BindsTo s fd ⟨[u], []⟩ [(x, u)]) ∧
        ∀ base : Heap, (K w.params).In base → base.Ns mainGlobals mg → FnOk l.prog w (K w.params) mg base (CX w) k fa fd [x] (sp w))
    (hsp : ∀ (w : World) (H : Hp) (a : Addr) (ns : List Int), ns.length ≤ n → Only H → SqL (K w.params) H a (ns.map V.int) → sp w [.ref a] H (fun v _ => v = .bl true) fun _ _ _ => False)
    (hCX : ∀ (w : World) (H : Hp) (s : Shared) (e : Value) (s' : Shared), CX w [] H s (fun _ _ _ => False) e s' → False) :
    PySem.W.WalkO q loose XP YP l.row.toRowW d [] (fun f vs => PySem.call f vs) := by
  refine Att.attach_call hn hdf fun w s₀ s₁ mg mb fa o pm cd doc a vs ns G Y ho hd hcd hmg hobj hints hlen hg => ?_
  have KX := hY w _ Y
  obtain ⟨fd, hb, hF⟩ := F w mg fa _ KX G.T.g hmg
  exact law_call KX G.T.g G.T.b G.T.builtins G.T.nolimit hg hobj hints (Nat.le_trans hlen hn2) hr hF hb (fun H hO hS => hsp w H a ns hlen hO hS) fun H e s' => hCX w H s₁ e s'
end L2

/- THE LAST THEOREM (shape; LID, My.* are yours):
   My.Adr: a structure of the addresses that your layer names (classes, functions); My.Txt K t: a structure (Prop) of the equations over K;
   My.txt_mk : {K} {implicit addresses ..} (e1 : nsIn K mainGlobals "law" = some (some (.ref f))) (e2 : K.lookup f = some ⟨oc, od, .func (fnOf "law" "law" params body scope dV kV doc pm an cdv ct), sl⟩) (e3 : codeIn K cdv "law" = true) .. : ∃ t, My.Txt K t

set_option maxRecDepth 100000 in
set_option maxHeartbeats 0 in
theorem PySem.Challenge.cw_LID_holds : PySem.Challenge.rw_LID.Holds := by
  w_on; o_law; k_head; (case hw => w_witness2)
  k_fill
  refine L2.walk_of (l := PySem.Challenge.rw_LID) (n := 63) (k := 40) (x := "script") (CX := fun w => ..) (sp := fun _ => My.sp_law) rfl (by decide) rfl ⟨rfl, by decide, by decide⟩ (fun w h Y => PySem.W.kIn_of Y) ?F ?S ?C
  case F =>
    intro w mg fa h KX G hmg
    have T : ∃ t, My.Txt (L2.KOf KX) t := by
      dsimp only [L2.KOf]                          -- K must stand as «<heap const> w.params» for k_is
      refine' My.txt_mk ?e1 ?e2 ?e3 ..
      (case e1 => PySem.W.k_is)                    -- in the order: a name -> its address -> its object -> its parts
      (case e2 => PySem.W.k_is)
      ..
    obtain ⟨t, T⟩ := T
    have e0 := hmg.symm.trans (PySem.W.mg_of KX G T.law)
    cases e0                                       -- fa is the law's own address
    exact ⟨_, fun s u => .of_eq rfl, fun base kb nb => My.law_fn T kb nb⟩     -- if «.of_eq rfl» comes too early: refine' ⟨_, ?b, fun base kb nb => My.law_fn T kb nb⟩; exact fun s u => .of_eq rfl
  case S => exact fun w H a ns hl hO hS => ..
  case C => exact ..
(the tactic k_is has no namespace: write k_is) -/

namespace L2
open PySem PySem.Spec PyProof.Rows

/-- the j-th statement of a class's body -/
def inClass (s : Stmt) (j : Nat) : Stmt := match s with
  | .ClassDef _ _ _ body _ _ _ _ _ _ _ => body.getD j (.Pass ⟨0, 0, 0, 0⟩)
  | _ => .Pass ⟨0, 0, 0, 0⟩
def defArgs (s : Stmt) : Arguments := match s with
  | .FunctionDef _ a _ _ _ _ _ _ _ _ => a
  | _ => { posonlyargs := [], args := [], vararg := none, kwonlyargs := [], kw_defaults := [], kwarg := none, defaults := [] }
def defBody (s : Stmt) : List Stmt := match s with
  | .FunctionDef _ _ b _ _ _ _ _ _ _ => b
  | _ => []
def defScope (s : Stmt) : Scope := match s with
  | .FunctionDef _ _ _ _ _ _ sc _ _ _ => sc
  | _ => { kind := .function, names := [], isGenerator := false, isCoroutine := false }

abbrev CX0 : CXT := fun _ _ _ _ _ _ => False
abbrev E0 : XK := fun _ _ _ => False
theorem pass0 {X : Cx} : Passes CX0 X E0 := fun _ _ _ _ _ _ _ h => h.elim

structure Fun (K : PySem.W.Frag) (x qual : Str) (st : Stmt) (f : Addr) (fd : FuncData) : Prop where
  ex : ∃ (oc : Value) (od : Option Addr) (kV doc pm : Value) (an : Option Addr) (cdv ct : Value) (osl : Array (Option Value)),
    fd = PySem.W.fnOf x qual (defArgs st) (defBody st) (defScope st) .none kV doc pm an cdv ct ∧ K.lookup f = some ⟨oc, od, .func fd, osl⟩ ∧ PySem.W.codeIn K cdv qual = true
  kp : PySem.W.keepIn K (.ref f) = true
section
variable {P : Program} {w : World} {K : PySem.W.Frag} {mg : Str → Option Value} {base : Heap}
/-- THE RULE for a def: its body as a term of rules, and the reading of that term -/
theorem Fun.ok {x qual : Str} {st : Stmt} {f : Addr} {fd : FuncData} {N ps : List Str} {k : Nat} {sp : Sp} (F : Fun K x qual st f fd) (S : FnScope N ps (defScope st)) (len : ∀ vs H Q E, sp vs H Q E → vs.length = ps.length)
    (hbody : ∀ (cdv : Value) (A : Around) (outer : List Env) (s : Shared) (H : Hp) (vs : List V) (Q : VK) (E : XK), Room k (A.deeper (envOfC qual (defScope st) s.heap.objs.size f cdv)) → sp vs H Q E →
      ∃ t, PSs (cxOf CX0 P w K mg base N qual (defScope st) f cdv A outer s H E).nox (defBody st) t ∧ t { nx := fun _ H' => Q .non H', rt := Q } (start N vs) H) : FnOk P w K mg base CX0 (k + 1) f fd ps sp := by
  obtain ⟨oc, od, kV, doc, pm, an, cdv, ct, osl, rfl, lk, hcd⟩ := F.ex
  refine fn_of lk hcd S len fun A outer s H vs Q E hr hsp => ?_
  obtain ⟨t, h, q⟩ := hbody cdv A outer s H vs Q E hr hsp
  exact ⟨t, h.nox, q⟩
/-- how its arguments bind (no defaults): h is «fun _ _ _ _ _ _ us hl => match us, hl with | [_, _], _ => rfl», one _ a parameter -/
theorem Fun.binds {x qual : Str} {st : Stmt} {f : Addr} {fd : FuncData} {ps : List Str} (F : Fun K x qual st f fd)
    (h : ∀ (kV doc pm : Value) (an : Option Addr) (cdv ct : Value) (us : List Value), us.length = ps.length → bindArgs (PySem.W.fnOf x qual (defArgs st) (defBody st) (defScope st) .none kV doc pm an cdv ct) ⟨us, []⟩ = pure (ps.zip us)) : Binds K fd ps [] := by
  obtain ⟨oc, od, kV, doc, pm, an, cdv, ct, osl, rfl, lk, hcd⟩ := F.ex
  exact .all (h kV doc pm an cdv ct)
theorem fun_mk {x qual : Str} {st : Stmt} {f : Addr} {oc : Value} {od an : Option Addr} {osl : Array (Option Value)} {kV doc pm cdv ct : Value} (l : K.lookup f = some ⟨oc, od, .func (PySem.W.fnOf x qual (defArgs st) (defBody st) (defScope st) .none kV doc pm an cdv ct), osl⟩)
    (c : PySem.W.codeIn K cdv qual = true) (k : PySem.W.keepIn K (.ref f) = true) : Fun K x qual st f (PySem.W.fnOf x qual (defArgs st) (defBody st) (defScope st) .none kV doc pm an cdv ct) := ⟨⟨oc, od, kV, doc, pm, an, cdv, ct, osl, rfl, l, c⟩, k⟩
end
theorem hu_of {A : Around} {k : Nat} (hr : Room k A) : A.units + 1 < cLine := Nat.lt_of_le_of_lt (Nat.add_le_add_left (by decide : 1 ≤ 64) _) hr.units
section
variable {X : Cx}
theorem pv (i : Nat) {x : Str} {pos : Pos} (hN : X.N[i]? = some x := by rfl) (hv : Vis X.env.scope x := by first | exact Or.inl rfl | exact Or.inr (Or.inl rfl) | exact Or.inr (Or.inr rfl)) (hd : (x == ("__debug__" : Str)) = false := by decide)
    (hcd : (x == ("__classdict__" : Str)) = false := by decide) : PE X (.Name x pos) (tVar i) := pe_var hN hv hd hcd
end

theorem ite2 {c A B : Prop} [Decidable c] (h1 : c → A) (h2 : ¬ c → B) : if c then A else B := by
  by_cases h : c
  · rw [if_pos h]
    exact h1 h
  · rw [if_neg h]
    exact h2 h
/-- all that was tracked is as it was -/
def Same (H H' : Hp) : Prop := ∀ b o, H b = some o → H' b = some o
theorem Same.refl (H : Hp) : Same H H := fun _ _ h => h
theorem Same.trans {H H1 H2 : Hp} (a : Same H H1) (b : Same H1 H2) : Same H H2 := fun c o h => b c o (a c o h)
theorem Same.free {H H' : Hp} (e : Same H H') {l : Addr} (h : H' l = Option.none) : H l = Option.none := by
  cases q : H l with
  | none => rfl
  | some o =>
    rw [e l o q] at h
    cases h
theorem Same.seq {K : PySem.W.Frag} {H H' : Hp} {a : Addr} {xs : List V} (e : Same H H') (h : SqL K H a xs) : SqL K H' a xs := by
  rcases h with (h | ⟨o, h⟩) | h
  · exact .inl (.inl (e _ _ h))
  · exact .inl (.inr ⟨o, e _ _ h⟩)
  · exact .inr h

section
variable {κ : Type} [DecidableEq κ]
end
end L2

set_option Elab.async false
set_option linter.all false
set_option maxRecDepth 100000
namespace L2
open PySem PySem.Spec PyProof.Rows

def clOf (env : Env) (names : List (Str × NameKind)) (cs : List (Str × Addr)) : List (Str × Addr) :=
  names.foldl (fun cs y => if y.2 == NameKind.free then (y.1, (env.cells.lookup y.1).getD 0) :: cs else cs) cs
theorem clOf_loop {env : Env} : ∀ (names : List (Str × NameKind)) (cs : List (Str × Addr)), (∀ y ∈ names, y.2 = .free → ∃ c, env.cells.lookup y.1 = some c) →
    (forIn names cs fun (p : Str × NameKind) (cs : List (Str × Addr)) => (if (p.2 == NameKind.free) = true then do
      let a ← cellOf env p.1
      pure (ForInStep.yield ((p.1, a) :: cs))
     else pure (ForInStep.yield cs) : Sem (ForInStep (List (Str × Addr))))) = pure (clOf env names cs)
  | [], cs, _ => rfl
  | (n, k) :: r, cs, h => by
    have hr : ∀ y ∈ r, y.2 = NameKind.free → ∃ c, env.cells.lookup y.1 = some c := fun y hy => h y (List.mem_cons_of_mem _ hy)
    rw [List.forIn_cons]
    cases hk : (k == NameKind.free) with
    | true =>
      obtain ⟨c, hc⟩ := h (n, k) List.mem_cons_self (by simpa using hk)
      have e1 : cellOf env n = pure c := by
        have hc' : env.cells.lookup n = some c := hc
        unfold cellOf; rw [hc']
      have e2 := clOf_loop r ((n, c) :: cs) hr
      have e3 : clOf env ((n, k) :: r) cs = clOf env r ((n, c) :: cs) := by
        have hc' : env.cells.lookup n = some c := hc
        show List.foldl _ (if (k == NameKind.free) = true then (n, (env.cells.lookup n).getD 0) :: cs else cs) r = _
        rw [hk, hc']; rfl
      rw [e3, ← e2]
      simp only [hk, if_true, e1]
      rfl
    | false =>
      have e2 := clOf_loop r cs hr
      have e3 : clOf env ((n, k) :: r) cs = clOf env r cs := by
        show List.foldl _ (if (k == NameKind.free) = true then _ else cs) r = _
        rw [hk]; rfl
      rw [e3, ← e2]
      simp only [hk, Bool.false_eq_true, if_false]
      rfl
theorem closureFor_ok {scope : Scope} {env : Env} (h : ∀ y ∈ scope.names, y.2 = .free → ∃ c, env.cells.lookup y.1 = some c) : closureFor scope env = pure (clOf env scope.names []) := by
  have := clOf_loop scope.names [] h
  unfold closureFor
  simp only [bind_pure]
  exact this
theorem clOf_sub {env : Env} : ∀ (names : List (Str × NameKind)) (cs : List (Str × Addr)), (∀ y ∈ names, y.2 = .free → ∃ c, env.cells.lookup y.1 = some c) → (∀ x c, cs.lookup x = some c → env.cells.lookup x = some c) →
    ∀ x c, (clOf env names cs).lookup x = some c → env.cells.lookup x = some c
  | [], cs, _, hc => hc
  | (n, k) :: r, cs, h, hc => by
    refine clOf_sub r _ (fun y hy => h y (List.mem_cons_of_mem _ hy)) ?_
    intro x c e
    dsimp only at e
    split at e
    · rename_i hk
      obtain ⟨c', hc'⟩ := h (n, k) List.mem_cons_self (by simpa using hk)
      have hc' : env.cells.lookup n = some c' := hc'
      rw [List.lookup_cons] at e
      cases hx : (x == n) with
      | true =>
        rw [hx] at e
        have e' : (env.cells.lookup n).getD 0 = c := Option.some.inj e
        have hxn : x = n := by simpa using hx
        rw [hxn, hc', ← e', hc']; rfl
      | false =>
        rw [hx] at e
        exact hc x c e
    · exact hc x c e
theorem clOf_has {env : Env} {x : Str} : ∀ (names : List (Str × NameKind)) (cs : List (Str × Addr)), ((x, NameKind.free) ∈ names ∨ ∃ c, cs.lookup x = some c) → ∃ c, (clOf env names cs).lookup x = some c
  | [], cs, h => by
    rcases h with h | h
    · simp at h
    · exact h
  | (n, k) :: r, cs, h => by
    refine clOf_has r _ ?_
    rcases h with h | ⟨c, h⟩
    · rcases List.mem_cons.mp h with e | h
      · cases e
        refine .inr ⟨(env.cells.lookup x).getD 0, ?_⟩
        simp
      · exact .inl h
    · refine .inr ?_
      dsimp only
      split
      · rw [List.lookup_cons]
        cases (x == n) with
        | true => exact ⟨_, rfl⟩
        | false => exact ⟨c, h⟩
      · exact ⟨c, h⟩
theorem relabel_free {env : Env} : ∀ {names : List (Str × NameKind)} {x : Str}, names.lookup x = some .free →
    (names.map fun (n, k) => if (k == NameKind.free && env.scope.kind == .function && env.kindOf n == some .cell) then (n, NameKind.cell) else (n, k)).lookup x = some .cell ∨
    (names.map fun (n, k) => if (k == NameKind.free && env.scope.kind == .function && env.kindOf n == some .cell) then (n, NameKind.cell) else (n, k)).lookup x = some .free
  | [], _, h => by simp at h
  | (n, k) :: r, x, h => by
    have ih := @relabel_free env r x
    rw [List.map_cons]
    cases hx : x == n with
    | true =>
      simp only [List.lookup_cons, hx] at h
      cases h
      by_cases hc : (NameKind.free == NameKind.free && env.scope.kind == .function && env.kindOf n == some .cell) = true
      · left
        show List.lookup x ((if (NameKind.free == NameKind.free && env.scope.kind == .function && env.kindOf n == some .cell) = true then (n, NameKind.cell) else (n, NameKind.free)) :: _) = _
        rw [if_pos hc]; simp [List.lookup_cons, hx]
      · right
        show List.lookup x ((if (NameKind.free == NameKind.free && env.scope.kind == .function && env.kindOf n == some .cell) = true then (n, NameKind.cell) else (n, NameKind.free)) :: _) = _
        rw [if_neg hc]; simp [List.lookup_cons, hx]
    | false =>
      simp only [List.lookup_cons, hx] at h
      have ih := ih h
      have e : ∀ l, List.lookup x ((if (k == NameKind.free && env.scope.kind == .function && env.kindOf n == some .cell) = true then (n, NameKind.cell) else (n, k)) :: l) = List.lookup x l := fun l => by
        split <;> simp [List.lookup_cons, hx]
      show List.lookup x ((if (k == NameKind.free && env.scope.kind == .function && env.kindOf n == some .cell) = true then (n, NameKind.cell) else (n, k)) :: _) = _ ∨ List.lookup x ((if (k == NameKind.free && env.scope.kind == .function && env.kindOf n == some .cell) = true then (n, NameKind.cell) else (n, k)) :: _) = _
      rw [e]
      exact ih
/-- kinds in the block's scope come from the scope's -/
theorem relabel_back {env : Env} : ∀ {names : List (Str × NameKind)} {x : Str}, 
    ((names.map fun (n, k) => if (k == NameKind.free && env.scope.kind == .function && env.kindOf n == some .cell) then (n, NameKind.cell) else (n, k)).lookup x = some .cell ∨
    (names.map fun (n, k) => if (k == NameKind.free && env.scope.kind == .function && env.kindOf n == some .cell) then (n, NameKind.cell) else (n, k)).lookup x = some .free) →
    names.lookup x = some .free ∨ names.lookup x = some .cell
  | [], x, h => by simp at h
  | (n, k) :: r, x, h => by
    have ih := @relabel_back env r x
    cases hx : x == n with
    | true =>
      rw [List.lookup_cons, hx]
      show some k = _ ∨ some k = _
      have e : ∀ l, List.lookup x ((if (k == NameKind.free && env.scope.kind == .function && env.kindOf n == some .cell) = true then (n, NameKind.cell) else (n, k)) :: l) = if (k == NameKind.free && env.scope.kind == .function && env.kindOf n == some .cell) = true then some .cell else some k := fun l => by
        split <;> simp [List.lookup_cons, hx]
      rw [List.map_cons] at h
      have h : List.lookup x ((if (k == NameKind.free && env.scope.kind == .function && env.kindOf n == some .cell) = true then (n, NameKind.cell) else (n, k)) :: _) = some .cell ∨ List.lookup x ((if (k == NameKind.free && env.scope.kind == .function && env.kindOf n == some .cell) = true then (n, NameKind.cell) else (n, k)) :: _) = some .free := h
      rw [e] at h
      by_cases hc : (k == NameKind.free && env.scope.kind == .function && env.kindOf n == some .cell) = true
      · left
        simp at hc
        rw [hc.1.1]
      · rw [if_neg hc] at h
        rcases h with h | h
        · exact .inr h
        · exact .inl h
    | false =>
      rw [List.lookup_cons, hx]
      have e : ∀ l, List.lookup x ((if (k == NameKind.free && env.scope.kind == .function && env.kindOf n == some .cell) = true then (n, NameKind.cell) else (n, k)) :: l) = List.lookup x l := fun l => by
        split <;> simp [List.lookup_cons, hx]
      rw [List.map_cons] at h
      have h : List.lookup x ((if (k == NameKind.free && env.scope.kind == .function && env.kindOf n == some .cell) = true then (n, NameKind.cell) else (n, k)) :: _) = some .cell ∨ List.lookup x ((if (k == NameKind.free && env.scope.kind == .function && env.kindOf n == some .cell) = true then (n, NameKind.cell) else (n, k)) :: _) = some .free := h
      rw [e] at h
      exact ih h

section
variable {prog : Program} {w : World} {A : Around} {E : Value → Shared → Prop} {R : Result → Shared → Prop} {s : Shared}
theorem compLoop_any {elt target iter : Expr} {ifs : List Expr} {scope : Scope} {pos : Pos} {it acc : Value} {env : Env} (I : Nat → Shared → Prop)
    (turn : ∀ n s, I n s → wpAny (model prog w) A (pyNext it) (fun r s₁ => match r with
      | none => R (.ok .next) s₁
      | some v => wpAny (model prog w) A (letOwnedTupleGo target it v) (fun _ s₁' => wpAny (model prog w) A (assign target env v) (fun _ s₂ =>
          wpAny (model prog w) A (forIn ifs true fun c r => if r = true then do let ok ← isTrue c env (eval c env); pure (ForInStep.yield ok) else pure (ForInStep.yield r)) (fun ok s₃ =>
            if ok = true then wpAny (model prog w) A (eval elt env) (fun x s₄ =>
              wpAny (model prog w) A (call (.builtin "list.append") [acc, x]) (fun _ s₅ => ∃ m, m < n ∧ I m s₅) (notedBy (model prog w) A env fun e s' => R (.error e) s') s₄) (notedBy (model prog w) A env fun e s' => R (.error e) s') s₃
            else ∃ m, m < n ∧ I m s₃) (notedBy (model prog w) A env fun e s' => R (.error e) s') s₂) (notedBy (model prog w) A env fun e s' => R (.error e) s') s₁') (notedBy (model prog w) A env fun e s' => R (.error e) s') s₁) (notedBy (model prog w) A env fun e s' => R (.error e) s') s)
    (n : Nat) (h : I n s) :
    codeAny (model prog w) A (.compLoop (.ListComp elt [⟨target, iter, ifs, 0⟩] scope pos) 0 it acc env) R s := by
  refine codeAny_loop rfl I (fun n s hI => ?_) n h
  show wpAny _ A ((compTurn (.ListComp elt [⟨target, iter, ifs, 0⟩] scope pos) 0 it acc env).onRaise (fun x => do noteFrame x env; theTreesLotGoes x)) _ _ s
  refine wpAny_noted ?_
  rw [compTurn_list]
  refine wpAny_bind (wpAny_standAt (wpAny_bind (wpAny_mono (turn n s hI) (fun r s₁ h₁ => ?_) fun _ _ h' => h')))
  cases r with
  | none => exact wpAny_pure h₁
  | some v =>
    refine wpAny_bind (wpAny_mono h₁ (fun _ s₁' h₁' => ?_) fun _ _ h' => h')
    refine wpAny_bind (wpAny_mono h₁' (fun _ s₂ h₂ => wpAny_bind (wpAny_mono h₂ (fun ok s₃ h₃ => ?_) fun _ _ h' => h')) fun _ _ h' => h')
    cases ok with
    | false => exact wpAny_pure ⟨rfl, h₃⟩
    | true =>
      exact wpAny_bind (wpAny_bind (wpAny_mono h₃ (fun x s₄ h₄ => wpAny_bind (wpAny_mono h₄ (fun _ s₅ h₅ => wpAny_pure (wpAny_pure ⟨rfl, h₅⟩)) fun _ _ h' => h')) fun _ _ h' => h'))
end

/-- its context: the block's names N', its frame at C, the iterator's records ex -/
def cxComp (X : Cx) (scope : Scope) (N' : List Str) (C : Addr) (ex : List Addr) (s : Shared) (H : Hp) : Cx :=
  { X with N := N', s₀ := s, H₀ := H, env := compEnvC scope (clOf X.env scope.names []) C X.env, outer := X.stack, stack := X.stack, ex := ex, fn := fun _ => false, pn := [], xe := fun _ _ => False }
/-- cap: for each of the block's names the slot of the def's name that it means, none for its own -/
def capOk (N N' : List Str) (cap : List (Option Nat)) (names : List (Str × NameKind)) : Bool :=
  (N'.zip cap).all fun p => match p.2 with
    | none => true
    | some j => N[j]? == some p.1 && names.lookup p.1 == some .free
structure CompOk (X : Cx) (scope : Scope) (N' : List Str) (cap : List (Option Nat)) : Prop where
  kind : scope.kind = .function
  nocell : ∀ y ∈ scope.names, y.2 ≠ .cell
  names : ∀ y ∈ scope.names, y.2 = .local → scope.names.lookup y.1 = some .local
  freeB : (scope.names.all fun y => y.2 != .free || X.env.scope.names.lookup y.1 == some .cell || X.env.scope.names.lookup y.1 == some .free) = true
  len : cap.length = N'.length
  cap : capOk X.N N' cap scope.names = true
theorem CompOk.free {X : Cx} {scope : Scope} {N' : List Str} {cap : List (Option Nat)} (c : CompOk X scope N' cap) : ∀ y ∈ scope.names, y.2 = .free → (X.env.scope.names.lookup y.1 = some .cell ∨ X.env.scope.names.lookup y.1 = some .free) := fun y hy hf => by
  have h := List.all_eq_true.mp c.freeB y hy
  rw [hf] at h
  simpa using h
/-- the block's names at the start of each turn -/
def capSt (cap : List (Option Nat)) (σ : St) : St := cap.map fun o => match o with
  | none => none
  | some j => (σ[j]?).join
theorem capOk_get {N N' : List Str} {cap : List (Option Nat)} {names : List (Str × NameKind)} (h : capOk N N' cap names = true) {i : Nat} {x : Str} {j : Nat} (h1 : N'[i]? = some x) (h2 : cap[i]? = some (some j)) :
    N[j]? = some x ∧ names.lookup x = some .free := by
  have hm : (x, some j) ∈ N'.zip cap := by
    refine List.mem_of_getElem? (i := i) ?_
    rw [List.getElem?_zip_eq_some]
    exact ⟨h1, h2⟩
  have := List.all_eq_true.mp h _ hm
  simpa using this
section
variable {X : Cx} {pins : List (Addr × Obj)} {σ : St} {H : Hp} {s : Shared} {scope : Scope} {N' : List Str} {cap : List (Option Nat)}
theorem CompOk.clos (c : CompOk X scope N' cap) (I : Inv X pins σ H s) : ∀ y ∈ scope.names, y.2 = .free → ∃ a, X.env.cells.lookup y.1 = some a := fun y hy hf => I.ok.has y.1 (c.free y hy hf)
/-- the block's frame laid: the invariant inside -/
theorem comp_start (c : CompOk X scope N' cap) (I : Inv X pins σ H s) {fp : List Addr} (hf : ∀ b ∈ fp, FpOk X pins H b) (ho : ∀ b ∈ fp, ∃ o, s.heap.get? b = some o) {h₁ : Heap} {t : Nat} (hns : h₁.Ns s.heap.objs.size (fun _ => none))
    (hsb : ∀ b o, s.heap.get? b = some o → h₁.get? b = some o) : Inv (cxComp X scope N' s.heap.objs.size fp s H) [] (capSt cap σ) H { s with heap := h₁, toks := t } := by
  have hcl := c.clos I
  have sub := clOf_sub (env := X.env) scope.names [] hcl (fun x c e => by simp at e)
  have CI : ∀ x a, (clOf X.env scope.names []).lookup x = some a → X.env.cells.lookup x = some a := sub
  have cz : ∀ x a, (clOf X.env scope.names []).lookup x = some a → a < s.heap.objs.size := fun x a e => by
    obtain ⟨v, o, q, _⟩ := I.cell x a (CI x a e)
    exact Heap.lt_size q
  have fz : ∀ b ∈ fp, b ≠ s.heap.objs.size → True := fun _ _ _ => trivial
  refine ⟨⟨I.ok.mod, c.kind, I.ok.glob, I.ok.blt, Nat.le_refl _, fun x y a h1 h2 => I.ok.inj x y a (CI x a h1) (CI y a h2), fun x hx => ?_, fun x a h => (by cases h), I.ok.hd, I.ok.frames, .inl rfl, fun b hb => ?_, I.bs, Nat.le_trans I.ok.bsz I.sz, fun b o e hb => ?_, fun b hb => ?_, I.stack, I.stkFree⟩,
    rfl, I.bare, Un.kept hsb, ⟨_, hns, fun i x v h1 h2 h3 => ?_⟩, fun x a e => ?_, I.hok.fresh (Nat.le_refl _), fun x a e => I.freeC x a (CI x a e), fun p hp => by simp [cxComp] at hp, I.hok.kept hsb, ?_⟩
  · have hx : (relabel scope X.env).names.lookup x = some .cell ∨ (relabel scope X.env).names.lookup x = some .free := hx
    rcases relabel_back hx with h | h
    · exact clOf_has (env := X.env) scope.names [] (.inl (PySem.mem_of_lookup h))
    · exact absurd rfl (c.nocell _ (PySem.mem_of_lookup h))
  · obtain ⟨o, e⟩ := ho b hb
    exact ⟨Nat.ne_of_lt (Heap.lt_size e), fun x a e => (hf b hb).2.2.2.2.1 x a (CI x a e)⟩
  · rcases (hf b hb).2.2.2.1 with z | z
    · exact I.ok.noex b o e z
    · exact absurd (Nat.lt_of_lt_of_le (Heap.lt_size e) (Nat.le_trans I.ok.bsz z)) (Nat.lt_irrefl _)
  · intro z
    rcases List.mem_cons.mp (I.stkSub b z) with q | q
    · exact (hf b hb).2.1 q
    · exact (hf b hb).2.2.1 q
  · have hi : i < cap.length := by
      unfold capSt at h2
      have := (List.getElem?_eq_some_iff.mp h2).1
      simpa using this
    obtain ⟨j, hj, hv⟩ : ∃ j, cap[i]? = some (some j) ∧ σ[j]? = some (some v) := by
      unfold capSt at h2
      rw [List.getElem?_map] at h2
      cases e : cap[i]? with
      | none => rw [e] at h2; cases h2
      | some o =>
        rw [e] at h2
        cases o with
        | none => cases h2
        | some j =>
          refine ⟨j, rfl, ?_⟩
          have h2 : (σ[j]?).join = some v := Option.some.inj h2
          cases q : σ[j]? with
          | none => rw [q] at h2; cases h2
          | some y => rw [q] at h2; cases y with
            | none => cases h2
            | some z => exact congrArg some h2
    obtain ⟨hN, hfree⟩ := capOk_get c.cap h1 hj
    have hk := c.free (x, .free) (PySem.mem_of_lookup hfree) rfl
    obtain ⟨m, hm, hl⟩ := I.loc
    obtain ⟨u, ru, l⟩ := hl j x v hN hv (hk.elim (fun z => .inr (.inl z)) fun z => .inr (.inr z))
    refine ⟨u, ru, .inr ⟨relabel_free hfree, ?_⟩⟩
    rcases l with ⟨k, _⟩ | ⟨_, a, ea, ca⟩
    · have k : X.env.scope.names.lookup x = some .local := k
      rcases hk with z | z <;> · rw [z] at k; cases k
    · obtain ⟨a', ea'⟩ := clOf_has (env := X.env) (x := x) scope.names [] (.inl (PySem.mem_of_lookup hfree))
      have := CI x a' ea'
      rw [ea] at this; cases this
      obtain ⟨o, q, d⟩ := ca
      exact ⟨a, ea', o, hsb a o q, d⟩
  · obtain ⟨v, o, q, d⟩ := I.cell x a (CI x a e)
    exact ⟨v, o, hsb a o q, d⟩
  · unfold capSt
    rw [List.length_map]
    exact c.len
end
/-- the tests of a comprehension -/
def PIfs (Y : Cx) (ifs : List Expr) (t : TT) : Prop :=
  ∀ (pins : List (Addr × Obj)) (s : Shared) (σ : St) (H : Hp) (Q : Bool → Hp → Prop) (E : Value → Shared → Prop), Inv Y pins σ H s → t σ H Q →
    wpAny (model Y.prog Y.w) Y.A (forIn ifs true fun c r => if r = true then do let ok ← isTrue c Y.env (eval c Y.env); pure (ForInStep.yield ok) else pure (ForInStep.yield r)) (TP Y pins σ Q) E s
def tTrue : TT := fun _ H Q => Q true H
theorem pifs_nil {Y : Cx} : PIfs Y [] tTrue := fun pins s σ H Q E I h => wpAny_tests_nil ⟨H, I, h⟩
/-- a target that stores into the slots of own alone -/
def GKp (own : Nat → Bool) (g : TG) : Prop := ∀ v σ H Q, g v σ H Q → g v σ H fun σ' H' => (σ'.length = σ.length ∧ ∀ i, own i = false → σ'[i]? = σ[i]?) ∧ Q σ' H'
theorem gkp_name {own : Nat → Bool} {j : Nat} (h : own j = true := by rfl) : GKp own (gName j) := fun v σ H Q q =>
  ⟨⟨List.length_set .., fun i hi => List.getElem?_set_ne (fun e => by rw [e, hi] at h; cases h)⟩, q⟩
def ownOf (cap : List (Option Nat)) (i : Nat) : Bool := cap[i]? == some none
/-- what a comprehension reads: W by the turn, a measure, the items so far and the heap (the new list at D among it) -/
def tComp (cap : List (Option Nat)) (wi : TI) (g : TG) (tt : TT) (te : TE) : TE := fun σ H Q => wi σ H fun J H1 => ∀ D, H1 D = none →
  ∃ W : Nat → Nat → List V → Hp → Prop, (∃ m, W 0 m [] (upd H1 D (.lst []))) ∧ ∀ i m ys H2, W i m ys H2 → H2 D = some (.lst ys) ∧
    ((J.stop i H2 ∧ Q (.ref D) H2) ∨ (J.go i H2 ∧ ys.length < sizeLine ∧ ∃ N : List V → Hp → Prop, (∀ ys' H', N ys' H' → ∃ m', m' < m ∧ W (i + 1) m' ys' H') ∧ ∀ x H3, J.yld i H2 x H3 → g x (capSt cap σ) H3 fun σ4 H4 => tt σ4 H4 fun b H5 =>
      if b = true then te σ4 H5 fun y H6 => H6 D = some (.lst ys) ∧ N (ys ++ [y]) (upd H6 D (.lst (ys ++ [y]))) else N ys H5))
section
variable {X : Cx} {pins : List (Addr × Obj)} {σ : St} {H : Hp} {s : Shared} {scope : Scope} {N' : List Str} {cap : List (Option Nat)}
theorem comp_core {tg elt iter : Expr} {ifs : List Expr} {pos : Pos} {g : TG} {tt : TT} {te : TE} {it : Addr} {fp : List Addr} {tn : Nat → Heap → Prop} {J : It} {RR : Value → Addr → Result → Shared → Prop} {Q : VK} {E : Value → Shared → Prop}
    (c : CompOk X scope N' cap) (hc : X.calm = true) (I : Inv X pins σ H s) (T : Turn X.prog X.w X.K tg J fp it tn) (st : tn 0 s.heap) (hf : ∀ b ∈ fp, FpOk X pins H b)
    (hg : ∀ C ex s H, PG (cxComp X scope N' C ex s H) tg g) (hk : GKp (ownOf cap) g) (hi : ∀ C ex s H, PIfs (cxComp X scope N' C ex s H) ifs tt) (he : ∀ C ex s H, PE (cxComp X scope N' C ex s H) elt te)
    (h : ∀ D, H D = none →
      ∃ W : Nat → Nat → List V → Hp → Prop, (∃ m, W 0 m [] (upd H D (.lst []))) ∧ ∀ i m ys H2, W i m ys H2 → H2 D = some (.lst ys) ∧
        ((J.stop i H2 ∧ Q (.ref D) H2) ∨ (J.go i H2 ∧ ys.length < sizeLine ∧ ∃ N : List V → Hp → Prop, (∀ ys' H', N ys' H' → ∃ m', m' < m ∧ W (i + 1) m' ys' H') ∧ ∀ x H3, J.yld i H2 x H3 → g x (capSt cap σ) H3 fun σ4 H4 => tt σ4 H4 fun b H5 =>
          if b = true then te σ4 H5 fun y H6 => H6 D = some (.lst ys) ∧ N (ys ++ [y]) (upd H6 D (.lst (ys ++ [y]))) else N ys H5)))
    (hRR : ∀ D C H' s', Inv X pins σ H' s' → FpOk X pins H' C → (∃ m, s'.heap.Ns C m) → Q (.ref D) H' → RR (.ref D) C (.ok .next) s') :
    wpAny (model X.prog X.w) X.A (newList []) (fun acc s₃ => wpAny (model X.prog X.w) X.A (newFunctionEnv scope X.env.globals (clOf X.env scope.names []) [] X.env.qual none .none (some X.env)) (fun cenv s₄ =>
      codeAny (model X.prog X.w) X.A (.compStart (.ListComp elt [⟨tg, iter, ifs, 0⟩] scope pos) 0 (.ref it) acc { cenv with scope := relabel scope X.env }) (RR acc cenv.locals) s₄) E s₃) E s := by
  refine wpAny_newObj_type (wpAny_newFunctionEnv c.nocell (by intro y hy; simp at hy) (fun h₁ hns₁ hsb₁ => ?_) c.kind)
  dsimp only at hns₁ hsb₁ ⊢
  have hD : H s.heap.objs.size = none := I.hok.fresh (Nat.le_refl _)
  have I1 : Inv X pins σ (upd H s.heap.objs.size (.lst [])) { s with heap := s.heap.push { cls := .type "list", dict := none, data := .seq ([] : List Value).toArray } } :=
    I.laid (t' := s.toks) (fun b u e => Heap.get?_push_of_some _ e) (Nat.le_refl _) ⟨Nat.zero_le _, [], 0, .nil, Heap.get?_push_size _ rfl⟩
  have ob : ∀ b ∈ fp, ∃ o, s.heap.get? b = some o ∧ ∀ v, o.data ≠ .cell v := T.obj 0 _ st
  have hf1 : ∀ b ∈ fp, FpOk X pins (upd H s.heap.objs.size (.lst [])) b := fun b hb => by
    obtain ⟨o, e, _⟩ := ob b hb
    have : b ≠ s.heap.objs.size := Nat.ne_of_lt (Heap.lt_size e)
    exact ⟨by rw [upd_ne this]; exact (hf b hb).1, (hf b hb).2⟩
  generalize hs1 : ({ s with heap := s.heap.push { cls := .type "list", dict := none, data := .seq ([] : List Value).toArray } } : Shared) = s1 at I1
  have hh : s.heap.push { cls := .type "list", dict := none, data := .seq ([] : List Value).toArray } = s1.heap := by rw [← hs1]
  have old1 : ∀ b o, s.heap.get? b = some o → s1.heap.get? b = some o := fun b o e => by rw [← hh]; exact Heap.get?_push_of_some _ e
  rw [hh] at hns₁ hsb₁ ⊢
  have old2 : ∀ b o, s1.heap.get? b = some o → h₁.get? b = some o := fun b o e => hsb₁.extBut b o (Nat.ne_of_lt (Heap.lt_size e)) (Heap.get?_push_of_some _ e)
  have J0 : Inv (cxComp X scope N' s1.heap.objs.size fp s1 (upd H s.heap.objs.size (.lst []))) [] (capSt cap σ) (upd H s.heap.objs.size (.lst [])) { s1 with heap := h₁, toks := s.toks + ([] : List (Str × Value)).length } :=
    comp_start c I1 hf1 (fun b hb => (ob b hb).imp fun o e => old1 b o e.1) hns₁ old2
  have es4 : ({ heap := h₁, gens := s.gens, drawn := s.drawn, toks := s.toks + ([] : List (Str × Value)).length, os := s.os } : Shared) = { s1 with heap := h₁, toks := s.toks + ([] : List (Str × Value)).length } := by rw [← hs1]
  have st4 : tn 0 ({ s1 with heap := h₁, toks := s.toks + ([] : List (Str × Value)).length } : Shared).heap := T.keep 0 _ _ st fun b hb o e => old2 b o (old1 b o e)
  rw [es4]
  generalize ({ s1 with heap := h₁, toks := s.toks + ([] : List (Str × Value)).length } : Shared) = s4 at J0 st4 ⊢
  obtain ⟨W, ⟨m0, w0⟩, step⟩ := h _ hD
  generalize hY : cxComp X scope N' s1.heap.objs.size fp s1 (upd H s.heap.objs.size (.lst [])) = Y at J0
  have stat : ∀ {H' : Hp}, (∀ b ∈ fp, H' b = none) → ∀ b ∈ fp, FpOk Y [] H' b := fun hn b hb => by
    obtain ⟨o, e, _⟩ := ob b hb
    have e1 := old1 b o e
    subst hY
    refine ⟨hn b hb, Nat.ne_of_lt (Heap.lt_size e1), fun z => ?_, .inl hb, fun x a q => (J0.ok.exf b hb).2 x a q, fun p hp => by simp [cxComp] at hp⟩
    exact J0.ok.exfs b hb z
  have loop : codeAny (model X.prog X.w) X.A (.compLoop (.ListComp elt [⟨tg, iter, ifs, 0⟩] scope pos) 0 (.ref it) (.ref s.heap.objs.size) (compEnvC scope (clOf X.env scope.names []) s1.heap.objs.size X.env)) (RR (.ref s.heap.objs.size) s1.heap.objs.size) s4 := by
    refine compLoop_any (fun n s' => ∃ i ys H', Inv Y [] (capSt cap σ) H' s' ∧ tn i s'.heap ∧ (∀ b ∈ fp, H' b = none) ∧ W i n ys H') ?_ m0 ⟨0, [], _, J0, st4, fun b hb => (hf1 b hb).1, w0⟩
    rintro n s3 ⟨i, ys, H3, I3, st3, fr3, w3⟩
    obtain ⟨hDl, alt⟩ := step i n ys H3 w3
    rcases alt with ⟨stop, q⟩ | ⟨go, hlen, NN, hNN, stp⟩
    · have := T.done Y (by rw [← hY]; rfl) (by rw [← hY]; rfl) (by rw [← hY]; rfl) (by rw [← hY]; exact hc) i [] s3 (capSt cap σ) H3 (notedBy (model X.prog X.w) X.A (compEnvC scope (clOf X.env scope.names []) s1.heap.objs.size X.env) fun e s' => RR (.ref s.heap.objs.size) s1.heap.objs.size (.error e) s') I3 (stat fr3) st3 stop
      subst hY
      refine thn this fun r s5 ⟨hr, I5⟩ => ?_
      subst hr
      refine hRR _ _ H3 s5 (I1.call' I5.os I5.base I5.hok I5.bare fun b hb => ?_) (I1.fpOk (Nat.le_refl _) I5.free) (I5.loc.imp fun m z => z.1) q
      obtain ⟨_, f1, f2, f3, f4, f5⟩ := hf1 b hb
      exact ⟨f3, f1, f4, f5⟩
    · have := T.item Y (by rw [← hY]; rfl) (by rw [← hY]; rfl) (by rw [← hY]; rfl) (by rw [← hY]; exact hc) i [] s3 (capSt cap σ) H3 (notedBy (model X.prog X.w) X.A (compEnvC scope (clOf X.env scope.names []) s1.heap.objs.size X.env) fun e s' => RR (.ref s.heap.objs.size) s1.heap.objs.size (.error e) s') I3 (stat fr3) st3 go
      have hgY := hg s1.heap.objs.size fp s1 (upd H s.heap.objs.size (.lst []))
      have hiY := hi s1.heap.objs.size fp s1 (upd H s.heap.objs.size (.lst []))
      have heY := he s1.heap.objs.size fp s1 (upd H s.heap.objs.size (.lst []))
      rw [hY] at hgY hiY heY
      have nox : ∀ {P : Value → Shared → Prop} e s', Y.xe e s' → P e s' := fun e s' z => by subst hY; exact False.elim z
      have eA : Y.A = X.A := by rw [← hY]; rfl
      have eP : Y.prog = X.prog := by rw [← hY]; rfl
      have eW : Y.w = X.w := by rw [← hY]; rfl
      have eE : Y.env = compEnvC scope (clOf X.env scope.names []) s1.heap.objs.size X.env := by rw [← hY]; rfl
      rw [← eA, ← eP, ← eW, ← eE] at this ⊢
      refine thn this fun r s5 ⟨u, hr, h5⟩ => ?_
      subst hr
      refine thn h5 fun _ s6 ⟨x, H6, I6, rx, y6, st6, fr6⟩ => ?_
      have I6' := I6.pinned (stat fr6) (T.obj _ _ st6)
      refine wpAny_mono (hgY _ s6 (capSt cap σ) H6 x u _ I6' rx (hk _ _ _ _ (stp x H6 y6))) (fun _ s7 ⟨σ7, H7, I7, ⟨k1, k2⟩, q7⟩ => ?_) nox
      refine thn (hiY _ s7 σ7 H7 _ _ I7 q7) fun ok s8 ⟨H8, I8, q8⟩ => ?_
      have again : ∀ {H9 : Hp} {s9 : Shared} {σ9 : St} {ys' : List V}, Inv Y ([] ++ pinsAt fp s6.heap) σ9 H9 s9 → σ9.length = (capSt cap σ).length → (∀ (i : Nat) v, (capSt cap σ)[i]? = some (some v) → σ9[i]? = some (some v)) → (∃ m', m' < n ∧ W (i + 1) m' ys' H9) → ∃ m, m < n ∧ ∃ i ys H', Inv Y [] (capSt cap σ) H' s9 ∧ tn i s9.heap ∧ (∀ b ∈ fp, H' b = none) ∧ W i m ys H' := by
        rintro H9 s9 σ9 ys' I9 hl hw ⟨m', hm, w9⟩
        refine ⟨m', hm, i + 1, ys', H9, I9.unpinned.weak hl.symm hw, T.keep _ _ _ st6 fun b hb o e => (I9.pin (b, o) (List.mem_append_right _ (List.mem_append_right _ (mem_pinsAt hb e)))).1, fun b hb => ?_, w9⟩
        obtain ⟨o, e, d⟩ := T.obj _ _ st6 b hb
        exact (I9.pin (b, o) (List.mem_append_right _ (List.mem_append_right _ (mem_pinsAt hb e)))).2.1
      have kw : ∀ (i : Nat) v, (capSt cap σ)[i]? = some (some v) → σ7[i]? = some (some v) := fun i v e => by
        rw [k2 i ?_]
        · exact e
        · unfold ownOf
          cases q : cap[i]? with
          | none => rfl
          | some o =>
            cases o with
            | none =>
              unfold capSt at e
              rw [List.getElem?_map, q] at e
              cases e
            | some j => rfl
      cases ok with
      | false =>
        rw [if_neg Bool.false_ne_true] at q8 ⊢
        exact again I8 k1 kw (hNN _ _ q8)
      | true =>
        rw [if_pos rfl] at q8 ⊢
        refine wpAny_mono (heY _ s8 σ7 H8 _ I8 q8) (fun u9 s9 ⟨y, H9, I9, ry, hD9, q9⟩ => ?_) nox
        refine wpAny_mono (mt_append (X := Y) _ s9 σ7 H9 (.ref s.heap.objs.size) [y] (.ref s.heap.objs.size) [u9] (fun _ H10 => NN (ys ++ [y]) H10) I9 rfl (.cons ry .nil) ⟨_, ys, y, rfl, rfl, hD9, hlen, q9⟩) (fun _ s10 ⟨_, H10, I10, _, q10⟩ => ?_) nox
        exact again I10 k1 kw (hNN _ _ q10)
  exact codeAny_compStart_list loop (T.self X.A 0 _ _ _ st4 loop)

theorem turned_of {C : Addr} {H' : Hp} {s' : Shared} (I' : Inv X pins σ H' s') (fC : FpOk X pins H' C) {h' : Heap} (hs' : Heap.SameBut C s'.heap h') : Inv X pins σ H' { s' with heap := h' } := by
  obtain ⟨f0, f1, f2, f3, f4, f5⟩ := fC
  exact I'.turned (t' := s'.toks) (fun b o hb e => hs'.extBut b o hb e) f0 f1 f3 f4 f5
/-- a list comprehension of one clause -/
theorem pe_comp {tg elt iter : Expr} {ifs : List Expr} {pos : Pos} {wi : TI} {g : TG} {tt : TT} {te : TE} (c : CompOk X scope N' cap) (hc : X.calm = true) (hit : PI X tg iter wi)
    (hg : ∀ C ex s H, PG (cxComp X scope N' C ex s H) tg g) (hk : GKp (ownOf cap) g) (hi : ∀ C ex s H, PIfs (cxComp X scope N' C ex s H) ifs tt) (he : ∀ C ex s H, PE (cxComp X scope N' C ex s H) elt te)
    (hs : ∀ x, foldedSetIterable iter X.env x = pure x := by intro _; rfl) : PE X (.ListComp elt [⟨tg, iter, ifs, 0⟩] scope pos) (tComp cap wi g tt te) := by
  intro pins s σ H Q I h
  rw [eval_ListComp]
  refine wpAny_comprehension_free (use := none) rfl hs (closureFor_ok (c.clos I)) c.kind c.names (thn (hit pins s σ H _ I h) fun v s1 h1 => thn h1 fun itv s2 h2 => ?_)
  obtain ⟨it, fp, tn, J, H2, e, I2, T, st2, f2, q⟩ := h2
  subst e
  refine comp_core c hc I2 T st2 f2 hg hk hi he q fun D C H' s' I' fC hn hq => ?_
  obtain ⟨m, hn⟩ := hn
  exact ⟨m, hn, fun h' hs' => ⟨.ref D, H', turned_of I' fC hs', rfl, hq⟩⟩
/-- name = a list comprehension -/
theorem ps_setc {i : Nat} {x : Str} {px spos : Pos} {tg elt iter : Expr} {ifs : List Expr} {pos : Pos} {wi : TI} {g : TG} {tt : TT} {te : TE} (hN : X.N.Nodup) (hx0 : X.N[i]? = some x) (hx : Loc X.env.scope x)
    (c : CompOk X scope N' cap) (hc : X.calm = true) (hit : PI X tg iter wi)
    (hg : ∀ C ex s H, PG (cxComp X scope N' C ex s H) tg g) (hk : GKp (ownOf cap) g) (hi : ∀ C ex s H, PIfs (cxComp X scope N' C ex s H) ifs tt) (he : ∀ C ex s H, PE (cxComp X scope N' C ex s H) elt te)
    (hsw : swapsWith (.ListComp elt [⟨tg, iter, ifs, 0⟩] scope pos) (some (.Name x px)) spos.line X.env = pure true := by rfl)
    (hs : ∀ x, foldedSetIterable iter X.env x = pure x := by intro _; rfl) (hf : X.fn x = true ∨ X.env.scope.names.lookup x = some .local := by first | exact .inl rfl | exact .inr rfl | assumption) : PS X (.Assign [.Name x px] (.ListComp elt [⟨tg, iter, ifs, 0⟩] scope pos) spos) (tAsg (tComp cap wi g tt te) (gName i)) := by
  intro pins s σ H D0 I h
  rw [exec_Assign_Name_used _ _ _ _ hsw]
  refine wpAny_bind (wpAny_standAt (wpAny_bind ?_))
  show wpAny _ X.A (do let _ ← comprehension (.ListComp elt [⟨tg, iter, ifs, 0⟩] scope pos) scope X.env _ (newList []) false (eval iter X.env) (some (assign (.Name x px) X.env))) _ _ s
  refine wpAny_bind (wpAny_mono (wpAny_comprehension_free (use := some (assign (.Name x px) X.env)) (Q := fun _ s' => SP X pins D0 .next s') rfl hs (closureFor_ok (c.clos I)) c.kind c.names
    (thn (hit pins s σ H _ I h) fun v s1 h1 => thn h1 fun itv s2 h2 => ?_)) (fun _ s' hq => wpAny_pure (wpAny_pure hq)) fun _ _ e => e)
  obtain ⟨it, fp, tn, J, H2, e, I2, T, st2, f2, q⟩ := h2
  subst e
  refine comp_core (Q := fun v H1 => gName i v σ H1 D0.nx) c hc I2 T st2 f2 hg hk hi he q fun D C H' s' I' fC hn hq => ?_
  obtain ⟨m, hn⟩ := hn
  refine wpAny_assign_Name (store_ok2 (v := .ref D) I' hN hx0 hx rfl (fun s'' I'' ⟨a, sb, ha⟩ => ?_) hf)
  have hne : C ≠ a := by
    rcases ha with z | z
    · rw [z]; exact fC.2.1
    · exact fun e => fC.2.2.2.2.1 x a z e.symm
  exact ⟨m, hn.sameBut sb hne, fun h' hs' => ⟨σ.set i (some (.ref D)), H', turned_of I'' fC hs', hq⟩⟩
end

theorem comp_list {K : PySem.W.Frag} {a D : Addr} {xs : List V} {g : TG} {tt : TT} {te : TE} {σ0 : St} {H1 : Hp} {R : Hp → Prop} (Pv : Nat → List V → Hp → Prop) (h0 : Pv 0 [] (upd H1 D (.lst [])))
    (hl : ∀ i ys H, i ≤ xs.length → Pv i ys H → SqL K H a xs ∧ H D = some (.lst ys) ∧ ys.length ≤ i) (hz : xs.length ≤ sizeLine)
    (hs : ∀ i x ys H, xs[i]? = some x → Pv i ys H → g x σ0 H fun σ4 H4 => tt σ4 H4 fun b H5 => if b = true then te σ4 H5 fun y H6 => H6 D = some (.lst ys) ∧ Pv (i + 1) (ys ++ [y]) (upd H6 D (.lst (ys ++ [y]))) else Pv (i + 1) ys H5)
    (hd : ∀ ys H, Pv xs.length ys H → R H) :
    ∃ W : Nat → Nat → List V → Hp → Prop, (∃ m, W 0 m [] (upd H1 D (.lst []))) ∧ ∀ i m ys H2, W i m ys H2 → H2 D = some (.lst ys) ∧
      (((Itl K a).stop i H2 ∧ R H2) ∨ ((Itl K a).go i H2 ∧ ys.length < sizeLine ∧ ∃ N : List V → Hp → Prop, (∀ ys' H', N ys' H' → ∃ m', m' < m ∧ W (i + 1) m' ys' H') ∧ ∀ x H3, (Itl K a).yld i H2 x H3 → g x σ0 H3 fun σ4 H4 => tt σ4 H4 fun b H5 =>
        if b = true then te σ4 H5 fun y H6 => H6 D = some (.lst ys) ∧ N (ys ++ [y]) (upd H6 D (.lst (ys ++ [y]))) else N ys H5)) := by
  refine ⟨fun i m ys H => m = xs.length - i ∧ i ≤ xs.length ∧ Pv i ys H, ⟨xs.length, by simp, Nat.zero_le _, h0⟩, ?_⟩
  rintro i m ys H2 ⟨rfl, hi, p⟩
  obtain ⟨q, hD, hly⟩ := hl i ys H2 hi p
  refine ⟨hD, ?_⟩
  by_cases hlt : i < xs.length
  · refine .inr ⟨⟨xs, xs[i], q, by simp [hlt]⟩, by omega, Pv (i + 1), fun ys' H' p' => ⟨xs.length - (i + 1), by omega, rfl, hlt, p'⟩, fun x H3 y => ?_⟩
    obtain ⟨e, y⟩ := y
    subst e
    exact hs i x ys _ (y xs q) p
  · have e : i = xs.length := by omega
    subst e
    exact .inl ⟨⟨xs, q, Nat.le_refl _⟩, hd ys H2 p⟩
theorem comp_range {lo : Int} {n : Nat} {D : Addr} {g : TG} {tt : TT} {te : TE} {σ0 : St} {H1 : Hp} {R : Hp → Prop} (Pv : Nat → List V → Hp → Prop) (h0 : Pv 0 [] (upd H1 D (.lst [])))
    (hl : ∀ i ys H, i ≤ n → Pv i ys H → H D = some (.lst ys) ∧ ys.length ≤ i) (hz : n ≤ sizeLine)
    (hs : ∀ i ys H, i < n → Pv i ys H → g (.int (lo + i)) σ0 H fun σ4 H4 => tt σ4 H4 fun b H5 => if b = true then te σ4 H5 fun y H6 => H6 D = some (.lst ys) ∧ Pv (i + 1) (ys ++ [y]) (upd H6 D (.lst (ys ++ [y]))) else Pv (i + 1) ys H5)
    (hd : ∀ ys H, Pv n ys H → R H) :
    ∃ W : Nat → Nat → List V → Hp → Prop, (∃ m, W 0 m [] (upd H1 D (.lst []))) ∧ ∀ i m ys H2, W i m ys H2 → H2 D = some (.lst ys) ∧
      (((Itr lo n).stop i H2 ∧ R H2) ∨ ((Itr lo n).go i H2 ∧ ys.length < sizeLine ∧ ∃ N : List V → Hp → Prop, (∀ ys' H', N ys' H' → ∃ m', m' < m ∧ W (i + 1) m' ys' H') ∧ ∀ x H3, (Itr lo n).yld i H2 x H3 → g x σ0 H3 fun σ4 H4 => tt σ4 H4 fun b H5 =>
        if b = true then te σ4 H5 fun y H6 => H6 D = some (.lst ys) ∧ N (ys ++ [y]) (upd H6 D (.lst (ys ++ [y]))) else N ys H5)) := by
  refine ⟨fun i m ys H => m = n - i ∧ i ≤ n ∧ Pv i ys H, ⟨n, by simp, Nat.zero_le _, h0⟩, ?_⟩
  rintro i m ys H2 ⟨rfl, hi, p⟩
  obtain ⟨hD, hly⟩ := hl i ys H2 hi p
  refine ⟨hD, ?_⟩
  by_cases hlt : i < n
  · refine .inr ⟨hlt, by omega, Pv (i + 1), fun ys' H' p' => ⟨n - (i + 1), by omega, rfl, hlt, p'⟩, fun x H3 y => ?_⟩
    obtain ⟨e, y⟩ := y
    subst e y
    exact hs i ys _ hlt p
  · have e : i = n := by omega
    subst e
    exact .inl ⟨Nat.le_refl _, hd ys H2 p⟩
end L2

set_option Elab.async false
set_option linter.all false
set_option maxRecDepth 100000
namespace L2
open PySem PySem.Spec PyProof.Rows
def CDivB (i j : Int) : Prop := 0 < j ∧ j ≤ 10 ^ 70
section
variable {X : Cx}
theorem op_fdivB : OpR X (binaryOp .FloorDiv) (rI CDivB fun i j => .int (i / j)) := opI fun i j _ _ _ _ _ hc q => by
  have h1 : (0 : Int) < j := hc.1
  have h2 : j ≤ 10 ^ 70 := hc.2
  refine floordiv_int (by omega) ?_ (.inl (PyProof.noPylong_of_log2 ?_))
  · rw [Int.fdiv_eq_ediv_of_nonneg _ (by omega)]
    exact q
  · have h3 : j.natAbs < 2 ^ 300 := by
      have : (j.natAbs : Int) = j := by omega
      have h4 : (10 : Int) ^ 70 < 2 ^ 300 := by decide
      omega
    have h5 : j.natAbs.log2 < 300 := (Nat.log2_lt (by omega)).mpr h3
    omega
/-- isinstance(x, C), C a built-in type -/
theorem call_isinst : CallR X (.builtin "isinstance") (fun xs H Q => ∃ x n t b, xs = [x, .ty n] ∧ TyOf X.K H x t ∧ PySem.W.kitOne X.K t (.type n) = some b ∧ Q (.bl b) H) := by
  intro pins s σ H xs us Q I r h
  obtain ⟨x, n, t, b, rfl, ty, e, q⟩ := h
  obtain ⟨u, v, rfl, ru, rv⟩ := Vals.two r
  cases rv
  exact isinst_ok I ru ty e fun tk => ⟨.bl b, H, I.tok _, rfl, q⟩
end
def eqVs (xs ys : List V) : Bool := xs.length == ys.length && (xs.zip ys).all fun p => eqV p.1 p.2
section
variable {X : Cx}
end

/-- the items of a list or tuple that stands at p -/
def seqV (H : Hp) (p : Addr) : Option (List V) := match H p with
  | some (.lst xs) => some xs
  | some (.tup xs) => some xs
  | some (.frz _ (.lst xs)) => some xs
  | _ => none
theorem seqV_cases {K : PySem.W.Frag} {H : Hp} {p : Addr} {xs : List V} (h : seqV H p = some xs) : SqL K H p xs ∨ SqT K H p xs := by
  unfold seqV at h
  split at h
  · rename_i e; cases h; exact .inl (.of e)
  · rename_i e; cases h; exact .inr (.of e)
  · rename_i o ys e; cases h; exact .inl (.inl (.inr ⟨o, e⟩))
  · cases h
def rIxF : R2 := fun x y H Q => ∃ p i xs v, x = .ref p ∧ y = .int i ∧ seqV H p = some xs ∧ atI xs i = some v ∧ Q v H
/-- the type of a value -/
def tyF (x : V) (H : Hp) : Option String := match x with
  | .non => some "NoneType"
  | .bl _ => some "bool"
  | .int _ => some "int"
  | .str _ => some "str"
  | .ref a => match H a with
    | some (.lst _) => some "list"
    | some (.frz _ (.lst _)) => some "list"
    | some (.tup _) => some "tuple"
    | some (.dK _) => some "dict"
    | some (.dT _) => some "dict"
    | _ => none
  | _ => none
def isTy (t n : String) : Bool := t == n || (t == "bool" && n == "int")
theorem tyF_of {K : PySem.W.Frag} {x : V} {H : Hp} {t : String} (h : tyF x H = some t) : TyOf K H x (.type t) ∧ (t = "NoneType" ∨ t = "bool" ∨ t = "int" ∨ t = "str" ∨ t = "list" ∨ t = "tuple" ∨ t = "dict") := by
  unfold tyF at h
  split at h
  · cases h; exact ⟨.non, by simp⟩
  · cases h; exact ⟨.bl _, by simp⟩
  · cases h; exact ⟨.int _, by simp⟩
  · cases h; exact ⟨.str _, by simp⟩
  · split at h
    · rename_i e; cases h; exact ⟨.lst e, by simp⟩
    · rename_i e; cases h; exact ⟨.frz e, by simp⟩
    · rename_i e; cases h; exact ⟨.tup e, by simp⟩
    · rename_i e; cases h; exact ⟨.dK e, by simp⟩
    · rename_i e; cases h; exact ⟨.dT e, by simp⟩
    · cases h
  · cases h
theorem kitOne_ty {K : PySem.W.Frag} {t n : String} (h : t = "NoneType" ∨ t = "bool" ∨ t = "int" ∨ t = "str" ∨ t = "list" ∨ t = "tuple" ∨ t = "dict") (hn : n = "bool" ∨ n = "int" ∨ n = "str" ∨ n = "list" ∨ n = "tuple" ∨ n = "dict") :
    PySem.W.kitOne K (.type t) (.type n) = some (isTy t n) := by
  rcases h with rfl | rfl | rfl | rfl | rfl | rfl | rfl <;> rcases hn with rfl | rfl | rfl | rfl | rfl | rfl <;> rfl
def lenF (x : V) (H : Hp) : Option Nat := match x with
  | .str y => if y.length ≤ sizeLine then some y.length else none
  | .ref p => match H p with
    | some (.lst xs) => some xs.length
    | some (.tup xs) => some xs.length
    | some (.frz _ (.lst xs)) => some xs.length
    | _ => none
  | _ => none
theorem lenF_of {K : PySem.W.Frag} {x : V} {H : Hp} {n : Nat} (h : lenF x H = some n) : LenV K x H n := by
  unfold lenF at h
  split at h
  · split at h
    · rename_i z; cases h; exact ⟨z, rfl⟩
    · cases h
  · split at h
    · rename_i e; cases h; exact .inl ⟨_, .of e, rfl⟩
    · rename_i e; cases h; exact .inr ⟨_, .of e, rfl⟩
    · rename_i o xs e; cases h; exact .inl ⟨_, .inl (.inr ⟨o, e⟩), rfl⟩
    · cases h
  · cases h
/-- two of one kind, both lists or both tuples -/
def kindV (H : Hp) (p : Addr) : Option Bool := match H p with
  | some (.lst _) => some true
  | some (.frz _ (.lst _)) => some true
  | some (.tup _) => some false
  | _ => none
theorem kindV_l {K : PySem.W.Frag} {H : Hp} {p : Addr} {xs : List V} (h : seqV H p = some xs) (k : kindV H p = some true) : SqL K H p xs := by
  rcases seqV_cases (K := K) h with q | q
  · exact q
  · unfold seqV at h
    unfold kindV at k
    split at h
    · rename_i e; cases h; exact .of e
    · rename_i e; rw [e] at k; cases k
    · rename_i o ys e; cases h; exact .inl (.inr ⟨o, e⟩)
    · cases h
def rEqF (neg : Bool) : R2 := fun x y H Q => ∃ l b k xs ys, x = .ref l ∧ y = .ref b ∧ seqV H l = some xs ∧ seqV H b = some ys ∧ kindV H l = some k ∧ kindV H b = some k ∧ xs.all flatV = true ∧ ys.all flatV = true ∧
  Q (.bl (if neg then !eqVs xs ys else eqVs xs ys)) H
section
variable {X : Cx}
theorem ix_F : IxR X rIxF := by
  intro value slice pins s σ H x y v u Q I rx ry h hs
  obtain ⟨p, i, xs, z, e1, e2, hq, he, q⟩ := h
  rcases seqV_cases (K := X.K) hq with g | g
  · exact ix_list value slice pins s σ H x y v u Q I rx ry ⟨p, xs, i, z, e1, e2, g, he, q⟩ hs
  · exact ix_tup value slice pins s σ H x y v u Q I rx ry ⟨p, xs, i, z, e1, e2, g, he, q⟩ hs
theorem call_isF : CallR X (.builtin "isinstance") (fun xs H Q => ∃ x n t, xs = [x, .ty n] ∧ tyF x H = some t ∧ (n = "bool" ∨ n = "int" ∨ n = "str" ∨ n = "list" ∨ n = "tuple" ∨ n = "dict") ∧ Q (.bl (isTy t n)) H) := by
  intro pins s σ H xs us Q I r h
  obtain ⟨x, n, t, e, ht, hn, q⟩ := h
  obtain ⟨ty, h7⟩ := tyF_of (K := X.K) ht
  exact call_isinst pins s σ H xs us Q I r ⟨x, n, _, _, e, ty, kitOne_ty h7 hn, q⟩
theorem call_lenF : CallR X (.builtin "len") (fun xs H Q => ∃ x n, xs = [x] ∧ lenF x H = some n ∧ Q (.int n) H) := by
  intro pins s σ H xs us Q I r h
  obtain ⟨x, n, e, hl, q⟩ := h
  exact call_len pins s σ H xs us Q I r ⟨x, n, e, lenF_of hl, q⟩
end
theorem scal_int {i j : Int} : scal (.int i) (.int j) = true := rfl
theorem scal_bl {i j : Bool} : scal (.bl i) (.bl j) = true := rfl
theorem scal_str {i j : Str} : scal (.str i) (.str j) = true := rfl
theorem atI_0 {α : Type} {x : α} {r : List α} : atI (x :: r) 0 = some x := atI_nat (j := 0) rfl
theorem atI_1 {α : Type} {x y : α} {r : List α} : atI (x :: y :: r) 1 = some y := atI_nat (j := 1) rfl
theorem atI_2 {α : Type} {x y z : α} {r : List α} : atI (x :: y :: z :: r) 2 = some z := atI_nat (j := 2) rfl
theorem atI_3 {α : Type} {x y z w : α} {r : List α} : atI (x :: y :: z :: w :: r) 3 = some w := atI_nat (j := 3) rfl
theorem atI_4 {α : Type} {x y z w v : α} {r : List α} : atI (x :: y :: z :: w :: v :: r) 4 = some v := atI_nat (j := 4) rfl

theorem isTys : isTy "NoneType" "bool" = false ∧ isTy "NoneType" "int" = false ∧ isTy "NoneType" "str" = false ∧ isTy "NoneType" "list" = false ∧ isTy "NoneType" "tuple" = false ∧ isTy "NoneType" "dict" = false ∧ isTy "bool" "bool" = true ∧ isTy "bool" "int" = true ∧ isTy "bool" "str" = false ∧ isTy "bool" "list" = false ∧ isTy "bool" "tuple" = false ∧ isTy "bool" "dict" = false ∧ isTy "int" "bool" = false ∧ isTy "int" "int" = true ∧ isTy "int" "str" = false ∧ isTy "int" "list" = false ∧ isTy "int" "tuple" = false ∧ isTy "int" "dict" = false ∧ isTy "str" "bool" = false ∧ isTy "str" "int" = false ∧ isTy "str" "str" = true ∧ isTy "str" "list" = false ∧ isTy "str" "tuple" = false ∧ isTy "str" "dict" = false ∧ isTy "list" "bool" = false ∧ isTy "list" "int" = false ∧ isTy "list" "str" = false ∧ isTy "list" "list" = true ∧ isTy "list" "tuple" = false ∧ isTy "list" "dict" = false ∧ isTy "tuple" "bool" = false ∧ isTy "tuple" "int" = false ∧ isTy "tuple" "str" = false ∧ isTy "tuple" "list" = false ∧ isTy "tuple" "tuple" = true ∧ isTy "tuple" "dict" = false ∧ isTy "dict" "bool" = false ∧ isTy "dict" "int" = false ∧ isTy "dict" "str" = false ∧ isTy "dict" "list" = false ∧ isTy "dict" "tuple" = false ∧ isTy "dict" "dict" = true := by decide
def tyO : Option HO → Option String
  | some (.lst _) => some "list"
  | some (.frz _ (.lst _)) => some "list"
  | some (.tup _) => some "tuple"
  | some (.dK _) => some "dict"
  | some (.dT _) => some "dict"
  | _ => none
def lenO : Option HO → Option Nat
  | some (.lst xs) => some xs.length
  | some (.tup xs) => some xs.length
  | some (.frz _ (.lst xs)) => some xs.length
  | _ => none
def seqO : Option HO → Option (List V)
  | some (.lst xs) => some xs
  | some (.tup xs) => some xs
  | some (.frz _ (.lst xs)) => some xs
  | _ => none
def kindO : Option HO → Option Bool
  | some (.lst _) => some true
  | some (.frz _ (.lst _)) => some true
  | some (.tup _) => some false
  | _ => none
theorem tyF_ref {a : Addr} {H : Hp} : tyF (.ref a) H = tyO (H a) := rfl
theorem tyF_int {i : Int} {H : Hp} : tyF (.int i) H = some "int" := rfl
theorem tyF_bl {i : Bool} {H : Hp} : tyF (.bl i) H = some "bool" := rfl
theorem tyF_str {i : Str} {H : Hp} : tyF (.str i) H = some "str" := rfl
theorem tyF_non {H : Hp} : tyF .non H = some "NoneType" := rfl
theorem lenF_ref {a : Addr} {H : Hp} : lenF (.ref a) H = lenO (H a) := rfl
theorem seqV_eq {a : Addr} {H : Hp} : seqV H a = seqO (H a) := rfl
theorem kindV_eq {a : Addr} {H : Hp} : kindV H a = kindO (H a) := rfl
theorem tyO_lst {xs : List V} : tyO (some (.lst xs)) = some "list" := rfl
theorem tyO_frz {o : Obj} {xs : List V} : tyO (some (.frz o (.lst xs))) = some "list" := rfl
theorem tyO_tup {xs : List V} : tyO (some (.tup xs)) = some "tuple" := rfl
theorem tyO_dK {xs} : tyO (some (.dK xs)) = some "dict" := rfl
theorem lenO_lst {xs : List V} : lenO (some (.lst xs)) = some xs.length := rfl
theorem lenO_frz {o : Obj} {xs : List V} : lenO (some (.frz o (.lst xs))) = some xs.length := rfl
theorem lenO_tup {xs : List V} : lenO (some (.tup xs)) = some xs.length := rfl
theorem seqO_lst {xs : List V} : seqO (some (.lst xs)) = some xs := rfl
theorem seqO_frz {o : Obj} {xs : List V} : seqO (some (.frz o (.lst xs))) = some xs := rfl
theorem seqO_tup {xs : List V} : seqO (some (.tup xs)) = some xs := rfl
theorem kindO_lst {xs : List V} : kindO (some (.lst xs)) = some true := rfl
theorem kindO_frz {o : Obj} {xs : List V} : kindO (some (.frz o (.lst xs))) = some true := rfl
theorem kindO_tup {xs : List V} : kindO (some (.tup xs)) = some false := rfl

theorem upd_old {H : Hp} {p q : Addr} {o u : HO} (hq : H q = some o) (hp : H p = none) : upd H p u q = some o := by rw [upd_ne (ne_of_none hq hp)]; exact hq
theorem Same.laid {H : Hp} {p : Addr} {u : HO} (hp : H p = none) : Same H (upd H p u) := fun _ _ h => upd_old h hp
theorem Same.step {H H1 : Hp} {p : Addr} {u : HO} (s : Same H H1) (hp : H1 p = none) : Same H (upd H1 p u) := s.trans (.laid hp)
theorem of_map_get {α : Type} {f : α → V} {l : List α} {i : Nat} {x : V} (h : (l.map f)[i]? = some x) : ∃ z, l[i]? = some z ∧ x = f z := by
  rw [List.getElem?_map] at h
  cases e : l[i]? with
  | none => rw [e] at h; cases h
  | some z => rw [e] at h; exact ⟨z, rfl, (Option.some.inj h).symm⟩
end L2

set_option Elab.async false
set_option linter.all false
set_option maxRecDepth 100000
namespace L2
open PySem PySem.Spec PyProof.Rows
section
variable {prog : Program} {w : World} {A : Around} {E : Value → Shared → Prop} {s : Shared}
end

section
variable {X : Cx} {tg : Expr}
end
end L2

set_option Elab.async false
set_option linter.all false
set_option maxRecDepth 100000
namespace L2
open PySem PySem.Spec PyProof.Rows
section
variable {X : Cx} {tg : Expr}
def rSlS : V → Option Int → Option Int → Hp → VK → Prop := fun x lo hi H Q => ∃ z, x = .str z ∧ z.length ≤ sizeLine ∧ Q (.str (Txt.slice z lo hi)) H
theorem sl_str : SlR X rSlS := by
  intro pins s σ H x v vl vu lo hi sl Q I rx hs pl pu h
  obtain ⟨z, rfl, hz, q⟩ := h
  obtain ⟨t, rfl⟩ := rx
  refine ⟨"str", _, F.slot_str_getitem.lookup, typeIs_str _ _ _, ?_⟩
  cases pl with
  | none =>
    cases pu with
    | none => exact wpAny_getItem_str_slice (l := none) (u := none) (st := none) hs rfl (post_val_or_str ⟨Nat.le_trans (Txt.slice_le z _ _) hz, fun t' k => ⟨.str _, H, I.tok _, ⟨_, rfl⟩, q⟩⟩)
    | int j uj => exact wpAny_getItem_str_slice (l := none) (u := some (j, uj)) (st := none) hs rfl (post_val_or_str ⟨Nat.le_trans (Txt.slice_le z _ _) hz, fun t' k => ⟨.str _, H, I.tok _, ⟨_, rfl⟩, q⟩⟩)
  | int i ui =>
    cases pu with
    | none => exact wpAny_getItem_str_slice (l := some (i, ui)) (u := none) (st := none) hs rfl (post_val_or_str ⟨Nat.le_trans (Txt.slice_le z _ _) hz, fun t' k => ⟨.str _, H, I.tok _, ⟨_, rfl⟩, q⟩⟩)
    | int j uj => exact wpAny_getItem_str_slice (l := some (i, ui)) (u := some (j, uj)) (st := none) hs rfl (post_val_or_str ⟨Nat.le_trans (Txt.slice_le z _ _) hz, fun t' k => ⟨.str _, H, I.tok _, ⟨_, rfl⟩, q⟩⟩)
theorem strsAre_of {zs : List Str} : ∀ {us : List Value}, Vals (zs.map V.str) us → StrsAre us zs := by
  induction zs with
  | nil => intro us r; cases r; exact .nil
  | cons z zs ih =>
    intro us r
    cases r with
    | cons r1 r2 =>
      obtain ⟨t, e⟩ := r1
      subst e
      exact .cons z t (ih r2)
def rJoin : V → List V → Hp → VK → Prop := fun x xs H Q => ∃ sep l zs, x = .str sep ∧ xs = [.ref l] ∧ H l = some (.lst (zs.map V.str)) ∧ (zs.map (·.length)).sum + zs.length * sep.length ≤ 16777216 ∧ Q (.str (Txt.join sep zs)) H
theorem mt_join : MtR X "str.join" rJoin := by
  intro pins s σ H x xs v us Q I rx rs h
  obtain ⟨sep, l, zs, rfl, rfl, hl, hz, q⟩ := h
  obtain ⟨t, rfl⟩ := rx
  obtain ⟨u, rfl, ru⟩ := rs.one
  cases ru
  obtain ⟨its, r, pl, _⟩ := I.list (.of hl)
  exact join_list pl.isList (by simpa using strsAre_of r) hz fun t' k => ⟨.str _, H, I.tok _, ⟨_, rfl⟩, q⟩
theorem keys_vals {P : Program} {w : World} : ∀ {kvs : List (Key × V)} {vs : List (Key × Value)} {acc : List Value}, KV kvs vs → acc.length = vs.length → (∀ (j : Nat) (v : Value), acc[j]? = some v → ∃ (k : Key) (x : Value), vs[j]? = some (k, x) ∧ (mixKind P w).is k v = true) → Vals (kvs.map fun p => kV p.1) acc := by
  intro kvs vs acc r
  unfold KV at r
  induction r generalizing acc with
  | nil =>
    intro hl h
    cases acc with
    | nil => exact .nil
    | cons _ _ => simp at hl
  | @cons p q kvs vs r t ih =>
    intro hl h
    cases acc with
    | nil => simp at hl
    | cons u acc =>
      refine .cons ?_ (ih (by simpa using hl) fun j v e => by simpa using h (j + 1) v (by simpa using e))
      obtain ⟨k, x, e, hk⟩ := h 0 u (by simp)
      simp at e
      have ek : q.1 = k := by rw [e]
      show RelV (kV p.1) u
      rw [r.1, ek]
      rcases keyIs_shape (show keyIs k u = true from hk) with ⟨i, t', rfl, rfl⟩ | ⟨z, t', rfl, rfl⟩
      · exact ⟨t', rfl⟩
      · exact ⟨t', rfl⟩
end
theorem Un.laidN {fs ex : List Addr} {H : Hp} {h h' : Heap} {a : Addr} {o : HO} (k : ∀ b u, h.get? b = some u → h'.get? b = some u) (ha : h.get? a = none) (hn : H a = none) : Un fs ex H (upd H a o) h h' where
  keep := fun b u q _ _ _ => k b u q
  slot := fun b u q _ _ _ => ⟨u.slots, k b u q⟩
  free := fun b u q n _ => by
    have hb : b ≠ a := fun e => by rw [e, ha] at q; cases q
    rw [upd_ne hb]; exact n
  there := fun b u q _ => ⟨u, k b u q⟩
  tups := fun b xs q => upd_old q hn
  frzs := fun b u xs q => upd_old q hn
  tbls := fun b ps q => ⟨#[], by rw [upd_old q hn]; simp⟩
theorem Inv.laidN {X : Cx} {pins : List (Addr × Obj)} {σ : St} {H : Hp} {s : Shared} {h' : Heap} {a : Addr} {o : HO} {t' : Nat} (I : Inv X pins σ H s) (k : ∀ b u, s.heap.get? b = some u → h'.get? b = some u) (ha : s.heap.get? a = none)
    (new : ObjOk X.prog X.w (upd H a o) h' a o) : H a = none ∧ Inv X pins σ (upd H a o) { s with heap := h', toks := t' } := by
  have hn : H a = none := by
    cases q : H a with
    | none => rfl
    | some u =>
      obtain ⟨ob, e⟩ : ∃ ob, s.heap.get? a = some ob := by
        have x := I.hok a u q
        cases u with
        | lst xs => obtain ⟨_, _, _, _, e⟩ := x; exact ⟨_, e⟩
        | tup xs => obtain ⟨_, _, _, p⟩ := x; obtain ⟨_, e, _⟩ := p; exact ⟨_, e⟩
        | dK kvs => obtain ⟨_, _, _, _, o, _, _, e, _⟩ := x; exact ⟨_, e⟩
        | dT kvs => obtain ⟨_, _, _, _, o, _, _, e, _⟩ := x; exact ⟨_, e⟩
        | set S n => obtain ⟨o, _, _, _, e, _⟩ := x; exact ⟨_, e⟩
        | ins C dx fs => obtain ⟨_, _, _, e, _⟩ := x; exact ⟨_, e⟩
        | own y => exact x
        | xd fs => obtain ⟨_, ⟨_, _, _, e, _⟩, _⟩ := x; exact ⟨_, e⟩
        | rng lo hi => obtain ⟨_, _, _, e⟩ := x; exact ⟨_, e⟩
        | frz ob u => obtain ⟨e, _⟩ := x; exact ⟨_, e⟩
        | tbl ps => exact ⟨_, (show s.heap.get? a = some _ from x)⟩
        | met f y => exact ⟨_, (show s.heap.get? a = some _ from x)⟩
        | ext φ => obtain ⟨_, e, _⟩ := x; exact e
      rw [ha] at e; cases e
  refine ⟨hn, I.un (Un.laidN k ha hn) fun b u e => ?_⟩
  by_cases hb : b = a
  · subst hb; rw [upd_same] at e; cases e; exact new
  · rw [upd_ne hb] at e
    exact (I.hok b u e).stay (fun c v _ q => k c v q) (fun c q => upd_old q hn) fun c xs q => upd_old q hn
theorem sortedHeap_at {h : Heap} {a : Addr} {vs : List Value} {out : Array Value} {n : Nat} (ho : h.get? a = some (seqObj "list" vs.toArray n)) :
    (∃ e, (sortedHeap h a vs out).get? a = some (seqObj "list" out e)) ∧ ∀ b o, b ≠ a → h.get? b = some o → (sortedHeap h a vs out).get? b = some o := by
  have ha : a < h.objs.size := Heap.lt_size ho
  unfold sortedHeap
  obtain ⟨e1, ho1⟩ : ∃ e1, (h.update a (Obj.mapSeq fun _ => #[])).get? a = some (seqObj "list" #[] e1) := ⟨_, get?_update_seq ho (fun _ => #[])⟩
  have ho2 := Heap.get?_push_of_some (seqObj "list" #[] 0) (Heap.get?_push_of_some (seqObj "tuple" vs.toArray 0) ho1)
  refine ⟨⟨_, get?_update_seq ho2 (fun _ => out)⟩, fun b o hb e => ?_⟩
  rw [Heap.get?_update_other _ _ (Ne.symm hb)]
  refine Heap.get?_push_of_some _ (Heap.get?_push_of_some _ ?_)
  rw [Heap.get?_update_other _ _ (Ne.symm hb)]
  exact e
section
variable {prog : Program} {w : World} {A : Around} {E : Value → Shared → Prop} {s : Shared} {T : String} {r d : Addr} {n : Nat} {P : Nat → Value → Prop} {OK : Heap → Prop} {Q : Value → Shared → Prop}
theorem sorted_src (K : PySem.W.KdlSrc prog w T r d n P OK) (hh : A.handled = none) (hok : OK s.heap) (hn : n < 64) (hint : ∀ vs : List Value, vs.length = n → (∀ (j : Nat) (v : Value), vs[j]? = some v → P j v) → ∃ ns, IntsAre vs ns)
    (h : ∀ (D : Addr) (h' : Heap) (tk e : Nat) (vs : List Value) (ns ns' : List Int) (out : Array Value), (∀ b o, s.heap.get? b = some o → h'.get? b = some o) → s.heap.get? D = none → h'.get? D = some (seqObj "list" out e) →
      vs.length = n → (∀ (j : Nat) (v : Value), vs[j]? = some v → P j v) → IntsAre vs ns → IntsAre out.toList ns' → ns'.Perm ns → ns'.Pairwise (· ≤ ·) → Q (.ref D) { s with heap := h', toks := tk }) :
    wpAny (model prog w) A (call (.builtin "sorted") [.ref r]) Q E s := by
  refine Calls.call_function_entry PyProof.Rows.kind_sorted PyProof.Rows.plain_sorted PyProof.Rows.entry_sorted (PyProof.Rows.args_sorted1 _) ?_
  unfold Builtin.«sorted»
  refine wpAny_bind (m := checkCount "sorted" 1 1 _) (wpAny_pure (wpAny_bind ?_))
  refine PySem.W.kdu_collect (A := A.in1) K hh hok (by rw [sizeLine_eq]; omega) fun h1 tk acc hk hacc => ?_
  have hl : acc.toList.length = n := by rw [Array.length_toList]; exact hacc.1
  have hP : ∀ (j : Nat) (v : Value), acc.toList[j]? = some v → P j v := fun j v e => hacc.2 j v (by rw [← Array.getElem?_toList]; exact e)
  obtain ⟨ns, hI⟩ := hint acc.toList hl hP
  refine wpAny_bind (wpAny_newList ?_ (by rw [hl, sizeLine_eq]; omega))
  have hoL : (h1.push { cls := .type "list", data := .seq acc.toList.toArray }).get? h1.objs.size = some (seqObj "list" acc.toList.toArray 0) := Heap.get?_push_size _ rfl
  have hsz : s.heap.get? h1.objs.size = none := by
    cases q : s.heap.get? h1.objs.size with
    | none => rfl
    | some o => exact absurd (Heap.lt_size (hk _ _ q)) (Nat.lt_irrefl _)
  refine wpAny_bind (wpAny_holding (wpAny_call_entry slot_list_sort ⟨_, hoL, rfl⟩ entry_list_sort (list_sort_tree hoL hI (by rw [hl]; exact hn) fun out ns' i p st => ⟨_, rfl, ?_⟩) (args_list_sort _)))
  obtain ⟨⟨e, g1⟩, g2⟩ := sortedHeap_at (out := out) hoL
  refine wpAny_pure ⟨_, rfl, h _ _ _ e acc.toList ns ns' out (fun b o q => g2 b o ?_ (Heap.get?_push_of_some _ (hk b o q))) hsz g1 hl hP hI i p st⟩
  exact Nat.ne_of_lt (Heap.lt_size (hk b o q))
end

theorem intsAre_vals : ∀ {vs : List Value} {ns : List Int}, IntsAre vs ns → Vals (ns.map V.int) vs
  | _, _, .nil => .nil
  | _, _, .cons n t r => .cons ⟨t, rfl⟩ (intsAre_vals r)
theorem vals_ints_inj {vs : List Value} {ns ms : List Int} (a : Vals (ns.map V.int) vs) (b : IntsAre vs ms) : ns = ms := by
  have := a.inj (intsAre_vals b)
  exact (List.map_inj_right (fun x y e => by injection e)).mp this
section
variable {X : Cx}
/-- sorted(d), keys that are ints -/
theorem call_sorted_dict (hc : X.calm = true) : CallR X (.builtin "sorted") (fun xs H Q => ∃ d kvs ns, xs = [.ref d] ∧ H d = some (.dK kvs) ∧ kvs.map (·.1) = ns.map Sum.inl ∧ ns.length < 64 ∧
    ∀ (l : Addr) (ns' : List Int), H l = none → ns'.Perm ns → ns'.Pairwise (· ≤ ·) → Q (.ref l) (upd H l (.lst (ns'.map V.int)))) := by
  intro pins s σ H xs us Q I r h
  obtain ⟨d, kvs, ns, rfl, hd, hks, hlt, q⟩ := h
  obtain ⟨u, rfl, ru⟩ := vals1 r
  cases ru
  obtain ⟨hz, hS, vs, rk, m⟩ : kvs.length ≤ sizeLine ∧ (d == sysModules) = false ∧ ∃ vs, KV kvs vs ∧ s.heap.DictOf (mixKind X.prog X.w) d vs := I.hok d _ hd
  obtain ⟨ep, hat⟩ := m.dictAt
  have hlen : kvs.length = vs.length := Paired.length rk
  have hl2 : kvs.length = ns.length := by have := congrArg List.length hks; simpa using this
  have hkeys : ∀ acc : List Value, acc.length = vs.length → (∀ (j : Nat) (v : Value), acc[j]? = some v → ∃ k x, vs[j]? = some (k, x) ∧ (mixKind X.prog X.w).is k v = true) → Vals (ns.map V.int) acc := fun acc h1 h2 => by
    have := keys_vals (P := X.prog) (w := X.w) rk h1 h2
    have e : (kvs.map fun p => kV p.1) = ns.map V.int := by
      have : (kvs.map fun p => kV p.1) = (kvs.map (·.1)).map kV := by rw [List.map_map]; rfl
      rw [this, hks, List.map_map]; rfl
    rw [e] at this
    exact this
  refine sorted_src (PySem.W.kdl_dict (knd := mixKind X.prog X.w) (kvs := vs) (ep := ep) hS) (I.ok.hd hc) hat (by omega) (fun acc h1 h2 => ?_) fun D h' tk e acc ms ns' out hk hD ho h1 h2 hI hO hp hs => ?_
  · exact ⟨ns, intsAre_of (hkeys acc h1 h2)⟩
  · have em : ns = ms := vals_ints_inj (hkeys acc h1 h2) hI
    subst em
    have hz' : (ns'.map V.int).length ≤ sizeLine := by rw [List.length_map, hp.length_eq, sizeLine_eq]; omega
    obtain ⟨hn, I'⟩ := I.laidN (t' := tk) (o := .lst (ns'.map V.int)) hk hD ⟨hz', out.toList, e, intsAre_vals hO, by rw [Array.toArray_toList]; exact ho⟩
    exact ⟨.ref D, _, I', rfl, q D ns' hn hp hs⟩
end
end L2

set_option Elab.async false
set_option linter.all false
set_option maxRecDepth 100000
namespace L2
open PySem PySem.Spec PyProof.Rows
abbrev bmVE : List Value := [.type "ValueError", .type "Exception", .type "BaseException", .type "object"]
def XCls (K : PySem.W.Frag) (C : Addr) : Prop := PySem.W.excIn K C bmVE "ValueError.__new__" = true
theorem XCls.obj {K : PySem.W.Frag} {h : Heap} {C : Addr} (X : K.In h) (q : XCls K C) : ∃ bm N nm qn bs hdct sn sub ab col dd k0 k1 k2 k3 k5 mN,
    h.get? C = some (excClassObj nm qn C N bs bm hdct sn sub ab col dd k0 k1 k2 k3 k5 "ValueError.__new__") ∧ h.Ns N mN ∧ mN "__init__" = none ∧ OwnTail h bmVE bm := by
  have q : PySem.W.excIn K C bmVE "ValueError.__new__" = true := q
  unfold PySem.W.excIn at q
  split at q
  · rename_i dct cdt sls found
    split at q
    · rename_i own tailv s0 s1 s2 s3 ident s5 hmro hslots
      simp only [Bool.and_eq_true, beq_iff_eq, Bool.not_eq_true'] at q
      obtain ⟨⟨⟨⟨⟨e1, e2⟩, e3⟩, e4⟩, e5⟩, e6⟩ := q
      subst e1
      subst e2
      obtain ⟨c1, c2, c3, c4, c5, c6, c7, c8, c9, c10, c11⟩ := cdt
      dsimp only at hmro e3 e5 e6
      subst hmro
      subst e3
      have sl6 : sls = #[s0, s1, s2, s3, some (.builtin "ValueError.__new__"), s5] := by
        cases sls with
        | mk l => simp only at hslots; rw [hslots]
      subst sl6
      exact ⟨tailv, c4, c1, c5, c2, c6, c7, c8, c9, c10, dct, s0, s1, s2, s3, s5, _, X _ _ found, .of_isNs (PySem.W.isNs_of_in X e5), PySem.W.nsMap_none_of_in X e5 e6, PySem.W.tail_of_in X e4⟩
    · cases q
  · cases q
theorem HOk.obj {P : Program} {w : World} {H : Hp} {h : Heap} {a : Addr} {u : HO} (x : HOk P w H h) (q : H a = some u) : ∃ ob, h.get? a = some ob := by
  have x := x a u q
  cases u with
  | lst xs => obtain ⟨_, _, _, _, e⟩ := x; exact ⟨_, e⟩
  | tup xs => obtain ⟨_, _, _, p⟩ := x; obtain ⟨_, e, _⟩ := p; exact ⟨_, e⟩
  | dK kvs => obtain ⟨_, _, _, _, o, _, _, e, _⟩ := x; exact ⟨_, e⟩
  | dT kvs => obtain ⟨_, _, _, _, o, _, _, e, _⟩ := x; exact ⟨_, e⟩
  | set S n => obtain ⟨o, _, _, _, e, _⟩ := x; exact ⟨_, e⟩
  | ins C dx fs => obtain ⟨_, _, _, e, _⟩ := x; exact ⟨_, e⟩
  | own y => exact x
  | xd fs => obtain ⟨_, ⟨_, _, _, e, _⟩, _⟩ := x; exact ⟨_, e⟩
  | rng lo hi => obtain ⟨_, _, _, e⟩ := x; exact ⟨_, e⟩
  | frz ob u => obtain ⟨e, _⟩ := x; exact ⟨_, e⟩
  | tbl ps => exact ⟨_, (show h.get? a = some _ from x)⟩
  | met f y => exact ⟨_, (show h.get? a = some _ from x)⟩
  | ext φ => obtain ⟨_, e, _⟩ := x; exact e
section
variable {X : Cx} {pins : List (Addr × Obj)} {σ : St} {H H' : Hp} {s s' : Shared}
end
section
variable {P : Program} {w : World} {K : PySem.W.Frag} {mg : Str → Option Value} {base : Heap} {N : List Str} {qual : Str} {scope : Scope} {f : Addr} {cd : Value} {A : Around} {outer : List Env} {s₀ : Shared} {H₀ : Hp} {E : XK}
end
section
variable {X : Cx}
/-- raise C(e, ..) -/
def tRaise (C : Addr) (E : XK) (t : TA) : TS := fun _ σ H => t σ H fun vs H1 => vs.length ≤ sizeLine ∧ E (.ref C) none H1
end

abbrev Cx.tr (X : Cx) (pn : List (Addr × Obj)) (W : Value → Shared → Prop) : Cx := { X with pn := pn, xe := W }
def EX (C : Addr) (R : St → Hp → Prop) : St → XK := fun σ cls _ H' => cls = .ref C ∧ R σ H'
section
variable {X : Cx} {pins : List (Addr × Obj)} {σ : St} {H : Hp} {s : Shared}
theorem Inv.tr (I : Inv X pins σ H s) (W : Value → Shared → Prop) : Inv (X.tr (X.pn ++ pins) W) [] σ H s :=
  ⟨⟨I.ok.mod, I.ok.kind, I.ok.glob, I.ok.blt, I.ok.above, I.ok.inj, I.ok.has, I.ok.cab, I.ok.hd, I.ok.frames, I.ok.stk, I.ok.exf, I.ok.bs, I.ok.bsz, I.ok.noex, I.ok.exfs, I.ok.funs, I.ok.frf⟩,
    I.os, I.bare, I.base, I.loc, I.cell, I.free, I.freeC, fun p hp => I.pin p (by simpa using hp), I.hok, I.len⟩
end
section
variable {X : Cx} {k : Nat} {f C : Addr} {fd : FuncData} {ps : List Str} {sp : Sp} {dvs : List V} {ds : List Value} {E : St → XK} {x m : Str} {p pos apos : Pos} {e o : Expr} {es : List Expr} {ta : TE} {t : TA}
def tMethE (C : Addr) (m : Str) (sp : Sp) (dvs : List V) (E : St → XK) (ta : TE) (t : TA) : TE := fun σ H Q => ta σ H fun x H1 => ∃ a dx fs, x = .ref a ∧ H1 a = some (.ins C dx fs) ∧ fs.lookup m = none ∧
  t σ H1 fun vs H2 => sp (x :: (vs ++ dvs)) H2 Q (E σ)
end
section
variable {X : Cx}
end
section
variable {P : Program} {w : World} {K : PySem.W.Frag} {mg : Str → Option Value} {base : Heap}
/-- a def that lets none out -/
theorem Fun.okC {CX : CXT} {x qual : Str} {st : Stmt} {f : Addr} {fd : FuncData} {N ps : List Str} {k : Nat} {sp : Sp} (F : Fun K x qual st f fd) (S : FnScope N ps (defScope st)) (len : ∀ vs H Q E, sp vs H Q E → vs.length = ps.length)
    (hbody : ∀ (cdv : Value) (A : Around) (outer : List Env) (s : Shared) (H : Hp) (vs : List V) (Q : VK) (E : XK), Room k (A.deeper (envOfC qual (defScope st) s.heap.objs.size f cdv)) → sp vs H Q E →
      ∃ t, PSs (cxOf CX P w K mg base N qual (defScope st) f cdv A outer s H E).nox (defBody st) t ∧ t { nx := fun _ H' => Q .non H', rt := Q } (start N vs) H) : FnOk P w K mg base CX (k + 1) f fd ps sp := by
  obtain ⟨oc, od, kV, doc, pm, an, cdv, ct, osl, rfl, lk, hcd⟩ := F.ex
  refine fn_of lk hcd S len fun A outer s H vs Q E hr hsp => ?_
  obtain ⟨t, h, q⟩ := hbody cdv A outer s H vs Q E hr hsp
  exact ⟨t, h.nox, q⟩
end
end L2

set_option Elab.async false
set_option linter.all false
set_option maxRecDepth 100000
namespace L2
open PySem PySem.Spec PyProof.Rows
section
variable {X : Cx}
/-- f'text{int}' -/
def tFstr (te : TE) : TE := fun σ H Q => te σ H fun x H1 => ∃ i, x = .int i ∧ i.natAbs.log2 < 1920 ∧ ∀ z, Q (.str z) H1
end

section
variable {X : Cx}
end
end L2

set_option Elab.async false
set_option linter.all false
set_option maxRecDepth 100000
namespace L2
open PySem PySem.Spec PyProof.Rows
def keyOf : V → Option Key
  | .int i => some (.inl i)
  | .str z => some (.inr z)
  | _ => none
theorem keyOf_int {i : Int} : keyOf (.int i) = some (.inl i) := rfl
theorem keyOf_str {i : Str} : keyOf (.str i) = some (.inr i) := rfl
theorem keyOf_of {y : V} {k : Key} (h : keyOf y = some k) : y = kV k := by
  cases y <;> first | (cases h; rfl) | (cases h)
def tDGetF (td ty : TE) : TE := fun σ H Q => td σ H fun x H1 => ty σ H1 fun y H2 => ∃ d k kvs v, x = .ref d ∧ keyOf y = some k ∧ H2 d = some (.dK kvs) ∧ valV kvs k = some v ∧ Q v H2
def tDInF (ty td : TE) : TE := fun σ H Q => ty σ H fun y H1 => td σ H1 fun x H2 => ∃ d k kvs, x = .ref d ∧ keyOf y = some k ∧ H2 d = some (.dK kvs) ∧ Q (.bl (valV kvs k).isSome) H2
def tDNotInF (ty td : TE) : TE := fun σ H Q => ty σ H fun y H1 => td σ H1 fun x H2 => ∃ d k kvs, x = .ref d ∧ keyOf y = some k ∧ H2 d = some (.dK kvs) ∧ Q (.bl (!(valV kvs k).isSome)) H2
def sDPutF (td ty tv : TE) : TS := fun D σ H => tv σ H fun v H1 => td σ H1 fun x H2 => ty σ H2 fun y H3 => ∃ d k kvs, x = .ref d ∧ keyOf y = some k ∧ H3 d = some (.dK kvs) ∧ kvs.length < sizeLine ∧ D.nx σ (upd H3 d (.dK (putK kvs k v)))
section
variable {X : Cx} {o i e value : Expr} {pos pos' tpos : Pos} {td ty tv : TE}
theorem pe_dgetF (hu : X.A.units + 1 < cLine) (ho : PE X o td) (hi : PE X i ty) (hs : NoSl i) : PE X (.Subscript o i pos) (tDGetF td ty) := by
  intro pins s σ H Q I h
  refine subD_of PySem.F.slot_dict_getitem.lookup hs (thn (ho pins s σ H _ I h) fun u s1 ⟨x, H1, I1, rx, q1⟩ => thn (hi pins s1 σ H1 _ I1 q1) fun iv s2 ⟨y, H2, I2, ry, d, k, kvs, v, ex, ek, hd, hv, q2⟩ => ?_)
  subst ex
  cases keyOf_of ek
  obtain rfl : u = Value.ref d := rx
  have g : DGet H2 d (kV k) (some v) := by rw [← hv]; exact DGet.k hd
  exact ⟨dict_typeIs I2 g, d_getItem hu I2 g ry fun w' s3 I3 rw' => ⟨v, H2, I3, rw', q2⟩⟩
end
end L2

set_option Elab.async false
set_option linter.all false
set_option maxRecDepth 100000
namespace L2
open PySem PySem.Spec PyProof.Rows
theorem cxOf_K {CX : CXT} {P : Program} {w : World} {K : PySem.W.Frag} {mg : Str → Option Value} {base : Heap} {N : List Str} {qual : Str} {scope : Scope} {f : Addr} {cd : Value} {A : Around} {outer : List Env} {s₀ : Shared} {H₀ : Hp} {E : XK} :
    (cxOf CX P w K mg base N qual scope f cd A outer s₀ H₀ E).K = K := rfl
structure Fr (M : Addr → Prop) (H H' : Hp) : Prop where
  keep : ∀ q o, H q = some o → ¬ M q → H' q = some o
  tups : ∀ q xs, H q = some (.tup xs) → H' q = some (.tup xs)
theorem Fr.refl {M : Addr → Prop} {H : Hp} : Fr M H H := ⟨fun _ _ h _ => h, fun _ _ h => h⟩
theorem Fr.trans {M : Addr → Prop} {H H1 H2 : Hp} (x : Fr M H H1) (y : Fr M H1 H2) : Fr M H H2 := ⟨fun q o h n => y.keep q o (x.keep q o h n) n, fun q xs h => y.tups q xs (x.tups q xs h)⟩
theorem Fr.of_same {M : Addr → Prop} {H H' : Hp} (s : Same H H') : Fr M H H' := ⟨fun q o h _ => s q o h, fun q xs h => s q _ h⟩
theorem Fr.laid {M : Addr → Prop} {H : Hp} {p : Addr} {u : HO} (hp : H p = none) : Fr M H (upd H p u) := .of_same (.laid hp)
theorem Fr.step {M : Addr → Prop} {H H1 : Hp} {p : Addr} {u : HO} (x : Fr M H H1) (hp : H1 p = none) : Fr M H (upd H1 p u) := x.trans (.laid hp)
theorem Fr.put {M : Addr → Prop} {H : Hp} {p : Addr} {u : HO} (hm : M p) (ht : ∀ xs, H p ≠ some (.tup xs)) : Fr M H (upd H p u) :=
  ⟨fun q o h n => by rw [upd_ne (fun e => n (by rw [e]; exact hm))]; exact h, fun q xs h => by rw [upd_ne (fun e => ht xs (by rw [← e]; exact h))]; exact h⟩
theorem Fr.mono {M M' : Addr → Prop} {H H' : Hp} (x : Fr M H H') (h : ∀ q, M q → M' q) : Fr M' H H' := ⟨fun q o e n => x.keep q o e (fun m => n (h q m)), x.tups⟩
theorem Fr.none {M : Addr → Prop} {H H' : Hp} (x : Fr M H H') (h : ∀ q o, M q → H q = some o → H' q = some o) : Same H H' := fun q o e => by
  by_cases m : M q
  · exact h q o m e
  · exact x.keep q o e m
theorem for1 {ta : TA} {g : TG} {tb : TS} {D : Ends} {σ : St} {H H1 : Hp} (n : Int) (hr : ∀ Q, Q [.int n] H1 → ta σ H Q) (n0 : -(2 ^ 62) ≤ n) (n1 : n < 2 ^ 62) (Pv : Nat → St → Hp → Prop) (h0 : Pv 0 σ H1)
    (hs : ∀ i σ H, i < n.toNat → Pv i σ H → g (.int (0 + i)) σ H fun σ2 H2 => tb { D with nx := Pv (i + 1), ct := Pv (i + 1), bk := D.nx } σ2 H2) (hd : ∀ σ H, Pv n.toNat σ H → D.nx σ H) :
    tFor (iRng1 ta) g tb D σ H := hr _ ⟨n, rfl, n0, n1, for_range Pv h0 hs hd⟩
theorem forL {K : PySem.W.Frag} {tl : TE} {g : TG} {tb : TS} {D : Ends} {σ : St} {H H1 : Hp} (a : Addr) (xs : List V) (hr : ∀ Q, Q (.ref a) H1 → tl σ H Q) (Pv : Nat → St → Hp → Prop) (h0 : Pv 0 σ H1) (hl : ∀ i σ H, i ≤ xs.length → Pv i σ H → SqL K H a xs)
    (hs : ∀ i x σ H, xs[i]? = some x → Pv i σ H → g x σ H fun σ2 H2 => tb { D with nx := Pv (i + 1), ct := Pv (i + 1), bk := D.nx } σ2 H2) (hd : ∀ σ H, Pv xs.length σ H → D.nx σ H) :
    tFor (iList K tl) g tb D σ H := hr _ ⟨a, rfl, ⟨xs, hl 0 σ H1 (Nat.zero_le _) h0⟩, for_list Pv h0 hl hs hd⟩
theorem comp1 {cap : List (Option Nat)} {ta : TA} {g : TG} {tt : TT} {te : TE} {σ : St} {H H1 : Hp} {Q : VK} (n : Int) (hr : ∀ Q, Q [.int n] H1 → ta σ H Q) (n0 : -(2 ^ 62) ≤ n) (n1 : n < 2 ^ 62) (Pv : Addr → Nat → List V → Hp → Prop) (h0 : ∀ D, H1 D = none → Pv D 0 [] (upd H1 D (.lst [])))
    (hl : ∀ D, H1 D = none → ∀ i ys H, i ≤ n.toNat → Pv D i ys H → H D = some (.lst ys) ∧ ys.length ≤ i) (hz : n.toNat ≤ sizeLine)
    (hs : ∀ D, H1 D = none → ∀ i ys H, i < n.toNat → Pv D i ys H → g (.int (0 + i)) (capSt cap σ) H fun σ4 H4 => tt σ4 H4 fun b H5 => if b = true then te σ4 H5 fun y H6 => H6 D = some (.lst ys) ∧ Pv D (i + 1) (ys ++ [y]) (upd H6 D (.lst (ys ++ [y]))) else Pv D (i + 1) ys H5)
    (hd : ∀ D, H1 D = none → ∀ ys H, Pv D n.toNat ys H → Q (.ref D) H) : tComp cap (iRng1 ta) g tt te σ H Q := hr _ ⟨n, rfl, n0, n1, fun D hD => comp_range (R := fun H => Q (.ref D) H) (Pv D) (h0 D hD) (hl D hD) hz (hs D hD) (hd D hD)⟩
theorem compL {K : PySem.W.Frag} {cap : List (Option Nat)} {tl : TE} {g : TG} {tt : TT} {te : TE} {σ : St} {H H1 : Hp} {Q : VK} (a : Addr) (xs : List V) (hr : ∀ Q, Q (.ref a) H1 → tl σ H Q) (hq : SqL K H1 a xs) (Pv : Addr → Nat → List V → Hp → Prop) (h0 : ∀ D, H1 D = none → Pv D 0 [] (upd H1 D (.lst [])))
    (hl : ∀ D, H1 D = none → ∀ i ys H, i ≤ xs.length → Pv D i ys H → SqL K H a xs ∧ H D = some (.lst ys) ∧ ys.length ≤ i) (hz : xs.length ≤ sizeLine)
    (hs : ∀ D, H1 D = none → ∀ i x ys H, xs[i]? = some x → Pv D i ys H → g x (capSt cap σ) H fun σ4 H4 => tt σ4 H4 fun b H5 => if b = true then te σ4 H5 fun y H6 => H6 D = some (.lst ys) ∧ Pv D (i + 1) (ys ++ [y]) (upd H6 D (.lst (ys ++ [y]))) else Pv D (i + 1) ys H5)
    (hd : ∀ D, H1 D = none → ∀ ys H, Pv D xs.length ys H → Q (.ref D) H) : tComp cap (iList K tl) g tt te σ H Q := hr _ ⟨a, rfl, ⟨xs, hq⟩, fun D hD => comp_list (R := fun H => Q (.ref D) H) (Pv D) (h0 D hD) (hl D hD) hz (hs D hD) (hd D hD)⟩
theorem compL_ {K : PySem.W.Frag} {cap : List (Option Nat)} {tl : TE} {g : TG} {tt : TT} {te : TE} {σ : St} {H : Hp} {Q : VK} (Pre : Addr → Hp → Prop) (hr : ∀ Q, (∀ a H1, Pre a H1 → Q (.ref a) H1) → tl σ H Q)
    (h : ∀ a H1, Pre a H1 → tComp cap (iList K (tC (.ref a))) g tt te σ H1 Q) : tComp cap (iList K tl) g tt te σ H Q := hr _ fun a H1 p => h a H1 p
theorem gTup_of {K : PySem.W.Frag} {n : Nat} {t : TGs} {a : Addr} {xs : List V} {σ : St} {H : Hp} {Q : St → Hp → Prop} (h : H a = some (.tup xs)) (hl : xs.length = n) (q : t xs σ H Q) : gTup K n t (.ref a) σ H Q := ⟨a, xs, rfl, .of h, hl, q⟩
abbrev Th := Int × List Int × List Int
def thSz (t : Th) : Int := 1 + t.2.1.length + t.2.2.length
def Lay : Int → List Th → Int → Prop
  | s, [], f => f = s
  | s, t :: r, f => t.1 = s ∧ Lay (s + thSz t) r f
theorem thSz_pos (t : Th) : 1 ≤ thSz t := by unfold thSz; omega
theorem Lay.snoc : ∀ {ts : List Th} {s f : Int} {t : Th}, Lay s ts f → t.1 = f → Lay s (ts ++ [t]) (f + thSz t)
  | [], s, f, t, h, e => by
    cases (show f = s from h)
    exact ⟨e, rfl⟩
  | u :: r, s, f, t, ⟨h1, h2⟩, e => ⟨h1, Lay.snoc h2 e⟩
theorem Lay.le : ∀ {ts : List Th} {s f : Int}, Lay s ts f → s ≤ f
  | [], s, f, h => by cases (show f = s from h); exact Int.le_refl _
  | u :: r, s, f, ⟨h1, h2⟩ => by have := Lay.le h2; have := thSz_pos u; omega
theorem Lay.mem : ∀ {ts : List Th} {s f : Int} {t : Th}, Lay s ts f → t ∈ ts → s ≤ t.1 ∧ t.1 + thSz t ≤ f
  | [], s, f, t, h, m => by cases m
  | u :: r, s, f, t, ⟨h1, h2⟩, m => by
    have p := thSz_pos u
    rcases List.mem_cons.mp m with e | m
    · subst e; have := Lay.le h2; omega
    · have := Lay.mem h2 m; omega
theorem Lay.apart : ∀ {ts : List Th} {s f : Int} {t t' : Th}, Lay s ts f → t ∈ ts → t' ∈ ts → t.1 < t'.1 → t.1 + thSz t ≤ t'.1
  | [], s, f, t, t', h, m, _, _ => by cases m
  | u :: r, s, f, t, t', ⟨h1, h2⟩, m, m', lt => by
    rcases List.mem_cons.mp m with e | n <;> rcases List.mem_cons.mp m' with e' | n'
    · subst e; subst e'; omega
    · subst e; have := Lay.mem h2 n'; omega
    · subst e'; have := Lay.mem h2 n; have := thSz_pos t'; omega
    · exact Lay.apart h2 n n' lt
theorem Lay.rising : ∀ {ts : List Th} {s f : Int}, Lay s ts f → (ts.map (·.1)).Pairwise (· < ·)
  | [], s, f, h => .nil
  | u :: r, s, f, ⟨h1, h2⟩ => by
    rw [List.map_cons]
    refine List.Pairwise.cons (fun x hx => ?_) (Lay.rising h2)
    obtain ⟨t, ht, rfl⟩ := List.mem_map.mp hx
    have := Lay.mem h2 ht; have := thSz_pos u; omega
theorem Lay.inj {ts : List Th} {s f : Int} {t t' : Th} (h : Lay s ts f) (m : t ∈ ts) (m' : t' ∈ ts) (e : t.1 = t'.1) : t = t' := by
  have p := Lay.rising h
  rw [List.pairwise_map] at p
  rcases List.getElem_of_mem m with ⟨i, hi, rfl⟩
  rcases List.getElem_of_mem m' with ⟨j, hj, rfl⟩
  rcases Nat.lt_trichotomy i j with c | c | c
  · have := (List.pairwise_iff_getElem.mp p) i j hi hj c; omega
  · subst c; rfl
  · have := (List.pairwise_iff_getElem.mp p) j i hj hi c; omega
theorem Lay.sum : ∀ {ts : List Th} {s f : Int}, Lay s ts f → f = s + (ts.map thSz).sum
  | [], s, f, h => by cases (show f = s from h); simp
  | u :: r, s, f, ⟨h1, h2⟩ => by have := Lay.sum h2; rw [List.map_cons, List.sum_cons]; omega
theorem Lay.set : ∀ {ts : List Th} {s f : Int} {k : Nat} {t t' : Th}, Lay s ts f → ts[k]? = some t → t'.1 = t.1 → thSz t' = thSz t → Lay s (ts.set k t') f
  | [], s, f, k, t, t', h, hk, _, _ => by simp at hk
  | u :: r, s, f, 0, t, t', ⟨h1, h2⟩, hk, e1, e2 => by
    simp at hk; subst hk
    rw [List.set_cons_zero]
    exact ⟨by omega, by rw [e2]; exact h2⟩
  | u :: r, s, f, k + 1, t, t', ⟨h1, h2⟩, hk, e1, e2 => by
    rw [List.getElem?_cons_succ] at hk
    rw [List.set_cons_succ]
    exact ⟨h1, Lay.set h2 hk e1 e2⟩
structure Yd where
  p : Addr
  dx : Addr
  dw : Addr
  ds : Addr
def yF (y : Yd) (free : Int) : List (Str × V) := [("free", .int free), ("words", .ref y.dw), ("sizes", .ref y.ds)]
theorem putF_0 {v : V} : putF "free" v [] = [(("free" : Str), v)] := by rfl
theorem putF_w {x v : V} : putF "words" v [(("free" : Str), x)] = [(("free" : Str), x), (("words" : Str), v)] := by rfl
theorem putF_s {x z v : V} : putF "sizes" v [(("free" : Str), x), (("words" : Str), z)] = [(("free" : Str), x), (("words" : Str), z), (("sizes" : Str), v)] := by rfl
theorem yF_len {y : Yd} {f : Int} : (yF y f).length = 3 := rfl
theorem yF_free {y : Yd} {f : Int} : List.lookup ("free" : Str) (yF y f) = some (V.int f) := by rfl
theorem yF_sizes {y : Yd} {f : Int} : List.lookup ("sizes" : Str) (yF y f) = some (V.ref y.ds) := by rfl
theorem notTup_ins {H : Hp} {p : Addr} {C dx : Addr} {fs : List (Str × V)} (h : H p = some (.ins C dx fs)) : ∀ xs, H p ≠ some (.tup xs) := fun xs e => by rw [h] at e; cases e
theorem notTup_lst {H : Hp} {p : Addr} {ys : List V} (h : H p = some (.lst ys)) : ∀ xs, H p ≠ some (.tup xs) := fun xs e => by rw [h] at e; cases e
structure YardAt (C : Addr) (H : Hp) (y : Yd) (W : Int → Option Int) (S : List (Int × Int × Int)) (free : Int) : Prop where
  ins : H y.p = some (.ins C y.dx (yF y free))
  words : ∃ kw, H y.dw = some (.dK kw) ∧ (∀ z, valV kw (.inl z) = (W z).map V.int) ∧ kw.length ≤ 19 * S.length
  sizes : ∃ ks, H y.ds = some (.dK ks) ∧ ks.map (·.1) = S.map (fun t => Sum.inl t.1) ∧ (∀ t ∈ S, ∃ q, valV ks (.inl t.1) = some (.ref q) ∧ H q = some (.tup [.int t.2.1, .int t.2.2])) ∧ (∀ z, (∀ t ∈ S, t.1 ≠ z) → valV ks (.inl z) = none)
  ne : y.dw ≠ y.ds
theorem YardAt.fr {C : Addr} {H H' : Hp} {y : Yd} {W : Int → Option Int} {S : List (Int × Int × Int)} {free : Int} {M : Addr → Prop} (x : YardAt C H y W S free) (f : Fr M H H') (h1 : ¬ M y.p) (h2 : ¬ M y.dw) (h3 : ¬ M y.ds) : YardAt C H' y W S free := by
  obtain ⟨a, ⟨kw, b1, b2, b3⟩, ⟨ks, c1, c2, c3, c4⟩, d⟩ := x
  refine ⟨f.keep _ _ a h1, ⟨kw, f.keep _ _ b1 h2, b2, b3⟩, ⟨ks, f.keep _ _ c1 h3, c2, fun t ht => ?_, c4⟩, d⟩
  obtain ⟨q, e1, e2⟩ := c3 t ht
  exact ⟨q, e1, f.tups _ _ e2⟩
theorem YardAt.same {C : Addr} {H H' : Hp} {y : Yd} {W : Int → Option Int} {S : List (Int × Int × Int)} {free : Int} (x : YardAt C H y W S free) (s : Same H H') : YardAt C H' y W S free :=
  x.fr (M := fun _ => False) (.of_same s) id id id
structure RowsAt (mk : List V → HO) (H : Hp) (l : Addr) (as : List (Addr × Addr × Addr)) (ts : List Th) : Prop where
  top : H l = some (.lst (as.map fun a => V.ref a.1))
  len : as.length = ts.length
  row : ∀ (k : Nat) (a : Addr × Addr × Addr) (t : Th), as[k]? = some a → ts[k]? = some t → H a.1 = some (.tup [.int t.1, .ref a.2.1, .ref a.2.2]) ∧ H a.2.1 = some (mk (t.2.1.map V.int)) ∧ H a.2.2 = some (mk (t.2.2.map V.int))
theorem RowsAt.at_ {mk : List V → HO} {H : Hp} {l : Addr} {as : List (Addr × Addr × Addr)} {ts : List Th} (x : RowsAt mk H l as ts) {k : Nat} {t : Th} (hk : ts[k]? = some t) :
    ∃ a, as[k]? = some a ∧ H a.1 = some (.tup [.int t.1, .ref a.2.1, .ref a.2.2]) ∧ H a.2.1 = some (mk (t.2.1.map V.int)) ∧ H a.2.2 = some (mk (t.2.2.map V.int)) := by
  have hl := (List.getElem?_eq_some_iff.mp hk).1
  have hl' : k < as.length := by rw [x.len]; exact hl
  exact ⟨as[k], List.getElem?_eq_getElem hl', x.row k _ t (List.getElem?_eq_getElem hl') hk⟩
theorem RowsAt.same {mk : List V → HO} {H H' : Hp} {l : Addr} {as : List (Addr × Addr × Addr)} {ts : List Th} (x : RowsAt mk H l as ts) (s : Same H H') : RowsAt mk H' l as ts :=
  ⟨s _ _ x.top, x.len, fun k a t h1 h2 => by obtain ⟨e1, e2, e3⟩ := x.row k a t h1 h2; exact ⟨s _ _ e1, s _ _ e2, s _ _ e3⟩⟩
abbrev Tag := Nat × Nat × Nat
def Tagged (g : Addr → Tag) (y : Nat) (as : List (Addr × Addr × Addr)) : Prop := ∀ (k : Nat) (a : Addr × Addr × Addr), as[k]? = some a → g a.2.1 = (2 + y, k, 1) ∧ g a.2.2 = (2 + y, k, 2)
theorem RowsAt.fr {H H' : Hp} {l : Addr} {as : List (Addr × Addr × Addr)} {ts : List Th} {M : Addr → Prop} {g : Addr → Tag} {y : Nat} (x : RowsAt HO.lst H l as ts) (f : Fr M H H') (tg : Tagged g y as) (h1 : ¬ M l) (h2 : ∀ q, (g q).1 = 2 + y → ¬ M q) : RowsAt HO.lst H' l as ts :=
  ⟨f.keep _ _ x.top h1, x.len, fun k a t ha ht => by
    obtain ⟨e1, e2, e3⟩ := x.row k a t ha ht
    obtain ⟨g1, g2⟩ := tg k a ha
    exact ⟨f.tups _ _ e1, f.keep _ _ e2 (h2 _ (by rw [g1])), f.keep _ _ e3 (h2 _ (by rw [g2]))⟩⟩
theorem perm_rising {ms ns : List Int} (hp : ms.Perm ns) (hs : ms.Pairwise (· ≤ ·)) (hr : ns.Pairwise (· < ·)) : ms = ns :=
  List.Perm.eq_of_pairwise (le := (· ≤ ·)) (fun a b _ _ h1 h2 => Int.le_antisymm h1 h2) hs (hr.imp fun h => Int.le_of_lt h) hp
end L2

set_option Elab.async false
set_option linter.all false
set_option maxRecDepth 100000
namespace L2
open PySem PySem.Spec PyProof.Rows
def rEqE (neg : Bool) : R2 := fun x y H Q => ∃ l b xs, x = .ref l ∧ y = .ref b ∧ seqV H l = some xs ∧ kindV H l = some true ∧ seqV H b = some [] ∧ kindV H b = some true ∧ Q (.bl (if neg then !xs.isEmpty else xs.isEmpty)) H
theorem none_eqAt {A : Around} {s : Shared} {us : List Value} (h : us.length = 0) (ws : List Value) :
    ∀ j (h1 : j < us.toArray.size) (h2 : j < ws.toArray.size), SeqAt.EqAt A s us.toArray[j] ws.toArray[j] ((fun _ => true) j) := by
  intro j h1 h2
  simp only [List.size_toArray] at h1
  omega
section
variable {X : Cx}
theorem op_eqE (hu : X.A.units + 1 < cLine) : OpR X (compareOp .Eq) (rEqE false) := by
  intro pins s σ H x y v u Q I rx ry h
  obtain ⟨l, b, xs, rfl, rfl, h1, k1, h2, k2, q⟩ := h
  cases rx
  cases ry
  obtain ⟨us, r1, p1, z1⟩ := I.list (kindV_l (K := X.K) h1 k1)
  obtain ⟨ws, r2, p2, z2⟩ := I.list (kindV_l (K := X.K) h2 k2)
  have l1 := r1.length
  have l2 := r2.length
  cases xs with
  | nil =>
    refine SeqAt.eq_listAt p1.isList p2.isList (by simp at l1 l2 ⊢; omega) (by omega) (none_eqAt (by simpa using l1.symm) ws) ⟨.bl _, H, I, rfl, ?_⟩
    have e : (List.range us.toArray.size).all (fun _ => true) = true := by simp
    rw [e]
    exact q
  | cons x xs =>
    refine SeqAt.eq_list_lengthsAt p1.isList p2.isList (by simp at l1 l2 ⊢; omega) (by omega) ⟨.bl _, H, I, rfl, ?_⟩
    exact q
theorem op_neE (hu : X.A.units + 1 < cLine) : OpR X (compareOp .NotEq) (rEqE true) := by
  intro pins s σ H x y v u Q I rx ry h
  obtain ⟨l, b, xs, rfl, rfl, h1, k1, h2, k2, q⟩ := h
  cases rx
  cases ry
  obtain ⟨us, r1, p1, z1⟩ := I.list (kindV_l (K := X.K) h1 k1)
  obtain ⟨ws, r2, p2, z2⟩ := I.list (kindV_l (K := X.K) h2 k2)
  have l1 := r1.length
  have l2 := r2.length
  cases xs with
  | nil =>
    refine SeqAt.RcNeAt.lists p1.isList p2.isList (by simp at l1 l2 ⊢; omega) (by omega) (none_eqAt (by simpa using l1.symm) ws) _ _ _ _ ⟨.bl _, H, I, rfl, ?_⟩
    have e : (List.range us.toArray.size).all (fun _ => true) = true := by simp
    rw [e]
    exact q
  | cons x xs =>
    refine SeqAt.RcNeAt.lists_lengths p1.isList p2.isList (by simp at l1 l2 ⊢; omega) (by omega) _ _ _ _ ⟨.bl _, H, I, rfl, ?_⟩
    exact q
end
end L2

set_option Elab.async false
set_option linter.all false
set_option maxRecDepth 100000
namespace L2
open PySem PySem.Spec PyProof.Rows
section
variable {prog : Program} {w : World} {K : Type} [DecidableEq K] {knd : KeyKind prog w K} {A : Around} {E : Value → Shared → Prop} {s : Shared}
end
end L2

set_option Elab.async false
set_option linter.all false
set_option maxRecDepth 100000
namespace L2
open PySem PySem.Spec PyProof.Rows
section
variable {prog : Program} {w : World} {A : Around} {E : Value → Shared → Prop} {s : Shared} {a₀ : Array Keyed}
theorem count_up {st : SortSt} {n : Nat} {Q : Option Nat → SortSt → Prop} (h0 : IntKeys a₀) (hn : n ≤ a₀.size) (h1 : 1 ≤ n) (B : SBase a₀ st) (up : SortedTo (arrOf st) n) (q : Q (some n) st) : wpS (model prog w) A E s (countRun' 0 n) Q st := by
  rw [countRun0_eq]
  refine wpS_bind (wpS_ascLoop h0 hn (Nat.le_refl 1) h1 B (fun i j e1 e2 => by obtain rfl : i = j := (by omega); exact Int.le_refl _) fun m m1 m2 sm or => ?_)
  have em : m = n := by
    rcases or with e | e
    · exact e
    · rcases Nat.lt_or_ge m n with c | c
      · have := up (m - 1) m (by omega) c
        omega
      · omega
  subst em
  dsimp only
  rw [if_pos (by simp)]
  exact wpS_pure q
theorem minrun_le {n : Nat} (h : n ≤ 1000) : minRun' n n 0 ≤ n := by
  have key : (List.range 1001).all (fun n => decide (minRun' n n 0 ≤ n)) = true := by decide +kernel
  exact of_decide_eq_true (List.all_eq_true.mp key n (List.mem_range.mpr (by omega)))
theorem runs_up {st : SortSt} {Q : Unit → SortSt → Prop} (h0 : IntKeys a₀) (B : SBase a₀ st) (l2 : 2 ≤ a₀.size) (l1 : a₀.size ≤ 1000) (up : SortedTo (arrOf st) a₀.size)
    (q : ∀ st', arrOf st' = arrOf st → failedOf st' = none → Q () st') : wpS (model prog w) A E s sortRuns' Q st := by
  rw [sortRuns'_eq]
  refine wpS_bind (wpS_get ?_)
  dsimp only
  have mr := minrun_le l1
  simp only [B.size]
  revert mr
  generalize minRun' a₀.size a₀.size 0 = mn
  intro mr
  refine wpS_bind (wpS_mono (wpS_forRange
    (I := fun x c st2 => (x = 0 ∧ c = (none, 0) ∧ st2 = st) ∨ (1 ≤ x ∧ c = (none, a₀.size) ∧ st2 = setPending st ((pendingOf st).push (0, a₀.size, 0))))
    (Q := fun c st2 => c = (none, a₀.size) ∧ st2 = setPending st ((pendingOf st).push (0, a₀.size, 0))) ?turn ?last (.inl ⟨rfl, rfl, rfl⟩)) ?rest)
  case last =>
    rintro c st2 (⟨z, _, _⟩ | ⟨_, e1, e2⟩)
    · omega
    · exact ⟨e1, e2⟩
  case turn =>
    rintro x c st2 _ hx (⟨rfl, rfl, rfl⟩ | ⟨x1, rfl, rfl⟩)
    · dsimp only
      rw [if_neg (by omega)]
      simp only [Nat.sub_zero, Nat.zero_add]
      refine wpS_bind (count_up h0 (Nat.le_refl _) (by omega) B up ?_)
      dsimp only
      rw [if_neg (by omega)]
      refine wpS_bind (wpS_get ?_)
      have nb : (pendingOf st2).back? = none := by rw [B.pend]; rfl
      rw [nb]
      dsimp only
      exact wpS_bind (wpS_modify (wpS_pure (.inr ⟨by omega, rfl, rfl⟩)))
    · dsimp only
      rw [if_pos (Nat.le_refl _)]
      exact wpS_pure ⟨rfl, rfl⟩
  case rest =>
    rintro c st2 ⟨rfl, rfl⟩
    dsimp only
    refine wpS_bind (wpS_mono (wpS_forRange (I := fun _ c st3 => st3 = setPending st ((pendingOf st).push (0, a₀.size, 0)) ∧ c = (none, ())) (Q := fun c st3 => st3 = setPending st ((pendingOf st).push (0, a₀.size, 0)) ∧ c = (none, ())) ?_ (fun _ _ y => y) ⟨rfl, rfl⟩) ?_)
    · rintro x c st3 _ _ ⟨rfl, rfl⟩
      refine wpS_bind (wpS_get ?_)
      have one : (pendingOf (setPending st ((pendingOf st).push (0, a₀.size, 0)))).size ≤ 1 := by
        show ((pendingOf st).push (0, a₀.size, 0)).size ≤ 1
        rw [B.pend]; exact Nat.le_refl 1
      rw [if_pos one]
      exact wpS_pure ⟨rfl, rfl⟩
    · rintro c st3 ⟨rfl, rfl⟩
      exact wpS_pure (q _ rfl B.failed)
theorem zip_self (vs : List Value) : vs.toArray.zip vs.toArray = (vs.map fun v => (v, v)).toArray := by
  apply Array.toList_inj.mp
  rw [Array.toList_zip]
  show vs.zip vs = vs.map fun v => (v, v)
  induction vs with
  | nil => rfl
  | cons v r ih => rw [List.zip_cons_cons, List.map_cons, ih]
theorem K_self {vs : List Value} {ns : List Int} (hI : IntsAre vs ns) (i : Nat) (hi : i < vs.length) : K (vs.toArray.zip vs.toArray) i = ns.getD i 0 := by
  have e : (vs.toArray.zip vs.toArray)[i]? = some (vs[i], vs[i]) := by
    rw [zip_self, List.getElem?_toArray, List.getElem?_map, List.getElem?_eq_getElem hi]
    rfl
  obtain ⟨t, et⟩ := IntsAre.int_at hI i _ (List.getElem?_eq_getElem hi)
  unfold K
  rw [e]
  show numOf vs[i] = _
  rw [et]
  rfl
theorem ints_len : ∀ {vs : List Value} {ns : List Int}, IntsAre vs ns → vs.length = ns.length
  | _, _, .nil => rfl
  | _, _, .cons n t r => by rw [List.length_cons, List.length_cons, ints_len r]
theorem self_up {vs : List Value} {ns : List Int} (hI : IntsAre vs ns) (up : ns.Pairwise (· ≤ ·)) : SortedTo (vs.toArray.zip vs.toArray) vs.length := by
  intro i j hij hj
  have ln := ints_len hI
  rw [K_self hI i (by omega), K_self hI j hj]
  by_cases c : i = j
  · rw [c]; exact Int.le_refl _
  · have := List.pairwise_iff_getElem.mp up i j (by omega) (by omega) (by omega)
    rw [List.getD_eq_getElem?_getD, List.getD_eq_getElem?_getD, List.getElem?_eq_getElem (by omega), List.getElem?_eq_getElem (by omega)]
    exact this
theorem sort_up {a : Addr} {vs : List Value} {ns : List Int} {n : Nat} {R : Fin → Shared → Prop} (ho : s.heap.get? a = some (seqObj "list" vs.toArray n)) (hI : IntsAre vs ns) (l2 : 2 ≤ vs.length) (l1 : vs.length ≤ 1000) (up : ns.Pairwise (· ≤ ·))
    (q : R (.done (.ret .none)) { s with heap := sortedHeap s.heap a vs vs.toArray }) : wpAny (model prog w) A (Builtin.«list.sort» ⟨[.ref a], []⟩) R E s := by
  rw [list_sort_plain]
  have la : a < s.heap.objs.size := Heap.lt_size ho
  refine wpAny_bind (listItems_at ho rfl (wpAny_bind (listUpdate_at ho rfl ?_)))
  obtain ⟨e1, g1⟩ : ∃ e1, (s.heap.update a (Obj.mapSeq fun _ => #[])).get? a = some (seqObj "list" #[] e1) := ⟨_, get?_update_seq ho (fun _ => (#[] : Array Value))⟩
  refine wpAny_bind (seqEpoch_at g1 rfl (wpAny_bind (wpAny_newTuple (wpAny_bind (wpAny_newList (wpAny_holding ?_))))))
  have g2 : (((s.heap.update a (Obj.mapSeq fun _ => #[])).push (seqObj "tuple" vs.toArray 0)).push (seqObj "list" #[] 0)).get? a = some (seqObj "list" #[] e1) := Heap.get?_push_of_some _ (Heap.get?_push_of_some _ g1)
  show wpAny (model prog w) A _ R E { s with heap := ((s.heap.update a (Obj.mapSeq fun _ => #[])).push (seqObj "tuple" vs.toArray 0)).push (seqObj "list" #[] 0) }
  dsimp only
  have n2 : ¬ vs.toArray.size < 2 := by simp; omega
  rw [if_neg n2, if_neg n2]
  match vs, l2, hI, l1 with
  | v1 :: v2 :: r, _, hI, l1 =>
    rw [keyKind_ints hI, pure_bind]
    have sz : (pairsOf (v1 :: v2 :: r)).size = (v1 :: v2 :: r).length := pairsOf_size _
    have sorted : SortedTo (arrOf (SortSt.mk' oneType' ((v1 :: v2 :: r).toArray.zip (v1 :: v2 :: r).toArray) #[] 7 none)) (pairsOf (v1 :: v2 :: r)).size := by
      rw [sz]
      exact self_up hI up
    refine wpAny_bind (wpAny_mono (runs_up (a₀ := pairsOf (v1 :: v2 :: r)) (st := SortSt.mk' oneType' ((v1 :: v2 :: r).toArray.zip (v1 :: v2 :: r).toArray) #[] 7 none) (Q := fun _ st2 => arrOf st2 = (v1 :: v2 :: r).toArray.zip (v1 :: v2 :: r).toArray ∧ failedOf st2 = none)
      hI.intKeys ⟨Array.Perm.refl _, rfl, rfl, rfl⟩ (by rw [sz]; simp) (by rw [sz]; exact l1) sorted fun st2 b1 b2 => ⟨b1, b2⟩) ?_ fun _ _ y => y)
    rintro ⟨⟨⟩, st2⟩ s2 ⟨rfl, b1, b2⟩
    dsimp only
    have outs : (arrOf st2).map (·.2) = (v1 :: v2 :: r).toArray := by
      rw [b1, zip_self]
      simp [Function.comp_def]
    rw [outs, b2]
    refine wpAny_bind (seqEpoch_at g2 rfl (wpAny_bind (listUpdate_at g2 rfl ?_ (hsz2 := by rw [List.size_toArray, sizeLine_eq]; omega))))
    simp only [bne_self_eq_false, Bool.false_eq_true, if_false]
    exact wpAny_pure q
end
section
variable {prog : Program} {w : World} {A : Around} {E : Value → Shared → Prop} {s : Shared} {T : String} {r d : Addr} {n : Nat} {P : Nat → Value → Prop} {OK : Heap → Prop} {Q : Value → Shared → Prop}
theorem sorted_src_up (S : PySem.W.KdlSrc prog w T r d n P OK) (hh : A.handled = none) (hok : OK s.heap) (l2 : 2 ≤ n) (l1 : n ≤ 1000) (ns : List Int) (up : ns.Pairwise (· ≤ ·)) (hint : ∀ vs : List Value, vs.length = n → (∀ (j : Nat) (v : Value), vs[j]? = some v → P j v) → IntsAre vs ns)
    (h : ∀ (D : Addr) (h2 : Heap) (tk e : Nat) (out : Array Value), (∀ b o, s.heap.get? b = some o → h2.get? b = some o) → s.heap.get? D = none → h2.get? D = some (seqObj "list" out e) → IntsAre out.toList ns → Q (.ref D) { s with heap := h2, toks := tk }) :
    wpAny (model prog w) A (call (.builtin "sorted") [.ref r]) Q E s := by
  refine Calls.call_function_entry kind_sorted plain_sorted entry_sorted (args_sorted1 _) ?_
  unfold Builtin.«sorted»
  refine wpAny_bind (m := checkCount "sorted" 1 1 _) (wpAny_pure (wpAny_bind (PySem.W.kdu_collect (A := A.in1) S hh hok (by rw [sizeLine_eq]; omega) fun h1 tk acc hk hacc => ?_)))
  have ln : acc.toList.length = n := by rw [Array.length_toList]; exact hacc.1
  have hI := hint acc.toList ln fun j v e => hacc.2 j v (by rw [← Array.getElem?_toList]; exact e)
  refine wpAny_bind (wpAny_newList ?_ (by rw [ln, sizeLine_eq]; omega))
  have gL : (h1.push { cls := .type "list", data := .seq acc.toList.toArray }).get? h1.objs.size = some (seqObj "list" acc.toList.toArray 0) := Heap.get?_push_size _ rfl
  have fr : s.heap.get? h1.objs.size = none := by
    cases c : s.heap.get? h1.objs.size with
    | none => rfl
    | some o => exact absurd (Heap.lt_size (hk _ _ c)) (Nat.lt_irrefl _)
  refine wpAny_bind (wpAny_holding (wpAny_call_entry slot_list_sort ⟨_, gL, rfl⟩ entry_list_sort (sort_up gL hI (by rw [ln]; exact l2) (by rw [ln]; exact l1) up ⟨_, rfl, ?_⟩) (args_list_sort _)))
  obtain ⟨⟨e, g1⟩, g2⟩ := sortedHeap_at (out := acc.toList.toArray) gL
  exact wpAny_pure ⟨_, rfl, h _ _ _ e _ (fun b o c => g2 b o (Nat.ne_of_lt (Heap.lt_size (hk b o c))) (Heap.get?_push_of_some _ (hk b o c))) fr g1 (by simpa using hI)⟩
end
section
variable {X : Cx}
/-- sorted(d), int keys that rise, up to 1000 of them -/
theorem call_sorted_rise (hc : X.calm = true) : CallR X (.builtin "sorted") (fun xs H Q => ∃ (d : Addr) (kvs : List (Key × V)) (ns : List Int), xs = [.ref d] ∧ H d = some (.dK kvs) ∧ kvs.map (·.1) = ns.map Sum.inl ∧ ns.length ≤ 1000 ∧ ns.Pairwise (· < ·) ∧
    ∀ l, H l = none → Q (.ref l) (upd H l (.lst (ns.map V.int)))) := by
  intro pins s σ H xs us Q I r h
  obtain ⟨d, kvs, ns, e0, hd, hks, hlt, up, q⟩ := h
  by_cases c : ns.length < 64
  · exact call_sorted_dict hc pins s σ H xs us Q I r ⟨d, kvs, ns, e0, hd, hks, c, fun l ns2 hl pm ps => by
      have e := perm_rising pm ps up
      rw [e]
      exact q l hl⟩
  · subst e0
    obtain ⟨u, rfl, ru⟩ := vals1 r
    cases ru
    obtain ⟨hz, hS, vs, rk, m⟩ : kvs.length ≤ sizeLine ∧ (d == sysModules) = false ∧ ∃ vs, KV kvs vs ∧ s.heap.DictOf (mixKind X.prog X.w) d vs := I.hok d _ hd
    obtain ⟨ep, hat⟩ := m.dictAt
    have hlen : kvs.length = vs.length := Paired.length rk
    have hl2 : kvs.length = ns.length := by have := congrArg List.length hks; simpa using this
    refine sorted_src_up (PySem.W.kdl_dict (knd := mixKind X.prog X.w) (kvs := vs) (ep := ep) hS) (I.ok.hd hc) hat (by omega) (by omega) ns (up.imp fun y => Int.le_of_lt y) (fun acc h1 h2 => ?_) fun D h2 tk e out hk hD ho hI => ?_
    · have kv := keys_vals (P := X.prog) (w := X.w) rk h1 h2
      have e : (kvs.map fun p => kV p.1) = ns.map V.int := by
        have y : (kvs.map fun p => kV p.1) = (kvs.map (·.1)).map kV := by rw [List.map_map]; rfl
        rw [y, hks, List.map_map]; rfl
      rw [e] at kv
      exact intsAre_of kv
    · obtain ⟨hn, I2⟩ := I.laidN (t' := tk) (o := .lst (ns.map V.int)) hk hD ⟨by rw [List.length_map, sizeLine_eq]; omega, out.toList, e, intsAre_vals hI, by rw [Array.toArray_toList]; exact ho⟩
      exact ⟨.ref D, _, I2, rfl, q D hn⟩
end
end L2

set_option Elab.async false
set_option linter.all false
set_option maxRecDepth 100000
namespace L2
open PySem PySem.Spec PyProof.Rows
def stepO (ord : List Int) (h : Int) : List Int := if h = 0 ∨ h ∈ ord then ord else ord ++ [h]
def layO (ord hs : List Int) : List Int := hs.foldl stepO ord
theorem layO_app {ord a b : List Int} : layO ord (a ++ b) = layO (layO ord a) b := List.foldl_append
theorem layO_snoc {ord a : List Int} {h : Int} : layO ord (a ++ [h]) = stepO (layO ord a) h := by rw [layO_app]; rfl
theorem stepO_pre {ord : List Int} {h : Int} : ord <+: stepO ord h := by
  unfold stepO
  split
  · exact List.prefix_refl _
  · exact List.prefix_append _ _
theorem layO_pre : ∀ {hs ord : List Int}, ord <+: layO ord hs
  | [], _ => List.prefix_refl _
  | h :: hs, ord => stepO_pre.trans (layO_pre (hs := hs))
theorem layO_mono {a b : List Int} (h : a <+: b) : layO [] a <+: layO [] b := by
  obtain ⟨c, rfl⟩ := h
  rw [layO_app]
  exact layO_pre
def thAt (ts : List Th) (z : Int) : Th := (ts.find? fun t => t.1 == z).getD (0, [], [])
def holdsAt (ts : List Th) (z : Int) : List Int := (thAt ts z).2.1
def stream (ts : List Th) (roots ord : List Int) : List Int := roots ++ ord.flatMap (holdsAt ts)
theorem stream_pre {ts : List Th} {roots a b : List Int} (h : a <+: b) : stream ts roots a <+: stream ts roots b := by
  obtain ⟨c, rfl⟩ := h
  unfold stream
  rw [List.flatMap_append, ← List.append_assoc]
  exact List.prefix_append _ _
structure Cart (ts : List Th) (roots ord : List Int) : Prop where
  fix : layO [] (stream ts roots ord) = ord
  led : ∀ n, n < ord.length → ord.take (n + 1) <+: layO [] (stream ts roots (ord.take n))
theorem Cart.one {ts : List Th} {roots o1 o2 : List Int} (c1 : Cart ts roots o1) (c2 : Cart ts roots o2) : ∀ n, n ≤ o1.length → o1.take n = o2.take n ∧ n ≤ o2.length
  | 0, _ => ⟨rfl, Nat.zero_le _⟩
  | n + 1, h => by
    obtain ⟨e, l⟩ := Cart.one c1 c2 n (by omega)
    have p1 := c1.led n (by omega)
    rw [e] at p1
    have p2 : layO [] (stream ts roots (o2.take n)) <+: o2 := by
      have := layO_mono (stream_pre (ts := ts) (roots := roots) (List.take_prefix n o2))
      rw [c2.fix] at this
      exact this
    have p := p1.trans p2
    have len : (o1.take (n + 1)).length = n + 1 := by rw [List.length_take]; omega
    have e2 := List.prefix_iff_eq_take.mp p
    rw [len] at e2
    exact ⟨e2, by have := p.length_le; omega⟩
/-- a step of either loop: what is laid is led to -/
structure Going (ts : List Th) (roots done ord : List Int) : Prop where
  is : layO [] done = ord
  pre : done <+: stream ts roots ord
  led : ∀ n, n < ord.length → ord.take (n + 1) <+: layO [] (stream ts roots (ord.take n))
theorem Going.nil {ts : List Th} {roots : List Int} : Going ts roots [] [] := ⟨rfl, List.nil_prefix, fun n h => by simp at h⟩
theorem Going.step {ts : List Th} {roots done ord : List Int} (g : Going ts roots done ord) {h : Int} (hp : done ++ [h] <+: stream ts roots ord) : Going ts roots (done ++ [h]) (stepO ord h) := by
  have e : layO [] (done ++ [h]) = stepO ord h := by rw [layO_snoc, g.is]
  refine ⟨e, hp.trans (stream_pre stepO_pre), fun n hn => ?_⟩
  unfold stepO at hn ⊢
  split at hn
  · rename_i c
    rw [if_pos c]
    exact g.led n hn
  · rename_i c
    rw [if_neg c]
    rw [List.length_append, List.length_singleton] at hn
    by_cases d : n < ord.length
    · rw [List.take_append_of_le_length (by omega), List.take_append_of_le_length (by omega)]
      exact g.led n d
    · have en : n = ord.length := by omega
      rw [en, List.take_of_length_le (by rw [List.length_append]; simp), List.take_append_of_le_length (Nat.le_refl _), List.take_length]
      have := layO_mono hp
      rw [e] at this
      unfold stepO at this
      rw [if_neg c] at this
      exact this
theorem Going.done {ts : List Th} {roots ord : List Int} (g : Going ts roots (stream ts roots ord) ord) : Cart ts roots ord := ⟨g.is, g.led⟩
end L2

set_option Elab.async false
set_option linter.all false
set_option maxRecDepth 100000
namespace L2
open PySem PySem.Spec PyProof.Rows
section
variable {X : Cx}
end
end L2

set_option Elab.async false
set_option linter.all false
set_option maxRecDepth 100000
namespace PySem
namespace F
end F
/-- what a walk of a set finds at its place i, and where it stands then -/
structure SetWalked (w : World) (a : Addr) (es : Array (Int × Value)) (ep : Nat) (t : SetTable) : Prop where
  fits : t.fits es.size = true
  plain : t.plain = true
  led : t.led = !w.params.followText "set-order"
  rise : ∀ i j, i < j → j < es.size → t.place.getD i 0 < t.place.getD j 0
def Heap.IsSetIter (h : Heap) (it a : Addr) (sl i n ep : Nat) : Prop :=
  h.get? it = some { cls := .type "set_iterator", data := .fields #[.int sl 0, .int i 0, .ref a, .int n 0, .int ep 0] }
end PySem
namespace PySem
section
variable {prog : Program} {w : World} {A : Around} {E : Value → Shared → Prop} {s : Shared}
theorem Heap.IsSetIter.typeIs {it a sl i n ep} (x : s.heap.IsSetIter it a sl i n ep) : s.TypeIs (.ref it) "set_iterator" := ⟨_, x, rfl⟩
end
end PySem
namespace PySem
end PySem
namespace PySem
section
variable {prog : Program} {w : World} {A : Around} {E : Value → Shared → Prop} {s : Shared}
end
end PySem
namespace PySem
section
variable {prog : Program} {w : World} {A : Around} {R : Result → Shared → Prop} {I : Addr} {fp wr : List Addr} {G : Array GenState → Array GenState → Prop} {n : Nat} {P : Nat → Value → Prop} {St : Nat → Shared → Prop}
end
section
variable {prog : Program} {w : World} {A : Around} {E : Value → Shared → Prop} {s : Shared}
end
end PySem

namespace PySem.W
section
variable {prog : Program} {w : World} {A : Around} {E : Value → Shared → Prop} {s : Shared} {r : Addr} {Q : Bool → Shared → Prop}
end
end PySem.W

set_option Elab.async false
set_option linter.all false
set_option maxRecDepth 100000
namespace L2
open PySem PySem.Spec PyProof.Rows
/-- a set of ints at a that holds just ns -/
def SetO (w : World) (a : Addr) (ns : List Int) : HO := .ext fun h => ∃ es ep t ms, h.get? a = some { cls := .type "set", data := .set es ep t } ∧ SetWalked w a es ep t ∧ IntsAre (es.toList.map (·.2)) ms ∧ ms.Perm ns
section
variable {X : Cx}
end
end L2

set_option Elab.async false
set_option linter.all false
set_option maxRecDepth 100000
namespace L2
open PySem PySem.Spec PyProof.Rows
inductive RepD (H : Hp) : V → PyData → Prop
  | non : RepD H .non .none
  | bl (b : Bool) : RepD H (.bl b) (.bool b)
  | int (i : Int) : RepD H (.int i) (.int i)
  | str (x : Str) : RepD H (.str x) (.str x)
  | lst {p : Addr} {vs : List V} {ds : List PyData} : H p = some (.lst vs) → vs.length = ds.length → (∀ (i : Nat) (v : V) (d : PyData), vs[i]? = some v → ds[i]? = some d → RepD H v d) → RepD H (.ref p) (.list ds)
  | tup {p : Addr} {vs : List V} {ds : List PyData} : H p = some (.tup vs) → vs.length = ds.length → (∀ (i : Nat) (v : V) (d : PyData), vs[i]? = some v → ds[i]? = some d → RepD H v d) → RepD H (.ref p) (.tuple ds)
theorem RepD.same {H H' : Hp} {v : V} {d : PyData} (S : Same H H') (r : RepD H v d) : RepD H' v d := by
  induction r with
  | non => exact .non
  | bl b => exact .bl b
  | int i => exact .int i
  | str x => exact .str x
  | lst h l _ ih => exact .lst (S _ _ h) l ih
  | tup h l _ ih => exact .tup (S _ _ h) l ih
theorem readsAll {h : Heap} : ∀ {vs : List V} {its : List Value} {ds : List PyData}, Vals vs its → vs.length = ds.length → (∀ (i : Nat) (v : V) (d : PyData) (u : Value), vs[i]? = some v → ds[i]? = some d → RelV v u → ∃ as, Reads h u d as) → ∃ as, ReadsAll h its ds as
  | [], _, [], .nil, _, _ => ⟨_, .nil⟩
  | [], _, _ :: _, .nil, l, _ => by simp at l
  | v :: vs, u :: its, [], .cons _ _, l, _ => by simp at l
  | v :: vs, u :: its, d :: ds, .cons r t, l, k => by
    obtain ⟨as, h1⟩ := k 0 v d u rfl rfl r
    obtain ⟨bs, h2⟩ := readsAll t (by simpa using l) fun i v d u a b c => k (i + 1) v d u (by simpa using a) (by simpa using b) c
    exact ⟨_, .cons h1 h2⟩
theorem RepD.reads {P : Program} {w : World} {H : Hp} {h : Heap} (hok : HOk P w H h) {v : V} {d : PyData} (r : RepD H v d) : ∀ {u : Value}, RelV v u → ∃ as, Reads h u d as := by
  induction r with
  | non => intro u e; cases e; exact ⟨_, .none⟩
  | bl b => intro u e; cases e; exact ⟨_, .bool b⟩
  | int i => intro u e; obtain ⟨t, rfl⟩ := e; exact ⟨_, .int i t⟩
  | str x => intro u e; obtain ⟨t, rfl⟩ := e; exact ⟨_, .str x t⟩
  | @lst p vs ds hp l _ ih =>
    intro u e
    cases e
    obtain ⟨_, its, n, rv, g⟩ := hok p _ hp
    obtain ⟨as, ra⟩ := readsAll (h := h) rv l fun i v d u a b c => ih i v d a b c
    exact ⟨_, .list g rfl rfl ra⟩
  | @tup p vs ds hp l _ ih =>
    intro u e
    cases e
    obtain ⟨_, its, rv, g⟩ := hok p _ hp
    obtain ⟨o, g1, g2, n, g3⟩ := g
    obtain ⟨as, ra⟩ := readsAll (h := h) rv l fun i v d u a b c => ih i v d a b c
    exact ⟨_, .tuple g1 g2 g3 ra⟩
def rEqP (neg : Bool) : R2 := fun x y H Q => ∃ dx dy, RepD H x dx ∧ RepD H y dy ∧ SeqAt.shaped dx = true ∧ SeqAt.shaped dy = true ∧ Q (.bl (if neg then !PyData.eqv dx dy else PyData.eqv dx dy)) H
section
variable {X : Cx}
theorem op_eqP (hu : X.A.units + 64 < cLine) : OpR X (compareOp .Eq) (rEqP false) := by
  intro pins s σ H x y v u Q I rx ry h
  obtain ⟨dx, dy, r1, r2, s1, s2, q⟩ := h
  obtain ⟨as, q1⟩ := r1.reads I.hok rx
  obtain ⟨bs, q2⟩ := r2.reads I.hok ry
  exact SeqAt.compareEq_shaped q1 q2 s1 s2 hu ⟨.bl _, H, I, rfl, q⟩
theorem op_neP (hu : X.A.units + 64 < cLine) : OpR X (compareOp .NotEq) (rEqP true) := by
  intro pins s σ H x y v u Q I rx ry h
  obtain ⟨dx, dy, r1, r2, s1, s2, q⟩ := h
  obtain ⟨as, q1⟩ := r1.reads I.hok rx
  obtain ⟨bs, q2⟩ := r2.reads I.hok ry
  exact SeqAt.compareNe_shaped q1 q2 s1 s2 hu ⟨.bl _, H, I, rfl, q⟩
end
section
variable {X : Cx} {K : PySem.W.Frag}
theorem call_list_ofK (hk : X.K = K) : CallR X (.type "list") (fun xs H Q => ∃ p ys, xs = [.ref p] ∧ (SqL K H p ys ∨ SqT K H p ys) ∧ ∀ l, H l = none → Q (.ref l) (upd H l (.lst ys))) := by subst hk; exact call_list_of
end
end L2

set_option Elab.async false
set_option linter.all false
set_option maxRecDepth 100000
namespace L2
open PySem PySem.Spec PyProof.Rows
structure KDct (K : PySem.W.Frag) (a : Addr) (D : List (Str × V)) : Prop where
  lo : (a == sysModules) = false
  at_ : ∃ o es ep, K.lookup a = some o ∧ o.ExactDict ∧ o.data = .dict es ep ∧ KTD.Rows RelV es.toList D
section
variable {prog : Program} {w : World} {A : Around} {E : Value → Shared → Prop} {s : Shared} {a : Addr} {D : List (Str × V)} {k : Str} {tk : Tok}
def KHere (h : Heap) (a : Addr) (D : List (Str × V)) : Prop := KTD.TabOf RelV h a D
theorem KHere.typeIs (T : KHere s.heap a D) : s.TypeIs (.ref a) "dict" := let ⟨_, o, _, _, ho, hc, _⟩ := T; ⟨o, ho, hc.1⟩
end
theorem KDct.here {X : Cx} {pins : List (Addr × Obj)} {σ : St} {H : Hp} {s : Shared} {a : Addr} {D : List (Str × V)} (I : Inv X pins σ H s) (g : KDct X.K a D) : KHere s.heap a D := by
  obtain ⟨lo, o, es, ep, hk, hc, hd, hr⟩ := g
  exact ⟨lo, o, es, ep, I.kIn a o hk, hc, hd, hr⟩
section
variable {X : Cx} {o i e : Expr} {pos apos cpos : Pos} {td ty : TE} {K : PySem.W.Frag}
end
def CMulB (i j : Int) : Prop := i.natAbs < 2 ^ 1000 ∧ j.natAbs < 2 ^ 1000
theorem intBits_small {i : Int} (h : i.natAbs < 2 ^ 1000) : Builtin.Int.intBits i ≤ 1000 := by
  unfold Builtin.Int.intBits
  split
  · omega
  · rename_i c
    have c' : i.natAbs ≠ 0 := by intro e; exact c (by simpa using Int.natAbs_eq_zero.mp e)
    have := (Nat.log2_lt c').mpr h
    omega
theorem CMulB.ok {i j : Int} (h : CMulB i j) : IntMulOk i j := by
  have h1 := intBits_small h.1
  have h2 := intBits_small h.2
  unfold IntMulOk
  have : Builtin.Int.intTooBig ((Builtin.Int.intBits i : Int) + (Builtin.Int.intBits j : Int)) = false := by
    unfold Builtin.Int.intTooBig
    have hb : (2000 : Int) ≤ bitsLine := by decide
    simp
    omega
  rw [this]; simp
theorem op_mulB {X : Cx} : OpR X (binaryOp .Mult) (rI CMulB fun i j => .int (i * j)) := opI fun _ _ _ _ _ _ _ hc q => mul_int q hc.ok
end L2

set_option Elab.async false
set_option linter.all false
set_option maxRecDepth 100000
namespace L2
open PySem PySem.Spec PyProof.Rows
section
variable {X : Cx}
theorem upd_newS {H1 H : Hp} {D : Addr} {u : HO} (S : Same H1 H) (hD : H1 D = none) : Same H1 (upd H D u) := fun q o h => by
  rw [upd_ne (fun e => by rw [e, hD] at h; cases h)]
  exact S q o h
end
end L2

set_option Elab.async false
set_option linter.all false
set_option maxRecDepth 100000
namespace L2
open PySem PySem.Spec PyProof.Rows
section
variable {X : Cx}
end
end L2

set_option Elab.async false
set_option linter.all false
set_option maxRecDepth 100000
namespace L2
open PySem PySem.Spec PyProof.Rows
section
variable {X : Cx} {es : List Expr} {t te : TA} {s : Str} {i : Int} {j : Nat} {p : Pos}
theorem pa_cstr (h : PA X es t) : PA X (.Constant (.str s) j p :: es) (tCons (tC (.str s)) t) := pa_cons pe_str h rfl
theorem pa_cint (h : PA X es t) : PA X (.Constant (.int i) j p :: es) (tCons (tC (.int i)) t) := pa_cons pe_int h rfl
theorem pa_cname {x : Str} {te : TE} (h1 : PE X (.Name x p) te) (h : PA X es t) : PA X (.Name x p :: es) (tCons te t) := pa_cons h1 h rfl
end
theorem ps_setL {X : Cx} {i : Nat} {x : Str} {es : List Expr} {t : TA} {pos pos' p : Pos} (hN : X.N.Nodup) (hi : X.N[i]? = some x) (hx : Loc X.env.scope x) (he : PA X es t) (hf : X.fn x = true ∨ X.env.scope.names.lookup x = some .local := by first | exact .inl rfl | exact .inr rfl | assumption) :
    PS X (.Assign [.Name x pos'] (.List es p) pos) (tAsg (tLst t) (gName i)) := ps_set hN hi hx (pe_lst he) rfl hf
section
variable {X : Cx} {e : Expr} {te : TE} {p p1 p2 pos cpos : Pos} {j : Nat} {K : PySem.W.Frag}
/-- xs[::-1] -/
def tRev (K : PySem.W.Frag) (te : TE) : TE := fun σ H Q => te σ H fun x H1 => ∃ a xs, x = .ref a ∧ SqL K H1 a xs ∧ ∀ p, H1 p = none → Q (.ref p) (upd H1 p (.lst xs.reverse))
theorem fm_map {α β : Type} {f : α → Option β} (g : α → β) (xs : List α) (h : ∀ x ∈ xs, f x = some (g x)) : xs.filterMap f = xs.map g := by
  induction xs with
  | nil => rfl
  | cons x r ih => rw [List.filterMap_cons_some (h x List.mem_cons_self), ih fun y hy => h y (List.mem_cons_of_mem _ hy)]; rfl
theorem pick_rev (its : List Value) : slicePick its.toArray none none (some (-1)) = its.reverse.toArray := by
  unfold slicePick sliceBounds sliceRange
  simp
  have key : ∀ l : List Value, l.reverse = List.filterMap ((fun x => l[x]?) ∘ fun k : Nat => ((l.length : Int) - 1 + -(k : Int)).toNat) (List.range l.length) := by
    intro l
    rw [fm_map (fun k : Nat => l.getD (l.length - 1 - k) .none) _ fun k hk => by
      have hk2 := List.mem_range.mp hk
      show l[((l.length : Int) - 1 + -(k : Int)).toNat]? = _
      rw [show ((l.length : Int) - 1 + -(k : Int)).toNat = l.length - 1 - k by omega, List.getD_eq_getElem?_getD, List.getElem?_eq_getElem (by omega)]
      rfl]
    apply List.ext_getElem
    · simp
    · intro i h1 h2
      rw [List.length_reverse] at h1
      rw [List.getElem_reverse, List.getElem_map, List.getElem_range, List.getD_eq_getElem?_getD, List.getElem?_eq_getElem (by omega)]
      rfl
  rw [key its]
  congr 2
  split <;> omega
theorem pe_rev (hk : X.K = K) (he : PE X e te) (hu : PE X (.UnaryOp .USub (.Constant (.int 1) j p1) p2) (tUn (rU fun i => V.int (-i)) (tC (V.int 1)))) : PE X (.Subscript e (.Slice none none (some (.UnaryOp .USub (.Constant (.int 1) j p1) p2)) cpos) pos) (tRev K te) := by
  subst hk
  intro pins s σ H Q I h
  refine Subscript_ (thn (he pins s σ H _ I h) fun v s1 ⟨x, H1, I1, r1, a, xs, ex, hx, q1⟩ => ?_)
  subst ex
  cases r1
  refine wpAny_Slice ?_
  rw [evalPart_none]
  refine wpAny_pure ?_
  refine wpAny_pure ?_
  rw [evalPart_some]
  refine thn (hu pins s1 σ H1 (fun y H2 => y = .int (-1) ∧ H2 = H1) I1 ⟨1, rfl, rfl, rfl⟩) fun vst s2 ⟨y, H2, I2, r2, e1, e2⟩ => ?_
  subst e1 e2
  obtain ⟨t, rfl⟩ := r2
  have I4 : Inv X pins σ H2 { s2 with heap := s2.heap.push { cls := .type "slice", data := .fields #[.none, .none, .int (-1) t] } } := I2.kept (t' := s2.toks) fun b ob q => Heap.get?_push_of_some _ q
  obtain ⟨its, r, ht, hz⟩ := I4.list hx
  have hlen := r.length
  refine tail_any (ops := [.ref a, .ref s2.heap.objs.size]) ht.isList.typeIs slot_list_getitem.lookup ?_ (by with_unfolding_all rfl)
  refine wpAny_getItem_list_slice ht.isList (Heap.IsSliceOf.new ..) .none .none (.int (-1) t) (by simp) ?_ (by rw [List.size_toArray] <;> omega)
  rw [pick_rev]
  refine ⟨.ref _, _, I4.laid (t' := s2.toks) (o := .lst xs.reverse) (fun b ob q => Heap.get?_push_of_some _ q) (Nat.le_refl _) ?_, rfl, q1 _ (I4.hok.fresh (Nat.le_refl _))⟩
  exact ⟨by rw [List.length_reverse]; exact hz, _, 0, r.reverse, Heap.get?_push_size _ rfl⟩
end
end L2

set_option Elab.async false
set_option linter.all false
set_option maxRecDepth 100000
namespace L2
open PySem PySem.Spec PyProof.Rows
section
variable {prog : Program} {w : World} {A : Around}
def KeptBut (I S : Addr) (h0 h : Heap) : Prop := ∀ b o, b ≠ I → b ≠ S → h0.get? b = some o → h.get? b = some o
theorem KeptBut.one {I S : Addr} {h0 h h' : Heap} (k : KeptBut I S h0 h) (e : ∀ b o, b ≠ I → b ≠ S → h.get? b = some o → h'.get? b = some o) : KeptBut I S h0 h' := fun b o n1 n2 q => e b o n1 n2 (k b o n1 n2 q)
end
section
variable {X : Cx} {e : Expr} {te : TE} {p p1 p2 p3 p4 pos : Pos} {j : Nat} {K : PySem.W.Frag}
end
section
variable {X : Cx}
end
end L2

set_option Elab.async false
set_option linter.all false
set_option maxRecDepth 100000
namespace L2
open PySem PySem.Spec PyProof.Rows
section
variable {prog : Program} {w : World} {A : Around}
end
end L2

set_option Elab.async false
set_option linter.all false
set_option maxRecDepth 100000
namespace L2
open PySem PySem.Spec PyProof.Rows
theorem Inv.many {X : Cx} {pins : List (Addr × Obj)} {σ : St} {H H' : Hp} {s : Shared} {h' : Heap} {t' : Nat} (I : Inv X pins σ H s) (k : ∀ b u, s.heap.get? b = some u → h'.get? b = some u)
    (old : ∀ b u, s.heap.get? b = some u → H' b = H b) (same : ∀ b o, H b = some o → H' b = some o) (ok : ∀ b o, H' b = some o → H b = none → ObjOk X.prog X.w H' h' b o) : Inv X pins σ H' { s with heap := h', toks := t' } := by
  refine I.un ⟨fun b u q _ _ _ => k b u q, fun b u q _ _ _ => ⟨u.slots, k b u q⟩, fun b u q n _ => by rw [old b u q]; exact n, fun b u q _ => ⟨u, k b u q⟩, fun b xs q => same _ _ q, fun b o u q => same _ _ q, fun b ps q => ⟨#[], by rw [same _ _ q]; simp⟩⟩ fun b u e => ?_
  cases hb : H b with
  | none => exact ok b u e hb
  | some o =>
    have := same b o hb
    rw [e] at this
    cases this
    exact (I.hok b u hb).stay (fun c v _ q => k c v q) (fun c q => same _ _ q) fun c xs q => same _ _ q
section
variable {X : Cx} {e1 e2 : Expr} {ta : TA} {p p1 pos pos1 : Pos} {K : PySem.W.Frag}
end
end L2

set_option Elab.async false
set_option linter.all false
set_option maxRecDepth 100000
namespace Law
open PySem L2
local macro_rules | `(tactic| simp! [$ls,*]) => `(tactic| simp only [tSeq, tAsg, gName, tVar, tC, tOp, tUn, rI0, rI, rU, tCB, tCons, tNil, tRet, tRetN, tIfS, tTest, tB, tAnd, tOr, tNot, tAndV, tOrV, tNotV, tIf, tDrop, tNext, tCall, tMeth, tIsN, tNotN, L2.start, List.map_cons, List.map_nil, List.length_cons, List.length_nil, List.nil_append, List.cons_append, List.append_nil, Nat.reduceAdd, Nat.reduceSub, Nat.sub_self, List.replicate_succ, List.replicate_zero, List.set_cons_zero, List.set_cons_succ, List.getElem?_cons_zero, List.getElem?_cons_succ, Option.some.injEq, V.int.injEq, V.bl.injEq, V.str.injEq, V.ref.injEq, List.cons.injEq, exists_eq_left', exists_eq_left, exists_and_left, and_true, true_and, if_true, if_false, ite_true, ite_false, Bool.true_eq_false, Bool.false_eq_true, decide_eq_true_eq, Bool.not_true, Bool.not_false, Bool.not_eq_true', decide_eq_false_iff_not, reduceCtorEq, false_and, and_false, exists_false, tTup, tLst, sizeLine_eq, Nat.reduceLeDiff, Nat.zero_le, rEq, rNe, rIxF, rEqF, gSub, rSetL, HO.lst.injEq, HO.tup.injEq, HO.ins.injEq, HO.dK.injEq, scal_int, scal_bl, scal_str, tyF_ref, tyF_int, tyF_bl, tyF_str, tyF_non, lenF_ref, seqV_eq, kindV_eq, tyO_lst, tyO_frz, tyO_tup, tyO_dK, lenO_lst, lenO_frz, lenO_tup, seqO_lst, seqO_frz, seqO_tup, kindO_lst, kindO_frz, kindO_tup, isTys, and_assoc, atI_0, atI_1, atI_2, atI_3, atI_4, upd_same, V.ty.injEq, eq_self_iff_true, and_self, String.reduceEq, or_false, or_true, false_or, true_or, Bool.or_true, Bool.or_false, Bool.true_or, Bool.false_or, Bool.and_false, Bool.false_and, Bool.and_true, Bool.true_and, String.reduceBEq, beq_self_eq_true, tDGetF, tDInF, tDNotInF, sDPutF, keyOf_int, keyOf_str, sFld, tFld, tDNewK, tRaise, tMethE, EX, tFstr, tMake, cxOf_K, Nat.reduceLT, Option.join_some, Option.join_none, not_true_eq_false, not_false_eq_true, gCons, gNil, tChain, rEqE, tAug, ipI, $ls,*])
def top (i : Nat) : Stmt := PySem.Challenge.pw_knownholds_k21_a_hand_begins.main.body.getD i (.Pass ⟨0, 0, 0, 0⟩)
abbrev s_Yard___init : Stmt := inClass (top 8) 0
abbrev s_Yard_holds_of : Stmt := inClass (top 8) 7
abbrev s_Yard_numbers_of : Stmt := inClass (top 8) 8
abbrev s_Yard_told : Stmt := inClass (top 8) 9
abbrev s_Hand___init : Stmt := inClass (top 35) 0
abbrev s_Hand_go : Stmt := inClass (top 35) 7
abbrev s_outcome : Stmt := top 37
abbrev s_run : Stmt := top 38
abbrev s_law_bag : Stmt := top 40
abbrev s_law_draw : Stmt := top 41
abbrev s_law_whole : Stmt := top 42
abbrev s_law_words : Stmt := top 43
abbrev s_law_number : Stmt := top 44
abbrev s_law_start : Stmt := top 45
abbrev s_law_letters : Stmt := top 46
abbrev s_law_def : Stmt := top 47
abbrev s_law_program : Stmt := top 48
abbrev s_law_begun : Stmt := top 49
abbrev s_law : Stmt := top 50
structure Ad where
  c_Yard : Addr
  c_Hand : Addr
  f_Yard___init : Addr
  d_Yard___init : FuncData
  f_Yard_holds_of : Addr
  d_Yard_holds_of : FuncData
  f_Yard_numbers_of : Addr
  d_Yard_numbers_of : FuncData
  f_Yard_told : Addr
  d_Yard_told : FuncData
  f_Hand___init : Addr
  d_Hand___init : FuncData
  f_Hand_go : Addr
  d_Hand_go : FuncData
  f_outcome : Addr
  d_outcome : FuncData
  f_run : Addr
  d_run : FuncData
  f_law_bag : Addr
  d_law_bag : FuncData
  f_law_draw : Addr
  d_law_draw : FuncData
  f_law_whole : Addr
  d_law_whole : FuncData
  f_law_words : Addr
  d_law_words : FuncData
  f_law_number : Addr
  d_law_number : FuncData
  f_law_start : Addr
  d_law_start : FuncData
  f_law_letters : Addr
  d_law_letters : FuncData
  f_law_def : Addr
  d_law_def : FuncData
  f_law_program : Addr
  d_law_program : FuncData
  f_law_begun : Addr
  d_law_begun : FuncData
  f_law : Addr
  d_law : FuncData
  t_BOXES : Nat
  t_UNSET : Nat
structure Txt (K : PySem.W.Frag) (mg : Str → Option Value) (a : Ad) : Prop where
  cl_Yard : Cls K a.c_Yard
  m_Yard : mg "Yard" = some (.ref a.c_Yard)
  M_Yard : Mk K a.c_Yard a.f_Yard___init
  n_free : NoAttr K a.c_Yard "free"
  n_words : NoAttr K a.c_Yard "words"
  n_sizes : NoAttr K a.c_Yard "sizes"
  cl_Hand : Cls K a.c_Hand
  m_Hand : mg "Hand" = some (.ref a.c_Hand)
  M_Hand : Mk K a.c_Hand a.f_Hand___init
  n_program : NoAttr K a.c_Hand "program"
  n_f : NoAttr K a.c_Hand "f"
  n_at : NoAttr K a.c_Hand "at"
  n_boxes : NoAttr K a.c_Hand "boxes"
  n_pile : NoAttr K a.c_Hand "pile"
  n_frames : NoAttr K a.c_Hand "frames"
  n_yard : NoAttr K a.c_Hand "yard"
  n_news : NoAttr K a.c_Hand "news"
  n_end : NoAttr K a.c_Hand "end"
  F_Yard___init : Fun K "__init__" "Yard.__init__" s_Yard___init a.f_Yard___init a.d_Yard___init
  b_Yard___init : Binds K a.d_Yard___init ["self", "start"] []
  F_Yard_holds_of : Fun K "holds_of" "Yard.holds_of" s_Yard_holds_of a.f_Yard_holds_of a.d_Yard_holds_of
  b_Yard_holds_of : Binds K a.d_Yard_holds_of ["self", "at"] []
  M_Yard_holds_of : Meth K a.c_Yard "holds_of" a.f_Yard_holds_of
  F_Yard_numbers_of : Fun K "numbers_of" "Yard.numbers_of" s_Yard_numbers_of a.f_Yard_numbers_of a.d_Yard_numbers_of
  b_Yard_numbers_of : Binds K a.d_Yard_numbers_of ["self", "at"] []
  M_Yard_numbers_of : Meth K a.c_Yard "numbers_of" a.f_Yard_numbers_of
  F_Yard_told : Fun K "told" "Yard.told" s_Yard_told a.f_Yard_told a.d_Yard_told
  b_Yard_told : Binds K a.d_Yard_told ["self"] []
  M_Yard_told : Meth K a.c_Yard "told" a.f_Yard_told
  F_Hand___init : Fun K "__init__" "Hand.__init__" s_Hand___init a.f_Hand___init a.d_Hand___init
  b_Hand___init : Binds K a.d_Hand___init ["self", "program", "inputs", "start"] []
  F_Hand_go : Fun K "go" "Hand.go" s_Hand_go a.f_Hand_go a.d_Hand_go
  b_Hand_go : Binds K a.d_Hand_go ["self"] []
  M_Hand_go : Meth K a.c_Hand "go" a.f_Hand_go
  F_outcome : Fun K "outcome" "outcome" s_outcome a.f_outcome a.d_outcome
  b_outcome : Binds K a.d_outcome ["hand"] []
  m_outcome : mg "outcome" = some (.ref a.f_outcome)
  F_run : Fun K "run" "run" s_run a.f_run a.d_run
  b_run : Binds K a.d_run ["program", "inputs", "most", "start"] []
  m_run : mg "run" = some (.ref a.f_run)
  F_law_bag : Fun K "_law_bag" "_law_bag" s_law_bag a.f_law_bag a.d_law_bag
  b_law_bag : Binds K a.d_law_bag ["script"] []
  m_law_bag : mg "_law_bag" = some (.ref a.f_law_bag)
  F_law_draw : Fun K "_law_draw" "_law_draw" s_law_draw a.f_law_draw a.d_law_draw
  b_law_draw : Binds K a.d_law_draw ["bag", "many"] []
  m_law_draw : mg "_law_draw" = some (.ref a.f_law_draw)
  F_law_whole : Fun K "_law_whole" "_law_whole" s_law_whole a.f_law_whole a.d_law_whole
  b_law_whole : Binds K a.d_law_whole ["found"] []
  m_law_whole : mg "_law_whole" = some (.ref a.f_law_whole)
  F_law_words : Fun K "_law_words" "_law_words" s_law_words a.f_law_words a.d_law_words
  b_law_words : Binds K a.d_law_words ["found", "due"] []
  m_law_words : mg "_law_words" = some (.ref a.f_law_words)
  F_law_number : Fun K "_law_number" "_law_number" s_law_number a.f_law_number a.d_law_number
  b_law_number : Binds K a.d_law_number ["bag"] []
  m_law_number : mg "_law_number" = some (.ref a.f_law_number)
  F_law_start : Fun K "_law_start" "_law_start" s_law_start a.f_law_start a.d_law_start
  b_law_start : Binds K a.d_law_start ["bag"] []
  m_law_start : mg "_law_start" = some (.ref a.f_law_start)
  F_law_letters : Fun K "_law_letters" "_law_letters" s_law_letters a.f_law_letters a.d_law_letters
  b_law_letters : Binds K a.d_law_letters ["bag", "many"] []
  m_law_letters : mg "_law_letters" = some (.ref a.f_law_letters)
  F_law_def : Fun K "_law_def" "_law_def" s_law_def a.f_law_def a.d_law_def
  b_law_def : Binds K a.d_law_def ["bag", "takes", "gives"] []
  m_law_def : mg "_law_def" = some (.ref a.f_law_def)
  F_law_program : Fun K "_law_program" "_law_program" s_law_program a.f_law_program a.d_law_program
  b_law_program : Binds K a.d_law_program ["bag"] []
  m_law_program : mg "_law_program" = some (.ref a.f_law_program)
  F_law_begun : Fun K "_law_begun" "_law_begun" s_law_begun a.f_law_begun a.d_law_begun
  b_law_begun : Binds K a.d_law_begun ["hand", "program", "numbers", "start"] []
  m_law_begun : mg "_law_begun" = some (.ref a.f_law_begun)
  F_law : Fun K "law" "law" s_law a.f_law a.d_law
  b_law : Binds K a.d_law ["script"] []
  m_law : mg "law" = some (.ref a.f_law)
  z_abs : mg "abs" = none
  z_bool : mg "bool" = none
  z_int : mg "int" = none
  z_isinstance : mg "isinstance" = none
  z_len : mg "len" = none
  z_list : mg "list" = none
  z_range : mg "range" = none
  z_sorted : mg "sorted" = none
  z_tuple : mg "tuple" = none
  m_BOXES : mg "BOXES" = some (.int (8) a.t_BOXES)
  m_UNSET : mg "UNSET" = some (.int (-1) a.t_UNSET)
theorem sc_Yard___init : FnScope ["self", "start"] ["self", "start"] (defScope s_Yard___init) := ⟨rfl, rfl, rfl, by decide +kernel, rfl, by decide +kernel, by decide +kernel⟩
theorem sc_Yard_told : FnScope ["self"] ["self"] (defScope s_Yard_told) := ⟨rfl, rfl, rfl, by decide +kernel, rfl, by decide +kernel, by decide +kernel⟩
theorem sc_Hand___init : FnScope ["self", "program", "inputs", "start"] ["self", "program", "inputs", "start"] (defScope s_Hand___init) := ⟨rfl, rfl, rfl, by decide +kernel, rfl, by decide +kernel, by decide +kernel⟩
theorem sc_outcome : FnScope ["hand", "end"] ["hand"] (defScope s_outcome) := ⟨rfl, rfl, rfl, by decide +kernel, rfl, by decide +kernel, by decide +kernel⟩
theorem sc_run : FnScope ["program", "inputs", "most", "start", "hand", "gone"] ["program", "inputs", "most", "start"] (defScope s_run) := ⟨rfl, rfl, rfl, by decide +kernel, rfl, by decide +kernel, by decide +kernel⟩
theorem sc_law_bag : FnScope ["script", "stir", "cell"] ["script"] (defScope s_law_bag) := ⟨rfl, rfl, rfl, by decide +kernel, rfl, by decide +kernel, by decide +kernel⟩
theorem sc_law_draw : FnScope ["bag", "many", "found"] ["bag", "many"] (defScope s_law_draw) := ⟨rfl, rfl, rfl, by decide +kernel, rfl, by decide +kernel, by decide +kernel⟩
theorem sc_law_whole : FnScope ["found"] ["found"] (defScope s_law_whole) := ⟨rfl, rfl, rfl, by decide +kernel, rfl, by decide +kernel, by decide +kernel⟩
theorem sc_law_words : FnScope ["found", "due", "k"] ["found", "due"] (defScope s_law_words) := ⟨rfl, rfl, rfl, by decide +kernel, rfl, by decide +kernel, by decide +kernel⟩
theorem sc_law_number : FnScope ["bag", "sign"] ["bag"] (defScope s_law_number) := ⟨rfl, rfl, rfl, by decide +kernel, rfl, by decide +kernel, by decide +kernel⟩
theorem sc_law_start : FnScope ["bag", "way"] ["bag"] (defScope s_law_start) := ⟨rfl, rfl, rfl, by decide +kernel, rfl, by decide +kernel, by decide +kernel⟩
theorem sc_law_letters : FnScope ["bag", "many"] ["bag", "many"] (defScope s_law_letters) := ⟨rfl, rfl, rfl, by decide +kernel, rfl, by decide +kernel, by decide +kernel⟩
theorem sc_law_def : FnScope ["bag", "takes", "gives", "words", "begin", "rows"] ["bag", "takes", "gives"] (defScope s_law_def) := ⟨rfl, rfl, rfl, by decide +kernel, rfl, by decide +kernel, by decide +kernel⟩
theorem sc_law_program : FnScope ["bag", "many", "program", "k"] ["bag"] (defScope s_law_program) := ⟨rfl, rfl, rfl, by decide +kernel, rfl, by decide +kernel, by decide +kernel⟩
theorem sc_law_begun : FnScope ["hand", "program", "numbers", "start"] ["hand", "program", "numbers", "start"] (defScope s_law_begun) := ⟨rfl, rfl, rfl, by decide +kernel, rfl, by decide +kernel, by decide +kernel⟩
theorem sc_law : FnScope ["script", "bag", "turned", "program", "kept", "takes", "ones", "others", "start", "other_start", "handed", "first", "second", "due", "hand", "numbers", "begin", "found"] ["script"] (defScope s_law) := ⟨rfl, rfl, rfl, by decide +kernel, rfl, by decide +kernel, by decide +kernel⟩
section
variable {P : Program} {w : World} {K : PySem.W.Frag} {mg : Str → Option Value} {base : Heap} {a : Ad}

structure BagOk (cs : List Int) (i v st n : Int) : Prop where
  i0 : 0 ≤ i
  i1 : i ≤ cs.length
  v0 : 0 ≤ v
  s0 : 0 ≤ st
  s1 : st < 2147483647
  n0 : 0 ≤ n
def bagL (c : Addr) (i v st n : Int) : List V := [.ref c, .int i, .int v, .int st, .int n]
structure BagAt (H : Hp) (b c : Addr) (cs : List Int) : Prop where
  ex : ∃ i v st n, H b = some (.lst (bagL c i v st n)) ∧ BagOk cs i v st n
  at_ : H c = some (.lst (cs.map V.int))
  ne : c ≠ b
  pos : ∀ z ∈ cs, 0 ≤ z
  len : cs.length ≤ 63
/-- all but b is as it was -/
def Kp (b : Addr) (H H' : Hp) : Prop := ∀ q o, H q = some o → q ≠ b → H' q = some o
theorem Kp.refl {b : Addr} {H : Hp} : Kp b H H := fun _ _ h _ => h
theorem Kp.trans {b : Addr} {H H1 H2 : Hp} (x : Kp b H H1) (y : Kp b H1 H2) : Kp b H H2 := fun q o h n => y q o (x q o h n) n
theorem Kp.laid {b p : Addr} {H H1 : Hp} {u : HO} (x : Kp b H H1) (hp : H1 p = none) : Kp b H (upd H1 p u) := fun q o h n => upd_old (x q o h n) hp
theorem Kp.at_ {b : Addr} {H : Hp} {u : HO} : Kp b H (upd H b u) := fun q o h n => by rw [upd_ne n]; exact h
theorem BagAt.laid {H : Hp} {b c p : Addr} {cs : List Int} {u : HO} (x : BagAt H b c cs) (hp : H p = none) : BagAt (upd H p u) b c cs := by
  obtain ⟨⟨i, v, st, n, e, k⟩, h2, ne, pos, len⟩ := x
  exact ⟨⟨i, v, st, n, upd_old e hp, k⟩, upd_old h2 hp, ne, pos, len⟩
theorem BagAt.other {H : Hp} {b c p : Addr} {cs : List Int} {u : HO} (x : BagAt H b c cs) (h1 : p ≠ b) (h2 : p ≠ c) : BagAt (upd H p u) b c cs := by
  obtain ⟨⟨i, v, st, n, e, k⟩, h3, ne, pos, len⟩ := x
  exact ⟨⟨i, v, st, n, by rw [upd_ne h1.symm]; exact e, k⟩, by rw [upd_ne h2.symm]; exact h3, ne, pos, len⟩
theorem BagAt.keep {H H' : Hp} {b c : Addr} {cs : List Int} (x : BagAt H b c cs) (hs : ∀ q o, H q = some o → H' q = some o) : BagAt H' b c cs := by
  obtain ⟨⟨i, v, st, n, e, k⟩, h3, ne, pos, len⟩ := x
  exact ⟨⟨i, v, st, n, hs _ _ e, k⟩, hs _ _ h3, ne, pos, len⟩
theorem pow3_lt {x : Int} (h0 : 0 ≤ x) : 0 ≤ x ^ 3 := Int.pow_nonneg h0
def sp_draw : Sp := fun vs H Q _ => ∃ (b c : Addr) (cs : List Int) (many : Int), vs = [.ref b, .int many] ∧ BagAt H b c cs ∧ 0 < many ∧ many ≤ 10 ^ 70 ∧ ∀ (r : Int) (H' : Hp), 0 ≤ r → r < many → BagAt H' b c cs → Kp b H H' → Q (.int r) H'
theorem ixN5_0 : ixN 5 0 = some 0 := rfl
theorem ixN5_1 : ixN 5 1 = some 1 := rfl
theorem ixN5_2 : ixN 5 2 = some 2 := rfl
theorem ixN5_3 : ixN 5 3 = some 3 := rfl
theorem ixN5_4 : ixN 5 4 = some 4 := rfl
set_option maxHeartbeats 4000000 in
theorem ok_law_draw (T : Txt K mg a) : FnOk P w K mg base CX0 1 a.f_law_draw a.d_law_draw ["bag", "many"] sp_draw := by
  refine T.F_law_draw.okC sc_law_draw (fun vs H Q E h => ?_) (fun cdv A outer s H vs Q E hr h => ?_)
  · obtain ⟨b, c, cs, m, rfl, _⟩ := h
    rfl
  · obtain ⟨b, c, cs, m, rfl, ⟨⟨i, v, st, n, hb, i0, i1, v0, s0, s1, n0⟩, hc, ne, pos, len⟩, m0, m1, q⟩ := h
    have hu := hu_of hr
    refine ⟨_, (@pss_cons _ _ _ _ _ (@ps_if _ _ _ _ _ _ _ _ (PW.pt (pw_and (pt_cmpR op_eq (pe_ix ix_F (pv 0) pe_int (fun _ _ => rfl)) pe_int (nomark _)) (pw_and1 (pt_cmpR op_lt (pe_ix ix_F (pv 0) pe_int (fun _ _ => rfl)) (pe_callB call_lenF (by rfl) T.z_len (by decide +kernel) (pa_cons (pe_ix ix_F (pv 0) pe_int (fun _ _ => rfl)) pa_nil)) (nomark _))))) (@pss_cons _ _ _ _ _ (ps_asg (pe_ix ix_F (pe_ix ix_F (pv 0) pe_int (fun _ _ => rfl)) (pe_ix ix_F (pv 0) pe_int (fun _ _ => rfl)) (fun _ _ => rfl)) (pg_sub (pv 0) pe_int set_list))
      (@pss_one _ _ _ (ps_asg (pe_op op_add (pe_ix ix_F (pv 0) pe_int (fun _ _ => rfl)) pe_int) (pg_sub (pv 0) pe_int set_list)))) (@pss_one _ _ _ (@ps_if _ _ _ _ _ _ _ _ (pt_cmpR op_eq (pe_ix ix_F (pv 0) pe_int (fun _ _ => rfl)) pe_int (nomark _)) (@pss_cons _ _ _ _ _ (ps_asg (pe_op op_add (pe_ix ix_F (pv 0) pe_int (fun _ _ => rfl)) pe_int) (pg_sub (pv 0) pe_int set_list))
      (@pss_cons _ _ _ _ _ (ps_asg (pe_op op_mod (pe_op op_add (pe_op op_add (pe_op op_add (pe_op op_pow (pe_ix ix_F (pv 0) pe_int (fun _ _ => rfl)) pe_int) (pe_op op_mul pe_int (pe_ix ix_F (pv 0) pe_int (fun _ _ => rfl)))) (pe_op op_mul pe_int (pe_ix ix_F (pv 0) pe_int (fun _ _ => rfl)))) pe_int) pe_int) (pg_sub (pv 0) pe_int set_list))
      (@pss_one _ _ _ (ps_ret (pe_op op_mod (pe_op op_fdivB (pe_ix ix_F (pv 0) pe_int (fun _ _ => rfl)) pe_int) (pv 1)))))) pss_nil)))
      (@pss_cons _ _ _ _ _ (ps_set (i := 2) sc_law_draw.nd (by rfl) (Or.inl rfl) (pe_op op_mod (pe_ix ix_F (pv 0) pe_int (fun _ _ => rfl)) (pv 1)))
      (@pss_cons _ _ _ _ _ (ps_asg (pe_op op_fdivB (pe_ix ix_F (pv 0) pe_int (fun _ _ => rfl)) (pv 1)) (pg_sub (pv 0) pe_int set_list))
      (@pss_one _ _ _ (ps_ret (pv 2)))))), ?_⟩
    simp! [hb, hc, bagL, ixN5_0, ixN5_1, ixN5_2, ixN5_3, ixN5_4, upd_upd, List.length_map]
    have fin : ∀ (r i' v' st' n' : Int), 0 ≤ r → r < m → BagOk cs i' v' st' n' → Q (.int r) (upd H b (.lst [.ref c, .int i', .int v', .int st', .int n'])) := fun r i' v' st' n' h1 h2 h3 =>
      q r _ h1 h2 ⟨⟨i', v', st', n', upd_same, h3⟩, by rw [upd_ne ne]; exact hc, ne, pos, len⟩ Kp.at_
    have e3 : (3 : Int).toNat = 3 := rfl
    rw [e3]
    have p3 := pow3_lt s0
    have B1 : CPow st 3 ∧ CMul 69621 st ∧ CMul 1009 (n + 1) ∧ (0 : Int) < 2147483647 ∧ CDivB ((st ^ 3 + 69621 * st + 1009 * (n + 1) + 1) % 2147483647) 16 ∧ 0 < m ∧ Q (V.int ((st ^ 3 + 69621 * st + 1009 * (n + 1) + 1) % 2147483647 / 16 % m)) (upd H b (HO.lst [V.ref c, V.int i, V.int v, V.int ((st ^ 3 + 69621 * st + 1009 * (n + 1) + 1) % 2147483647), V.int (n + 1)])) := by
      refine ⟨⟨by decide, by decide, by omega⟩, .inl ⟨by decide, by decide⟩, .inl ⟨by decide, by decide⟩, by decide, ⟨by decide, by decide⟩, m0, ?_⟩
      generalize (st ^ 3 + 69621 * st + 1009 * (n + 1) + 1) = y
      exact fin _ _ _ _ _ (Int.emod_nonneg _ (by omega)) (Int.emod_lt_of_pos _ m0) ⟨i0, i1, v0, by omega, by omega, by omega⟩
    have B2 : 0 < m ∧ CDivB v m ∧ Q (V.int (v % m)) (upd H b (HO.lst [V.ref c, V.int i, V.int (v / m), V.int st, V.int n])) :=
      ⟨m0, ⟨m0, m1⟩, fin _ _ _ _ _ (Int.emod_nonneg _ (by omega)) (Int.emod_lt_of_pos _ m0) ⟨i0, i1, Int.ediv_nonneg v0 (by omega), s0, s1, n0⟩⟩
    have B3 : i < cs.length → ∃ x, atI (cs.map V.int) i = some x ∧ ∃ i_1, x = V.int i_1 ∧ 0 < m ∧ ∃ i_2, x = V.int i_2 ∧ CDivB i_2 m ∧ Q (V.int (i_1 % m)) (upd H b (HO.lst [V.ref c, V.int (i + 1), V.int (i_2 / m), V.int st, V.int n])) := fun hi => by
      have hj : i.toNat < cs.length := by omega
      have e1 : (cs.map V.int)[i.toNat]? = some (V.int cs[i.toNat]) := by rw [List.getElem?_map, List.getElem?_eq_getElem hj]; rfl
      have e2 := atI_nat e1
      rw [show ((i.toNat : Nat) : Int) = i by omega] at e2
      have p := pos _ (List.getElem_mem hj)
      refine ⟨_, e2, _, rfl, m0, _, rfl, ⟨m0, m1⟩, ?_⟩
      exact fin _ _ _ _ _ (Int.emod_nonneg _ (by omega)) (Int.emod_lt_of_pos _ m0) ⟨by omega, by omega, Int.ediv_nonneg p (by omega), s0, s1, n0⟩
    refine ite2 (fun h1 => ite2 B3 fun h2 => ite2 (fun _ => B1) fun _ => B2) fun h1 => ite2 (fun _ => B1) fun _ => B2

theorem cut63 (ns : List Int) : ∃ zs : List Int, cutV (ns.map V.int) none (some 63) = zs.map V.int ∧ zs.length ≤ 63 ∧ zs.length ≤ ns.length := by
  refine ⟨(ns.drop (HT.sIx (ns.map V.int).length 0 none)).take (HT.sIx (ns.map V.int).length (ns.map V.int).length (some 63) - HT.sIx (ns.map V.int).length 0 none), ?_, ?_, ?_⟩
  · unfold cutV
    rw [List.map_take, List.map_drop]
  · rw [List.length_take, List.length_drop, List.length_map]
    have : HT.sIx ns.length ns.length (some 63) ≤ 63 := by unfold HT.sIx; simp; omega
    omega
  · rw [List.length_take, List.length_drop]; omega
def sp_bag (K : PySem.W.Frag) : Sp := fun vs H Q _ => ∃ (r : Addr) (ns : List Int), vs = [.ref r] ∧ SqL K H r (ns.map V.int) ∧ ∀ (b c : Addr) (cs : List Int) (H' : Hp), H b = none → H c = none → BagAt H' b c cs → Same H H' → Q (.ref b) H'
set_option maxHeartbeats 4000000 in
theorem ok_law_bag (T : Txt K mg a) : FnOk P w K mg base CX0 1 a.f_law_bag a.d_law_bag ["script"] (sp_bag K) := by
  refine T.F_law_bag.okC sc_law_bag (fun vs H Q E h => ?_) (fun cdv A outer s H vs Q E hr h => ?_)
  · obtain ⟨r, ns, rfl, _⟩ := h
    rfl
  · obtain ⟨r, ns, rfl, hS, q⟩ := h
    have hu := hu_of hr
    obtain ⟨zs, ez, lz, _⟩ := cut63 ns
    refine ⟨_, (@pss_cons _ _ _ _ _ (ps_set (i := 1) sc_law_bag.nd (by rfl) (Or.inl rfl) pe_int)
      (@pss_cons _ _ _ _ _ (ps_for PassesOwn.never (by rfl) (pi_list (pe_slice sl_list (pv 0) po_none (po_some pe_int))) (pg_name (i := 2) sc_law_bag.nd (by rfl) (Or.inl rfl))
      (@pss_one _ _ _ (ps_set (i := 1) sc_law_bag.nd (by rfl) (Or.inl rfl) (pe_op op_mod (pe_op op_add (pe_op op_add (pe_op op_mul (pv 1) pe_int) (pe_op op_mod (pv 2) pe_int)) pe_int) pe_int))))
      (@pss_one _ _ _ (ps_ret (pe_lst (pa_cons (pe_comp (N' := ["cell"]) (cap := [none]) ⟨rfl, (by decide +kernel), (by decide +kernel), (by rfl), rfl, (by rfl)⟩ (by rfl) (pi_list (pe_slice sl_list (pv 0) po_none (po_some pe_int))) (fun C_ ex_ s_ H_ => (pg_name (i := 0) (show (["cell"] : List Str).Nodup by decide +kernel) (by rfl) (Or.inl rfl))) gkp_name (fun C_ ex_ s_ H_ => pifs_nil) (fun C_ ex_ s_ H_ => (pe_op op_mod (pe_callB call_abs (by rfl) T.z_abs (by decide +kernel) (@pa_cname _ _ _ _ _ _ (pv 0) pa_nil)) (pe_op op_pow pe_int pe_int)))) (@pa_cint _ _ _ _ _ _ (@pa_cint _ _ _ _ _ _ (@pa_cname _ _ _ _ _ _ (pv 1) (@pa_cint _ _ _ _ _ _ pa_nil)))))))))), ?_⟩
    refine ⟨_, rfl, 63, rfl, r, _, rfl, hS, fun l1 hl1 => ?_⟩
    rw [ez]
    refine ⟨l1, rfl, ⟨_, .of upd_same⟩, for_list (xs := zs.map V.int) (fun i σ H2 => ∃ (st : Int) (v2 : Option V), σ = [some (.ref r), some (.int st), v2] ∧ H2 = upd H l1 (.lst (zs.map V.int)) ∧ 0 ≤ st ∧ st < 2147483647)
      ⟨7, _, rfl, rfl, by decide, by decide⟩ (fun i σ H2 _ ⟨_, _, _, e, _⟩ => by rw [e]; exact .of upd_same) ?_ ?_⟩
    · rintro i x σ H2 hi ⟨st, v2, rfl, rfl, s0, s1⟩
      obtain ⟨z, _, rfl⟩ := of_map_get hi
      simp! []
      exact ⟨.inr ⟨by decide, by decide⟩, by decide, by decide, Int.emod_nonneg _ (by decide), Int.emod_lt_of_pos _ (by decide)⟩
    · rintro σ H2 ⟨st, v2, rfl, rfl, s0, s1⟩
      have hS1 : SqL K (upd H l1 (.lst (zs.map V.int))) r (ns.map V.int) := (Same.laid hl1).seq hS
      refine ⟨_, rfl, 63, rfl, r, _, rfl, hS1, fun l2 hl2 => ?_⟩
      rw [ez]
      refine ⟨l2, rfl, ⟨_, .of upd_same⟩, fun D hD => ?_⟩
      refine comp_list (xs := zs.map V.int) (fun i ys H2 => ∃ ws : List Int, ys = ws.map V.int ∧ ws.length = i ∧ (∀ z ∈ ws, 0 ≤ z) ∧ H2 = upd (upd (upd H l1 (.lst (zs.map V.int))) l2 (.lst (zs.map V.int))) D (.lst ys))
        ⟨[], rfl, rfl, by simp, rfl⟩ (fun i ys H2 _ ⟨ws, e1, e2, _, e3⟩ => ?_) (by rw [sizeLine_eq]; simp; omega) ?_ ?_
      · rw [e3]
        exact ⟨.of (upd_old upd_same hD), upd_same, by rw [e1]; simp; omega⟩
      · rintro i x ys H2 hi ⟨ws, rfl, e2, e3, rfl⟩
        obtain ⟨z, _, rfl⟩ := of_map_get hi
        simp! [tTrue, capSt]
        refine ⟨⟨by decide, by decide, by decide⟩, by decide, ws ++ [(if z < 0 then -z else z) % 10 ^ Int.toNat 60], by simp, by simp; omega, ?_, upd_upd⟩
        intro y hy
        rcases List.mem_append.mp hy with hy | hy
        · exact e3 y hy
        · rw [List.mem_singleton.mp hy]
          exact Int.emod_nonneg _ (by decide)
      · rintro ys H2 ⟨ws, rfl, e2, e3, rfl⟩
        simp! []
        intro b hb
        have n1 : H b = none := Same.free (((Same.laid hl1).step hl2).step hD) hb
        have n2 : H D = none := Same.free ((Same.laid hl1).step hl2) hD
        rw [List.length_map] at e2
        exact q b D ws _ n1 n2 ⟨⟨0, 0, st, 0, upd_same, by decide, by omega, by decide, s0, s1, by decide⟩, upd_old upd_same hb, ne_of_none upd_same hb, e3, by omega⟩ ((((Same.laid hl1).step hl2).step hD).step hb)

end
end Law

namespace Law
open PySem L2
local macro_rules | `(tactic| walk_at "rd") => `(tactic| simp only [tSeq, tAsg, gName, tVar, tC, tOp, tUn, rI0, rI, rU, tCB, tCons, tNil, tRet, tRetN, tIfS, tTest, tB, tAnd, tOr, tNot, tAndV, tOrV, tNotV, tIf, tDrop, tNext, tCall, tMeth, tIsN, tNotN, L2.start, List.map_cons, List.map_nil, List.length_cons, List.length_nil, List.nil_append, List.cons_append, List.append_nil, Nat.reduceAdd, Nat.reduceSub, Nat.sub_self, List.replicate_succ, List.replicate_zero, List.set_cons_zero, List.set_cons_succ, List.getElem?_cons_zero, List.getElem?_cons_succ, Option.some.injEq, V.int.injEq, V.bl.injEq, V.str.injEq, V.ref.injEq, List.cons.injEq, exists_eq_left', exists_eq_left, exists_and_left, and_true, true_and, if_true, if_false, ite_true, ite_false, Bool.true_eq_false, Bool.false_eq_true, decide_eq_true_eq, Bool.not_true, Bool.not_false, Bool.not_eq_true', decide_eq_false_iff_not, reduceCtorEq, false_and, and_false, exists_false, tTup, tLst, sizeLine_eq, Nat.reduceLeDiff, Nat.zero_le, rEq, rNe, rIxF, rEqF, gSub, rSetL, HO.lst.injEq, HO.tup.injEq, HO.ins.injEq, HO.dK.injEq, scal_int, scal_bl, scal_str, tyF_ref, tyF_int, tyF_bl, tyF_str, tyF_non, lenF_ref, seqV_eq, kindV_eq, tyO_lst, tyO_frz, tyO_tup, tyO_dK, lenO_lst, lenO_frz, lenO_tup, seqO_lst, seqO_frz, seqO_tup, kindO_lst, kindO_frz, kindO_tup, isTys, and_assoc, atI_0, atI_1, atI_2, atI_3, atI_4, upd_same, V.ty.injEq, eq_self_iff_true, and_self, String.reduceEq, or_false, or_true, false_or, true_or, Bool.or_true, Bool.or_false, Bool.true_or, Bool.false_or, Bool.and_false, Bool.false_and, Bool.and_true, Bool.true_and, String.reduceBEq, beq_self_eq_true, tDGetF, tDInF, tDNotInF, sDPutF, keyOf_int, keyOf_str, sFld, tFld, tDNewK, tRaise, tMethE, EX, tFstr, tMake, cxOf_K, Nat.reduceLT, Option.join_some, Option.join_none, not_true_eq_false, not_false_eq_true, gCons, gNil, tChain, rEqE, tAug, ipI])
local macro_rules | `(tactic| simp! [$ls,*]) => `(tactic| simp only [tSeq, tAsg, gName, tVar, tC, tOp, tUn, rI0, rI, rU, tCB, tCons, tNil, tRet, tRetN, tIfS, tTest, tB, tAnd, tOr, tNot, tAndV, tOrV, tNotV, tIf, tDrop, tNext, tCall, tMeth, tIsN, tNotN, L2.start, List.map_cons, List.map_nil, List.length_cons, List.length_nil, List.nil_append, List.cons_append, List.append_nil, Nat.reduceAdd, Nat.reduceSub, Nat.sub_self, List.replicate_succ, List.replicate_zero, List.set_cons_zero, List.set_cons_succ, List.getElem?_cons_zero, List.getElem?_cons_succ, Option.some.injEq, V.int.injEq, V.bl.injEq, V.str.injEq, V.ref.injEq, List.cons.injEq, exists_eq_left', exists_eq_left, exists_and_left, and_true, true_and, if_true, if_false, ite_true, ite_false, Bool.true_eq_false, Bool.false_eq_true, decide_eq_true_eq, Bool.not_true, Bool.not_false, Bool.not_eq_true', decide_eq_false_iff_not, reduceCtorEq, false_and, and_false, exists_false, tTup, tLst, sizeLine_eq, Nat.reduceLeDiff, Nat.zero_le, rEq, rNe, rIxF, rEqF, gSub, rSetL, HO.lst.injEq, HO.tup.injEq, HO.ins.injEq, HO.dK.injEq, scal_int, scal_bl, scal_str, tyF_ref, tyF_int, tyF_bl, tyF_str, tyF_non, lenF_ref, seqV_eq, kindV_eq, tyO_lst, tyO_frz, tyO_tup, tyO_dK, lenO_lst, lenO_frz, lenO_tup, seqO_lst, seqO_frz, seqO_tup, kindO_lst, kindO_frz, kindO_tup, isTys, and_assoc, atI_0, atI_1, atI_2, atI_3, atI_4, upd_same, V.ty.injEq, eq_self_iff_true, and_self, String.reduceEq, or_false, or_true, false_or, true_or, Bool.or_true, Bool.or_false, Bool.true_or, Bool.false_or, Bool.and_false, Bool.false_and, Bool.and_true, Bool.true_and, String.reduceBEq, beq_self_eq_true, tDGetF, tDInF, tDNotInF, sDPutF, keyOf_int, keyOf_str, sFld, tFld, tDNewK, tRaise, tMethE, EX, tFstr, tMake, cxOf_K, Nat.reduceLT, Option.join_some, Option.join_none, not_true_eq_false, not_false_eq_true, gCons, gNil, tChain, rEqE, tAug, ipI, $ls,*])
section
variable {P : Program} {w : World} {K : PySem.W.Frag} {mg : Str → Option Value} {base : Heap} {a : Ad}

def sp_never : Sp := fun _ _ _ _ => False
theorem ok_Hand_go (T : Txt K mg a) : FnOk P w K mg base CX0 1 a.f_Hand_go a.d_Hand_go ["self"] sp_never := ⟨fun vs H Q E h => h.elim, fun A outer s H args us vs Q E hr I b r h => h.elim⟩
theorem ok_Yard_holds_of (T : Txt K mg a) : FnOk P w K mg base CX0 1 a.f_Yard_holds_of a.d_Yard_holds_of ["self", "at"] sp_never := ⟨fun vs H Q E h => h.elim, fun A outer s H args us vs Q E hr I b r h => h.elim⟩
theorem ok_Yard_numbers_of (T : Txt K mg a) : FnOk P w K mg base CX0 1 a.f_Yard_numbers_of a.d_Yard_numbers_of ["self", "at"] sp_never := ⟨fun vs H Q E h => h.elim, fun A outer s H args us vs Q E hr I b r h => h.elim⟩
def sp_init (C : Addr) : Sp := fun vs H Q _ => ∃ (x dx : Addr) (st : Int), vs = [.ref x, .int st] ∧ H x = some (.ins C dx []) ∧
  ∀ (dw ds : Addr) (H' : Hp), H dw = none → H ds = none → YardAt C H' ⟨x, dx, dw, ds⟩ (fun _ => none) [] st → Fr (· = x) H H' → Q .non H'
theorem ok_Yard___init (T : Txt K mg a) : FnOk P w K mg base CX0 1 a.f_Yard___init a.d_Yard___init ["self", "start"] (sp_init a.c_Yard) := by
  refine T.F_Yard___init.okC sc_Yard___init (fun vs H Q E h => ?_) (fun cdv A outer s H vs Q E hr h => ?_)
  · obtain ⟨x, dx, st, rfl, _⟩ := h
    rfl
  · obtain ⟨x, dx, st, rfl, hx, q⟩ := h
    refine ⟨_, (@pss_cons _ _ _ _ _ (ps_fld (pv 0) (pv 1) (by rfl))
      (@pss_cons _ _ _ _ _ (ps_fld (pv 0) pe_dnewK (by rfl))
      (@pss_one _ _ _ (ps_fld (pv 0) pe_dnewK (by rfl))))), ?_⟩
    simp! [T.cl_Yard, T.n_free, T.n_words, T.n_sizes, hx, upd_upd, putF_0]
    intro dw hdw
    have n1 : x ≠ dw := ne_of_none upd_same hdw
    simp! [T.cl_Yard, T.n_free, T.n_words, T.n_sizes, hx, upd_ne n1, upd_same, upd_upd, putF_w]
    intro ds hds
    have n2 : x ≠ ds := ne_of_none upd_same hds
    have h1 : H dw = none := by rw [upd_ne n1.symm] at hdw; exact hdw
    have n3 : dw ≠ ds := ne_of_none (by rw [upd_ne n1.symm]; exact upd_same) hds
    have h2 : H ds = none := by rw [upd_ne n2.symm, upd_ne n3.symm, upd_ne n2.symm] at hds; exact hds
    simp! [T.cl_Yard, T.n_free, T.n_words, T.n_sizes, hx, upd_ne n1, upd_ne n2, upd_same, upd_upd, putF_s]
    refine q dw ds _ h1 h2 ⟨upd_same, ⟨[], ?_, fun z => rfl, Nat.zero_le _⟩, ⟨[], ?_, rfl, (by simp), fun z _ => rfl⟩, n3⟩ ?_
    · rw [upd_ne n1.symm, upd_ne n3, upd_ne n1.symm]; exact upd_same
    · rw [upd_ne n2.symm]; exact upd_same
    · refine Fr.trans (Fr.trans (Fr.trans (Fr.trans (Fr.put (p := x) rfl ?_) (.laid hdw)) (Fr.put (p := x) rfl ?_)) (.laid hds)) (Fr.put (p := x) rfl ?_)
      · exact notTup_ins hx
      · exact notTup_ins (by rw [upd_ne n1]; exact upd_same)
      · exact notTup_ins (by rw [upd_ne n2]; exact upd_same)

def sp_told0 (C : Addr) : Sp := fun vs H Q _ => ∃ (y : Yd) (f : Int) (W : Int → Option Int), vs = [.ref y.p] ∧ YardAt C H y W [] f ∧ ∀ l H', Same H H' → H' l = some (.lst []) → Q (.ref l) H'
set_option maxHeartbeats 1000000 in
theorem ok_Yard_told (T : Txt K mg a) : FnOk P w K mg base CX0 2 a.f_Yard_told a.d_Yard_told ["self"] (sp_told0 a.c_Yard) := by
  refine T.F_Yard_told.okC sc_Yard_told (fun vs H Q E h => ?_) (fun cdv A outer s H vs Q E hr h => ?_)
  · obtain ⟨y, f, W, rfl, _⟩ := h
    rfl
  · obtain ⟨y, f, W, rfl, ⟨hp, _, ⟨ks, hs, ek, vk, nk⟩, ne⟩, q⟩ := h
    have hu := hu_of hr
    refine ⟨_, (@pss_one _ _ _ (ps_ret (pe_comp (N' := ["at", "self"]) (cap := [none, some 0]) ⟨rfl, (by decide +kernel), (by decide +kernel), (by rfl), rfl, (by rfl)⟩ (by rfl) (pi_list (pe_callB (call_sorted_rise (by rfl)) (by rfl) T.z_sorted (by decide +kernel) (pa_cons (pe_fld (pv 0) (by rfl)) pa_nil))) (fun C_ ex_ s_ H_ => (pg_name (i := 0) (show (["at", "self"] : List Str).Nodup by decide +kernel) (by rfl) (Or.inl rfl))) gkp_name (fun C_ ex_ s_ H_ => pifs_nil) (fun C_ ex_ s_ H_ => (pe_tup (@pa_cname _ _ _ _ _ _ (pv 0) (pa_cons (pe_meth (pv 1) T.cl_Yard T.M_Yard_holds_of (ok_Yard_holds_of T) (by exact hr.mono (by decide)) T.b_Yard_holds_of .nil pass0 (@pa_cname _ _ _ _ _ _ (pv 0) pa_nil)) (pa_cons (pe_meth (pv 1) T.cl_Yard T.M_Yard_numbers_of (ok_Yard_numbers_of T) (by exact hr.mono (by decide)) T.b_Yard_numbers_of .nil pass0 (@pa_cname _ _ _ _ _ _ (pv 0) pa_nil)) pa_nil)))))))), ?_⟩
    have ek0 : ks = [] := List.map_eq_nil_iff.mp ek
    subst ek0
    simp! []
    refine compL_ (fun l H1 => H1 l = some (.lst []) ∧ Same H H1) (fun Q2 hQ => ?_) ?_
    · simp! [T.cl_Yard, T.n_free, T.n_words, T.n_sizes, hp, hs, yF_sizes, yF_len]
      exact ⟨[], rfl, by simp, by simp, fun l nl => hQ l _ ⟨upd_same, .laid nl⟩⟩
    rintro l H1 ⟨hl, S1⟩
    refine compL (H1 := H1) l [] (fun Q2 h2 => h2) (.of hl) (fun D i ys H5 => ys = [] ∧ H5 = upd H1 D (.lst [])) (fun D hD => ⟨rfl, rfl⟩) ?_ (by simp) ?_ ?_
    · rintro D hD i ys H5 hi ⟨rfl, rfl⟩
      exact ⟨.of (upd_old hl hD), upd_same, by simp⟩
    · rintro D hD i x ys H5 hi ⟨rfl, rfl⟩
      simp at hi
    · rintro D hD ys H5 ⟨rfl, rfl⟩
      exact q D _ (S1.step hD) upd_same
def sp_whole : Sp := fun vs H Q _ => ∃ i : Int, vs = [.int i] ∧ Q (.bl true) H
theorem ok_law_whole (T : Txt K mg a) : FnOk P w K mg base CX0 1 a.f_law_whole a.d_law_whole ["found"] sp_whole := by
  refine T.F_law_whole.okC sc_law_whole (fun vs H Q E h => ?_) (fun cdv A outer s H vs Q E hr h => ?_)
  · obtain ⟨i, rfl, _⟩ := h
    rfl
  · obtain ⟨i, rfl, q⟩ := h
    refine ⟨_, (@pss_one _ _ _ (ps_ret (pe_and (pe_callB call_isF (by rfl) T.z_isinstance (by decide +kernel) (@pa_cname _ _ _ _ _ _ (pv 0) (@pa_cname _ _ _ _ _ _ (pe_bltn (v := .ty "int") (u := .type "int") (by rfl) T.z_int (by decide +kernel) (by rfl)) pa_nil))) (pe_one (pe_not (pe_callB call_isF (by rfl) T.z_isinstance (by decide +kernel) (@pa_cname _ _ _ _ _ _ (pv 0) (@pa_cname _ _ _ _ _ _ (pe_bltn (v := .ty "bool") (u := .type "bool") (by rfl) T.z_bool (by decide +kernel) (by rfl)) pa_nil)))))))), ?_⟩
    walk_at "rd"
    exact q

def sp_words : Sp := fun vs H Q _ => ∃ (l1 l2 : Addr) (xs : List Int), vs = [.ref l1, .ref l2] ∧ H l1 = some (.lst (xs.map V.int)) ∧ H l2 = some (.lst (xs.map V.int)) ∧ xs.length ≤ 1000 ∧ Q (.bl true) H
set_option maxHeartbeats 1000000 in
theorem ok_law_words (T : Txt K mg a) : FnOk P w K mg base CX0 2 a.f_law_words a.d_law_words ["found", "due"] sp_words := by
  refine T.F_law_words.okC sc_law_words (fun vs H Q E h => ?_) (fun cdv A outer s H vs Q E hr h => ?_)
  · obtain ⟨l1, l2, xs, rfl, _⟩ := h
    rfl
  · obtain ⟨l1, l2, xs, rfl, h1, h2, lx, q⟩ := h
    have hu := hu_of hr
    refine ⟨_, (@pss_cons _ _ _ _ _ (@ps_if _ _ _ _ _ _ _ _ (PW.pt (pw_or (pt_not (pt_val (pe_callB call_isF (by rfl) T.z_isinstance (by decide +kernel) (@pa_cname _ _ _ _ _ _ (pv 0) (@pa_cname _ _ _ _ _ _ (pe_bltn (v := .ty "list") (u := .type "list") (by rfl) T.z_list (by decide +kernel) (by rfl)) pa_nil))))) (pw_or1 (pt_cmpR op_ne (pe_callB call_lenF (by rfl) T.z_len (by decide +kernel) (@pa_cname _ _ _ _ _ _ (pv 0) pa_nil)) (pe_callB call_lenF (by rfl) T.z_len (by decide +kernel) (@pa_cname _ _ _ _ _ _ (pv 1) pa_nil)) (nomark _))))) (@pss_one _ _ _ (ps_ret pe_bl)) pss_nil)
      (@pss_cons _ _ _ _ _ (ps_for PassesOwn.never (by rfl) (pi_range1 (by rfl) T.z_range (pa_cons (pe_callB call_lenF (by rfl) T.z_len (by decide +kernel) (@pa_cname _ _ _ _ _ _ (pv 1) pa_nil)) pa_nil)) (pg_name (i := 2) sc_law_words.nd (by rfl) (Or.inl rfl))
      (@pss_one _ _ _ (@ps_if _ _ _ _ _ _ _ _ (PW.pt (pw_or (pt_not (pt_val (pe_call (ok_law_whole T) (hr.mono (by decide)) (by rfl) T.m_law_whole T.F_law_whole.kp T.b_law_whole .nil pass0 (pa_cons (pe_ix ix_F (pv 0) (pv 2) (fun _ _ => rfl)) pa_nil)))) (pw_or1 (pt_cmpR op_ne (pe_ix ix_F (pv 0) (pv 2) (fun _ _ => rfl)) (pe_ix ix_F (pv 1) (pv 2) (fun _ _ => rfl)) (nomark _))))) (@pss_one _ _ _ (ps_ret pe_bl)) pss_nil)))
      (@pss_one _ _ _ (ps_ret pe_bl)))), ?_⟩
    simp! [h1, h2, List.length_map]
    refine for1 (H1 := H) (xs.length : Int) (fun Q2 h3 => by simp! [h2, List.length_map]; exact h3) (by omega) (by omega) (fun i σ H2 => ∃ v2 : Option V, σ = [some (.ref l1), some (.ref l2), v2] ∧ H2 = H) ⟨_, rfl, rfl⟩ ?_ ?_
    · rintro i σ H2 hi ⟨v2, rfl, rfl⟩
      have il : i < xs.length := by omega
      have a1 : atI (xs.map V.int) ((i : Nat) : Int) = some (.int xs[i]) := atI_nat (by rw [List.getElem?_map, List.getElem?_eq_getElem il]; rfl)
      simp! [h1, h2, Int.zero_add, a1]
      refine ⟨_, rfl, ?_⟩
      simp! [h1, h2, Int.zero_add, a1]
    · rintro σ H2 ⟨v2, rfl, rfl⟩
      simp! []
      exact q

end
end Law

namespace Law
open PySem L2
local macro_rules | `(tactic| simp! [$ls,*]) => `(tactic| simp only [tSeq, tAsg, gName, tVar, tC, tOp, tUn, rI0, rI, rU, tCB, tCons, tNil, tRet, tRetN, tIfS, tTest, tB, tAnd, tOr, tNot, tAndV, tOrV, tNotV, tIf, tDrop, tNext, tCall, tMeth, tIsN, tNotN, L2.start, List.map_cons, List.map_nil, List.length_cons, List.length_nil, List.nil_append, List.cons_append, List.append_nil, Nat.reduceAdd, Nat.reduceSub, Nat.sub_self, List.replicate_succ, List.replicate_zero, List.set_cons_zero, List.set_cons_succ, List.getElem?_cons_zero, List.getElem?_cons_succ, Option.some.injEq, V.int.injEq, V.bl.injEq, V.str.injEq, V.ref.injEq, List.cons.injEq, exists_eq_left', exists_eq_left, exists_and_left, and_true, true_and, if_true, if_false, ite_true, ite_false, Bool.true_eq_false, Bool.false_eq_true, decide_eq_true_eq, Bool.not_true, Bool.not_false, Bool.not_eq_true', decide_eq_false_iff_not, reduceCtorEq, false_and, and_false, exists_false, tTup, tLst, sizeLine_eq, Nat.reduceLeDiff, Nat.zero_le, rEq, rNe, rIxF, rEqF, gSub, rSetL, HO.lst.injEq, HO.tup.injEq, HO.ins.injEq, HO.dK.injEq, scal_int, scal_bl, scal_str, tyF_ref, tyF_int, tyF_bl, tyF_str, tyF_non, lenF_ref, seqV_eq, kindV_eq, tyO_lst, tyO_frz, tyO_tup, tyO_dK, lenO_lst, lenO_frz, lenO_tup, seqO_lst, seqO_frz, seqO_tup, kindO_lst, kindO_frz, kindO_tup, isTys, and_assoc, atI_0, atI_1, atI_2, atI_3, atI_4, upd_same, V.ty.injEq, eq_self_iff_true, and_self, String.reduceEq, or_false, or_true, false_or, true_or, Bool.or_true, Bool.or_false, Bool.true_or, Bool.false_or, Bool.and_false, Bool.false_and, Bool.and_true, Bool.true_and, String.reduceBEq, beq_self_eq_true, tDGetF, tDInF, tDNotInF, sDPutF, keyOf_int, keyOf_str, sFld, tFld, tDNewK, tRaise, tMethE, EX, tFstr, tMake, cxOf_K, Nat.reduceLT, Option.join_some, Option.join_none, not_true_eq_false, not_false_eq_true, gCons, gNil, tChain, rEqE, tAug, ipI, $ls,*])
section
variable {P : Program} {w : World} {K : PySem.W.Frag} {mg : Str → Option Value} {base : Heap} {a : Ad}

theorem cmul_of {i j : Int} (h1 : -(10 ^ 70) ≤ i) (h2 : i ≤ 10 ^ 70) (h3 : -(10 ^ 70) ≤ j) (h4 : j ≤ 10 ^ 70) : CMulB i j := by
  have p : (10 : Nat) ^ 70 < 2 ^ 1000 := by decide
  have e : ((10 ^ 70 : Nat) : Int) = 10 ^ 70 := by decide
  refine ⟨Nat.lt_of_le_of_lt ?_ p, Nat.lt_of_le_of_lt ?_ p⟩ <;> omega
def sp_number : Sp := fun vs H Q _ => ∃ (b c : Addr) (cs : List Int), vs = [.ref b] ∧ BagAt H b c cs ∧ ∀ (r : Int) (H' : Hp), BagAt H' b c cs → Kp b H H' → Q (.int r) H'
set_option maxHeartbeats 1000000 in
theorem ok_law_number (T : Txt K mg a) : FnOk P w K mg base CX0 2 a.f_law_number a.d_law_number ["bag"] sp_number := by
  refine T.F_law_number.okC sc_law_number (fun vs H Q E h => ?_) (fun cdv A outer s H vs Q E hr h => ?_)
  · obtain ⟨b, c, cs, rfl, _⟩ := h
    rfl
  · obtain ⟨b, c, cs, rfl, hb, q⟩ := h
    have hu := hu_of hr
    refine ⟨_, (@pss_cons _ _ _ _ _ (ps_set (i := 1) sc_law_number.nd (by rfl) (Or.inl rfl) (pe_op op_sub (pe_op op_mulB (pe_call (ok_law_draw T) (hr.mono (by decide)) (by rfl) T.m_law_draw T.F_law_draw.kp T.b_law_draw .nil pass0 (@pa_cname _ _ _ _ _ _ (pv 0) (@pa_cint _ _ _ _ _ _ pa_nil))) pe_int) pe_int))
      (@pss_cons _ _ _ _ _ (@ps_if _ _ _ _ _ _ _ _ (pt_cmpR op_eq (pe_call (ok_law_draw T) (hr.mono (by decide)) (by rfl) T.m_law_draw T.F_law_draw.kp T.b_law_draw .nil pass0 (@pa_cname _ _ _ _ _ _ (pv 0) (@pa_cint _ _ _ _ _ _ pa_nil))) pe_int (nomark _)) (@pss_one _ _ _ (ps_ret (pe_op op_mulB (pv 1) (pe_op op_add (pe_op op_mulB (pe_call (ok_law_draw T) (hr.mono (by decide)) (by rfl) T.m_law_draw T.F_law_draw.kp T.b_law_draw .nil pass0 (@pa_cname _ _ _ _ _ _ (pv 0) (pa_cons (pe_op op_pow pe_int pe_int) pa_nil))) (pe_op op_pow pe_int pe_int)) (pe_call (ok_law_draw T) (hr.mono (by decide)) (by rfl) T.m_law_draw T.F_law_draw.kp T.b_law_draw .nil pass0 (@pa_cname _ _ _ _ _ _ (pv 0) (pa_cons (pe_op op_pow pe_int pe_int) pa_nil))))))) pss_nil)
      (@pss_one _ _ _ (ps_ret (pe_op op_mulB (pv 1) (pe_call (ok_law_draw T) (hr.mono (by decide)) (by rfl) T.m_law_draw T.F_law_draw.kp T.b_law_draw .nil pass0 (@pa_cname _ _ _ _ _ _ (pv 0) (@pa_cint _ _ _ _ _ _ pa_nil)))))))), ?_⟩
    have p0 : (2 : Int) ≤ 10 ^ 70 := by decide
    have p1 : (10 : Int) ^ 30 ≤ 10 ^ 70 := by decide
    have p2 : (10 : Int) ^ 30 * 10 ^ 30 + 10 ^ 30 ≤ 10 ^ 70 := by decide
    have p3 : (0 : Int) < 10 ^ 30 := by decide
    simp! []
    refine ⟨b, c, cs, 2, rfl, hb, by decide, by decide, fun r1 H1 r10 r11 hb1 k1 => ?_⟩
    simp! []
    refine ⟨cmul_of (by omega) (by omega) (by omega) (by omega), b, c, cs, 5, rfl, hb1, by decide, by decide, fun r2 H2 r20 r21 hb2 k2 => ?_⟩
    simp! []
    have e30 : (10 : Int) ^ Int.toNat 30 = 10 ^ 30 := rfl
    rw [e30]
    have cp : CPow 10 30 := ⟨by decide, by decide, by decide⟩
    refine ite2 (fun _ => ?_) fun _ => ?_
    · refine ⟨cp, b, c, cs, _, rfl, hb2, by decide, by decide, fun r3 H3 r30 r31 hb3 k3 => ⟨cp, r3, rfl, cmul_of (by omega) (by omega) (by omega) (by omega), cp, b, c, cs, _, rfl, hb3, by decide, by decide, fun r4 H4 r40 r41 hb4 k4 => ⟨r4, rfl, ?_, q _ _ hb4 (((k1.trans k2).trans k3).trans k4)⟩⟩⟩
      have m1 : 0 ≤ r3 * (10 : Int) ^ 30 := Int.mul_nonneg r30 (by decide)
      have m2 : r3 * (10 : Int) ^ 30 ≤ 10 ^ 30 * 10 ^ 30 := Int.mul_le_mul_of_nonneg_right (by omega) (by decide)
      exact cmul_of (by omega) (by omega) (by omega) (by omega)
    · exact ⟨b, c, cs, 6, rfl, hb2, by decide, by decide, fun r3 H3 r30 r31 hb3 k3 => ⟨r3, rfl, cmul_of (by omega) (by omega) (by omega) (by omega), q _ _ hb3 ((k1.trans k2).trans k3)⟩⟩
def sp_start : Sp := fun vs H Q _ => ∃ (b c : Addr) (cs : List Int), vs = [.ref b] ∧ BagAt H b c cs ∧ ∀ (r : Int) (H' : Hp), BagAt H' b c cs → Kp b H H' → Q (.int r) H'
set_option maxHeartbeats 1000000 in
theorem ok_law_start (T : Txt K mg a) : FnOk P w K mg base CX0 2 a.f_law_start a.d_law_start ["bag"] sp_start := by
  refine T.F_law_start.okC sc_law_start (fun vs H Q E h => ?_) (fun cdv A outer s H vs Q E hr h => ?_)
  · obtain ⟨b, c, cs, rfl, _⟩ := h
    rfl
  · obtain ⟨b, c, cs, rfl, hb, q⟩ := h
    have hu := hu_of hr
    refine ⟨_, (@pss_cons _ _ _ _ _ (ps_set (i := 1) sc_law_start.nd (by rfl) (Or.inl rfl) (pe_call (ok_law_draw T) (hr.mono (by decide)) (by rfl) T.m_law_draw T.F_law_draw.kp T.b_law_draw .nil pass0 (@pa_cname _ _ _ _ _ _ (pv 0) (@pa_cint _ _ _ _ _ _ pa_nil))))
      (@pss_cons _ _ _ _ _ (@ps_if _ _ _ _ _ _ _ _ (pt_cmpR op_eq (pv 1) pe_int (nomark _)) (@pss_one _ _ _ (ps_ret (pe_op op_add (pe_op op_add pe_int (pe_op op_mulB (pe_call (ok_law_draw T) (hr.mono (by decide)) (by rfl) T.m_law_draw T.F_law_draw.kp T.b_law_draw .nil pass0 (@pa_cname _ _ _ _ _ _ (pv 0) (pa_cons (pe_op op_pow pe_int pe_int) pa_nil))) (pe_op op_pow pe_int pe_int))) (pe_call (ok_law_draw T) (hr.mono (by decide)) (by rfl) T.m_law_draw T.F_law_draw.kp T.b_law_draw .nil pass0 (@pa_cname _ _ _ _ _ _ (pv 0) (pa_cons (pe_op op_pow pe_int pe_int) pa_nil)))))) pss_nil)
      (@pss_one _ _ _ (ps_ret (pe_op op_add pe_int (pe_op op_mulB (pv 1) (pe_call (ok_law_draw T) (hr.mono (by decide)) (by rfl) T.m_law_draw T.F_law_draw.kp T.b_law_draw .nil pass0 (@pa_cname _ _ _ _ _ _ (pv 0) (@pa_cint _ _ _ _ _ _ pa_nil))))))))), ?_⟩
    have p1 : (10 : Int) ^ 30 ≤ 10 ^ 70 := by decide
    have p2 : (10 : Int) ^ 29 ≤ 10 ^ 70 := by decide
    have p0 : (1000 : Int) ≤ 10 ^ 70 := by decide
    have p3 : (0 : Int) < 10 ^ 29 := by decide
    simp! []
    refine ⟨b, c, cs, 3, rfl, hb, by decide, by decide, fun r1 H1 r10 r11 hb1 k1 => ?_⟩
    have e30 : (10 : Int) ^ Int.toNat 30 = 10 ^ 30 := rfl
    have e29 : (10 : Int) ^ Int.toNat 29 = 10 ^ 29 := rfl
    simp! [e30, e29]
    have cp : CPow 10 30 := ⟨by decide, by decide, by decide⟩
    have cq : CPow 10 29 := ⟨by decide, by decide, by decide⟩
    refine ite2 (fun _ => ?_) fun _ => ?_
    · exact ⟨cp, b, c, cs, _, rfl, hb1, by decide, by decide, fun r2 H2 r20 r21 hb2 k2 => ⟨cq, r2, rfl, cmul_of (by omega) (by omega) (by omega) (by omega), cq, b, c, cs, _, rfl, hb2, by decide, by decide, fun r3 H3 r30 r31 hb3 k3 => ⟨r3, rfl, q _ _ hb3 ((k1.trans k2).trans k3)⟩⟩⟩
    · refine ⟨b, c, cs, 1000, rfl, hb1, by decide, by decide, fun r2 H2 r20 r21 hb2 k2 => ?_⟩
      simp! []
      exact ⟨cmul_of (by omega) (by omega) (by omega) (by omega), q _ _ hb2 (k1.trans k2)⟩

end
end Law

namespace Law
open PySem L2
local macro_rules | `(tactic| simp! [$ls,*]) => `(tactic| simp only [tSeq, tAsg, gName, tVar, tC, tOp, tUn, rI0, rI, rU, tCB, tCons, tNil, tRet, tRetN, tIfS, tTest, tB, tAnd, tOr, tNot, tAndV, tOrV, tNotV, tIf, tDrop, tNext, tCall, tMeth, tIsN, tNotN, L2.start, List.map_cons, List.map_nil, List.length_cons, List.length_nil, List.nil_append, List.cons_append, List.append_nil, Nat.reduceAdd, Nat.reduceSub, Nat.sub_self, List.replicate_succ, List.replicate_zero, List.set_cons_zero, List.set_cons_succ, List.getElem?_cons_zero, List.getElem?_cons_succ, Option.some.injEq, V.int.injEq, V.bl.injEq, V.str.injEq, V.ref.injEq, List.cons.injEq, exists_eq_left', exists_eq_left, exists_and_left, and_true, true_and, if_true, if_false, ite_true, ite_false, Bool.true_eq_false, Bool.false_eq_true, decide_eq_true_eq, Bool.not_true, Bool.not_false, Bool.not_eq_true', decide_eq_false_iff_not, reduceCtorEq, false_and, and_false, exists_false, tTup, tLst, sizeLine_eq, Nat.reduceLeDiff, Nat.zero_le, rEq, rNe, rIxF, rEqF, gSub, rSetL, HO.lst.injEq, HO.tup.injEq, HO.ins.injEq, HO.dK.injEq, scal_int, scal_bl, scal_str, tyF_ref, tyF_int, tyF_bl, tyF_str, tyF_non, lenF_ref, seqV_eq, kindV_eq, tyO_lst, tyO_frz, tyO_tup, tyO_dK, lenO_lst, lenO_frz, lenO_tup, seqO_lst, seqO_frz, seqO_tup, kindO_lst, kindO_frz, kindO_tup, isTys, and_assoc, atI_0, atI_1, atI_2, atI_3, atI_4, upd_same, V.ty.injEq, eq_self_iff_true, and_self, String.reduceEq, or_false, or_true, false_or, true_or, Bool.or_true, Bool.or_false, Bool.true_or, Bool.false_or, Bool.and_false, Bool.false_and, Bool.and_true, Bool.true_and, String.reduceBEq, beq_self_eq_true, tDGetF, tDInF, tDNotInF, sDPutF, keyOf_int, keyOf_str, sFld, tFld, tDNewK, tRaise, tMethE, EX, tFstr, tMake, cxOf_K, Nat.reduceLT, Option.join_some, Option.join_none, not_true_eq_false, not_false_eq_true, gCons, gNil, tChain, rEqE, tAug, ipI, $ls,*])
section
variable {P : Program} {w : World} {K : PySem.W.Frag} {mg : Str → Option Value} {base : Heap} {a : Ad}

theorem yard_new {C x dx dw ds : Addr} {H H' : Hp} (hx : H x = none) (hdx : H dx = none) (nx : dx ≠ x) (n1 : upd (upd H dx (.own x)) x (.ins C dx []) dw = none) (n2 : upd (upd H dx (.own x)) x (.ins C dx []) ds = none)
    (f : Fr (· = x) (upd (upd H dx (.own x)) x (.ins C dx [])) H') : Same H H' ∧ H dw = none ∧ H ds = none := by
  have g1 : upd (upd H dx (.own x)) x (.ins C dx []) dx = some (.own x) := by rw [upd_ne nx]; exact upd_same
  have g2 : upd (upd H dx (.own x)) x (.ins C dx []) x = some (.ins C dx []) := upd_same
  have a1 : dw ≠ x := (ne_of_none g2 n1).symm
  have a2 : dw ≠ dx := (ne_of_none g1 n1).symm
  have a3 : ds ≠ x := (ne_of_none g2 n2).symm
  have a4 : ds ≠ dx := (ne_of_none g1 n2).symm
  rw [upd_ne a1, upd_ne a2] at n1
  rw [upd_ne a3, upd_ne a4] at n2
  exact ⟨fun q o e => f.keep q o (by rw [upd_ne (ne_of_none e hx), upd_ne (ne_of_none e hdx)]; exact e) (ne_of_none e hx), n1, n2⟩
/-- the fields of a hand -/
def hF (pr bx pi fr yd nw : Addr) : List (Str × V) := [("program", .ref pr), ("f", .int 0), ("at", .int 0), ("boxes", .ref bx), ("pile", .ref pi), ("frames", .ref fr), ("yard", .ref yd), ("news", .ref nw), ("end", .non)]
theorem hF_get {pr bx pi fr yd nw : Addr} : List.lookup ("program" : Str) (hF pr bx pi fr yd nw) = some (.ref pr) ∧ List.lookup ("f" : Str) (hF pr bx pi fr yd nw) = some (.int 0) ∧ List.lookup ("at" : Str) (hF pr bx pi fr yd nw) = some (.int 0) ∧ List.lookup ("boxes" : Str) (hF pr bx pi fr yd nw) = some (.ref bx) ∧ List.lookup ("pile" : Str) (hF pr bx pi fr yd nw) = some (.ref pi) ∧ List.lookup ("frames" : Str) (hF pr bx pi fr yd nw) = some (.ref fr) ∧ List.lookup ("yard" : Str) (hF pr bx pi fr yd nw) = some (.ref yd) ∧ List.lookup ("news" : Str) (hF pr bx pi fr yd nw) = some (.ref nw) ∧ List.lookup ("end" : Str) (hF pr bx pi fr yd nw) = some .non := ⟨by rfl, by rfl, by rfl, by rfl, by rfl, by rfl, by rfl, by rfl, by rfl⟩
theorem putF_h1 {v : V} : putF "program" v [] = [(("program" : Str), v)] := by rfl
theorem putF_h2 {x v : V} : putF "f" v [(("program" : Str), x)] = [(("program" : Str), x), (("f" : Str), v)] := by rfl
theorem putF_h3 {x1 x2 v : V} : putF "at" v [(("program" : Str), x1), (("f" : Str), x2)] = [(("program" : Str), x1), (("f" : Str), x2), (("at" : Str), v)] := by rfl
theorem putF_h4 {x1 x2 x3 v : V} : putF "boxes" v [(("program" : Str), x1), (("f" : Str), x2), (("at" : Str), x3)] = [(("program" : Str), x1), (("f" : Str), x2), (("at" : Str), x3), (("boxes" : Str), v)] := by rfl
theorem putF_h5 {x1 x2 x3 x4 v : V} : putF "pile" v [(("program" : Str), x1), (("f" : Str), x2), (("at" : Str), x3), (("boxes" : Str), x4)] = [(("program" : Str), x1), (("f" : Str), x2), (("at" : Str), x3), (("boxes" : Str), x4), (("pile" : Str), v)] := by rfl
theorem putF_h6 {x1 x2 x3 x4 x5 v : V} : putF "frames" v [(("program" : Str), x1), (("f" : Str), x2), (("at" : Str), x3), (("boxes" : Str), x4), (("pile" : Str), x5)] = [(("program" : Str), x1), (("f" : Str), x2), (("at" : Str), x3), (("boxes" : Str), x4), (("pile" : Str), x5), (("frames" : Str), v)] := by rfl
theorem putF_h7 {x1 x2 x3 x4 x5 x6 v : V} : putF "yard" v [(("program" : Str), x1), (("f" : Str), x2), (("at" : Str), x3), (("boxes" : Str), x4), (("pile" : Str), x5), (("frames" : Str), x6)] = [(("program" : Str), x1), (("f" : Str), x2), (("at" : Str), x3), (("boxes" : Str), x4), (("pile" : Str), x5), (("frames" : Str), x6), (("yard" : Str), v)] := by rfl
theorem putF_h8 {x1 x2 x3 x4 x5 x6 x7 v : V} : putF "news" v [(("program" : Str), x1), (("f" : Str), x2), (("at" : Str), x3), (("boxes" : Str), x4), (("pile" : Str), x5), (("frames" : Str), x6), (("yard" : Str), x7)] = [(("program" : Str), x1), (("f" : Str), x2), (("at" : Str), x3), (("boxes" : Str), x4), (("pile" : Str), x5), (("frames" : Str), x6), (("yard" : Str), x7), (("news" : Str), v)] := by rfl
theorem putF_h9 {x1 x2 x3 x4 x5 x6 x7 x8 v : V} : putF "end" v [(("program" : Str), x1), (("f" : Str), x2), (("at" : Str), x3), (("boxes" : Str), x4), (("pile" : Str), x5), (("frames" : Str), x6), (("yard" : Str), x7), (("news" : Str), x8)] = [(("program" : Str), x1), (("f" : Str), x2), (("at" : Str), x3), (("boxes" : Str), x4), (("pile" : Str), x5), (("frames" : Str), x6), (("yard" : Str), x7), (("news" : Str), x8), (("end" : Str), v)] := by rfl
structure HandAt (CH CY : Addr) (H : Hp) (x dx : Addr) (pr bx pi fr nw : Addr) (y : Yd) (boxes pile : List Int) (start : Int) : Prop where
  ins : H x = some (.ins CH dx (hF pr bx pi fr y.p nw))
  bx : H bx = some (.lst (boxes.map V.int))
  pi : H pi = some (.lst (pile.map V.int))
  fr : H fr = some (.lst [])
  nw : H nw = some (.lst [])
  yd : YardAt CY H y (fun _ => none) [] start
theorem HandAt.same {CH CY : Addr} {H H' : Hp} {x dx pr bx pi fr nw : Addr} {y : Yd} {boxes pile : List Int} {start : Int} (h : HandAt CH CY H x dx pr bx pi fr nw y boxes pile start) (S : Same H H') : HandAt CH CY H' x dx pr bx pi fr nw y boxes pile start :=
  ⟨S _ _ h.ins, S _ _ h.bx, S _ _ h.pi, S _ _ h.fr, S _ _ h.nw, h.yd.same S⟩
def sp_hand (CH CY : Addr) : Sp := fun vs H Q _ => ∃ (x dx pl il p0 : Addr) (vp : List V) (t0 t1 t3 : V) (ws st : Int) (ins : List Int), vs = [.ref x, .ref pl, .ref il, .int st] ∧ H x = some (.ins CH dx []) ∧ H pl = some (.lst (.ref p0 :: vp)) ∧ H p0 = some (.tup [t0, t1, .int ws, t3]) ∧ H il = some (.lst (ins.map V.int)) ∧ ins.length ≤ 8 ∧ 0 ≤ ws ∧ ws ≤ 16 ∧
  ∀ (bx pi fr nw : Addr) (y : Yd) (H' : Hp), HandAt CH CY H' x dx pl bx pi fr nw y (ins ++ List.replicate (8 - ins.length) (-1)) (List.replicate ws.toNat (-1)) st → Fr (· = x) H H' → Q .non H'
set_option maxHeartbeats 2000000 in
theorem ok_Hand___init (T : Txt K mg a) : FnOk P w K mg base CX0 3 a.f_Hand___init a.d_Hand___init ["self", "program", "inputs", "start"] (sp_hand a.c_Hand a.c_Yard) := by
  refine T.F_Hand___init.okC sc_Hand___init (fun vs H Q E h => ?_) (fun cdv A outer s H vs Q E hr h => ?_)
  · obtain ⟨x, dx, pl, il, p0, vp, t0, t1, t3, ws, st, ins, rfl, _⟩ := h
    rfl
  · obtain ⟨x, dx, pl, il, p0, vp, t0, t1, t3, ws, st, ins, rfl, hx, hpl, hp0, hil, li, w0, w16, q⟩ := h
    have hu := hu_of hr
    refine ⟨_, (@pss_cons _ _ _ _ _ (ps_fld (pv 0) (pv 1) (by rfl))
      (@pss_cons _ _ _ _ _ (ps_fld (pv 0) pe_int (by rfl))
      (@pss_cons _ _ _ _ _ (ps_fld (pv 0) pe_int (by rfl))
      (@pss_cons _ _ _ _ _ (ps_fld (pv 0) (pe_op op_cat (pe_callTy call_list_of (by rfl) T.z_list (by decide +kernel) (@pa_cname _ _ _ _ _ _ (pv 2) pa_nil)) (pe_op op_rep (pe_lst (@pa_cname _ _ _ _ _ _ (pe_glob (v := .int (-1)) (by rfl) T.m_UNSET ⟨_, rfl⟩) pa_nil)) (pe_op op_sub (pe_glob (v := .int (8)) (by rfl) T.m_BOXES ⟨_, rfl⟩) (pe_callB call_lenF (by rfl) T.z_len (by decide +kernel) (@pa_cname _ _ _ _ _ _ (pv 2) pa_nil))))) (by rfl))
      (@pss_cons _ _ _ _ _ (ps_fld (pv 0) (pe_op op_rep (pe_lst (@pa_cname _ _ _ _ _ _ (pe_glob (v := .int (-1)) (by rfl) T.m_UNSET ⟨_, rfl⟩) pa_nil)) (pe_ix ix_F (pe_ix ix_F (pv 1) pe_int (fun _ _ => rfl)) pe_int (fun _ _ => rfl))) (by rfl))
      (@pss_cons _ _ _ _ _ (ps_fld (pv 0) (pe_lst pa_nil) (by rfl))
      (@pss_cons _ _ _ _ _ (ps_fld (pv 0) (pe_make T.M_Yard (ok_Yard___init T) (hr.mono (by decide)) (by rfl) T.m_Yard T.b_Yard___init .nil pass0 (@pa_cname _ _ _ _ _ _ (pv 3) pa_nil)) (by rfl))
      (@pss_cons _ _ _ _ _ (ps_fld (pv 0) (pe_lst pa_nil) (by rfl))
      (@pss_one _ _ _ (ps_fld (pv 0) pe_non (by rfl))))))))))), ?_⟩
    have nxp : pl ≠ x := ne_of hpl hx (by intro z; cases z)
    have nxi : il ≠ x := ne_of hil hx (by intro z; cases z)
    have nx0 : p0 ≠ x := ne_of hp0 hx (by intro z; cases z)
    simp! [T.cl_Hand, T.n_program, T.n_f, T.n_at, T.n_boxes, T.n_pile, T.n_frames, T.n_yard, T.n_news, T.n_end, hx, upd_upd, putF_h1, putF_h2, putF_h3]
    have i1 : upd H x (.ins a.c_Hand dx [("program", .ref pl), ("f", .int 0), ("at", .int 0)]) x = some (.ins a.c_Hand dx [("program", .ref pl), ("f", .int 0), ("at", .int 0)]) := upd_same
    have F1 : Fr (· = x) H (upd H x (.ins a.c_Hand dx [("program", .ref pl), ("f", .int 0), ("at", .int 0)])) := .put rfl (notTup_ins hx)
    revert i1 F1
    generalize upd H x (.ins a.c_Hand dx [("program", .ref pl), ("f", .int 0), ("at", .int 0)]) = H1
    intro i1 F1
    have pl1 := F1.keep _ _ hpl nxp
    have il1 := F1.keep _ _ hil nxi
    have p01 := F1.keep _ _ hp0 nx0
    refine ⟨_, .inl (.of il1), fun l nl p np => ?_⟩
    have S2 : Same H1 (upd (upd H1 l (.lst (ins.map V.int))) p (.lst [V.int (-1)])) := (Same.laid nl).step np
    have hl2 := upd_old (u := .lst [V.int (-1)]) (upd_same (H := H1) (a := l) (o := .lst (ins.map V.int))) np
    have hp2 : upd (upd H1 l (.lst (ins.map V.int))) p (.lst [V.int (-1)]) p = some (.lst [V.int (-1)]) := upd_same
    revert S2 hl2 hp2
    generalize upd (upd H1 l (.lst (ins.map V.int))) p (.lst [V.int (-1)]) = H2
    intro S2 hl2 hp2
    have rep : ∀ n : Nat, (List.replicate n [V.int (-1)]).flatten = (List.replicate n (-1 : Int)).map V.int := fun n => by
      induction n with
      | zero => rfl
      | succ n ih => rw [List.replicate_succ, List.flatten_cons, ih, List.replicate_succ]; rfl
    refine ⟨ins.length, by rw [S2 _ _ il1, lenO_lst, List.length_map], ?_⟩
    refine ⟨p, _, _, rfl, rfl, hp2, by omega, by omega, by rw [sizeLine_eq]; simp; omega, fun r nr => ?_⟩
    rw [rep, show (8 - (ins.length : Int)).toNat = 8 - ins.length by omega]
    refine ⟨l, r, _, _, rfl, rfl, upd_old hl2 nr, upd_same, by rw [sizeLine_eq]; simp; omega, fun bx nbx => ?_⟩
    rw [← List.map_append]
    have S3 := (S2.step nr (u := .lst ((List.replicate (8 - ins.length) (-1 : Int)).map V.int))).step nbx (u := .lst ((ins ++ List.replicate (8 - ins.length) (-1)).map V.int))
    have hb3 : upd (upd H2 r (.lst ((List.replicate (8 - ins.length) (-1 : Int)).map V.int))) bx (.lst ((ins ++ List.replicate (8 - ins.length) (-1)).map V.int)) bx = some (.lst ((ins ++ List.replicate (8 - ins.length) (-1)).map V.int)) := upd_same
    revert S3 hb3
    generalize upd (upd H2 r (.lst ((List.replicate (8 - ins.length) (-1 : Int)).map V.int))) bx (.lst ((ins ++ List.replicate (8 - ins.length) (-1)).map V.int)) = H3
    intro S3 hb3
    have i3 := S3 _ _ i1
    refine ⟨_, _, _, i3, T.cl_Hand, T.n_boxes, by simp, ?_⟩
    rw [putF_h4]
    have nbx' : bx ≠ x := ne_of hb3 i3 (by intro z; cases z)
    have F4 : Fr (· = x) H3 (upd H3 x (.ins a.c_Hand dx [("program", .ref pl), ("f", .int 0), ("at", .int 0), ("boxes", .ref bx)])) := .put rfl (notTup_ins i3)
    have i4 : upd H3 x (.ins a.c_Hand dx [("program", .ref pl), ("f", .int 0), ("at", .int 0), ("boxes", .ref bx)]) x = some (.ins a.c_Hand dx [("program", .ref pl), ("f", .int 0), ("at", .int 0), ("boxes", .ref bx)]) := upd_same
    revert F4 i4
    generalize upd H3 x (.ins a.c_Hand dx [("program", .ref pl), ("f", .int 0), ("at", .int 0), ("boxes", .ref bx)]) = H4
    intro F4 i4
    have F14 : Fr (· = x) H1 H4 := (Fr.of_same S3).trans F4
    have bx4 := F4.keep _ _ hb3 nbx'
    intro p2 np2
    have pl5 := upd_old (u := .lst [V.int (-1)]) (F14.keep _ _ pl1 nxp) np2
    have p05 := upd_old (u := .lst [V.int (-1)]) (F14.keep _ _ p01 nx0) np2
    simp! [pl5, p05]
    refine ⟨p2, ws, _, rfl, rfl, upd_same, by omega, by omega, by rw [sizeLine_eq]; simp; omega, fun pi npi => ?_⟩
    rw [rep]
    have S5 : Same H4 (upd (upd H4 p2 (.lst [V.int (-1)])) pi (.lst ((List.replicate ws.toNat (-1 : Int)).map V.int))) := (Same.laid np2).step npi
    have hpi5 : upd (upd H4 p2 (.lst [V.int (-1)])) pi (.lst ((List.replicate ws.toNat (-1 : Int)).map V.int)) pi = some (.lst ((List.replicate ws.toNat (-1 : Int)).map V.int)) := upd_same
    revert S5 hpi5
    generalize upd (upd H4 p2 (.lst [V.int (-1)])) pi (.lst ((List.replicate ws.toNat (-1 : Int)).map V.int)) = H5
    intro S5 hpi5
    have i5 := S5 _ _ i4
    refine ⟨_, _, _, i5, T.cl_Hand, T.n_pile, by simp, ?_⟩
    rw [putF_h5]
    have npi' : pi ≠ x := ne_of hpi5 i5 (by intro z; cases z)
    have F6 : Fr (· = x) H5 (upd H5 x (.ins a.c_Hand dx [("program", .ref pl), ("f", .int 0), ("at", .int 0), ("boxes", .ref bx), ("pile", .ref pi)])) := .put rfl (notTup_ins i5)
    have i6 : upd H5 x (.ins a.c_Hand dx [("program", .ref pl), ("f", .int 0), ("at", .int 0), ("boxes", .ref bx), ("pile", .ref pi)]) x = some (.ins a.c_Hand dx [("program", .ref pl), ("f", .int 0), ("at", .int 0), ("boxes", .ref bx), ("pile", .ref pi)]) := upd_same
    revert F6 i6
    generalize upd H5 x (.ins a.c_Hand dx [("program", .ref pl), ("f", .int 0), ("at", .int 0), ("boxes", .ref bx), ("pile", .ref pi)]) = H6
    intro F6 i6
    have F46 : Fr (· = x) H4 H6 := (Fr.of_same S5).trans F6
    have bx6 := F46.keep _ _ bx4 nbx'
    have pi6 := F6.keep _ _ hpi5 npi'
    intro fr nfr
    have nfr' : fr ≠ x := (ne_of_none i6 nfr).symm
    have i7 := upd_old (u := .lst []) i6 nfr
    refine ⟨_, _, _, i7, T.cl_Hand, T.n_frames, by simp, ?_⟩
    rw [putF_h6]
    have S7 : Same H6 (upd H6 fr (.lst [])) := .laid nfr
    have F8 : Fr (· = x) H6 (upd (upd H6 fr (.lst [])) x (.ins a.c_Hand dx [("program", .ref pl), ("f", .int 0), ("at", .int 0), ("boxes", .ref bx), ("pile", .ref pi), ("frames", .ref fr)])) := (Fr.of_same S7).trans (.put rfl (notTup_ins i7))
    have i8 : upd (upd H6 fr (.lst [])) x (.ins a.c_Hand dx [("program", .ref pl), ("f", .int 0), ("at", .int 0), ("boxes", .ref bx), ("pile", .ref pi), ("frames", .ref fr)]) x = some (.ins a.c_Hand dx [("program", .ref pl), ("f", .int 0), ("at", .int 0), ("boxes", .ref bx), ("pile", .ref pi), ("frames", .ref fr)]) := upd_same
    have fr8 : upd (upd H6 fr (.lst [])) x (.ins a.c_Hand dx [("program", .ref pl), ("f", .int 0), ("at", .int 0), ("boxes", .ref bx), ("pile", .ref pi), ("frames", .ref fr)]) fr = some (.lst []) := by rw [upd_ne nfr']; exact upd_same
    revert F8 i8 fr8
    generalize upd (upd H6 fr (.lst [])) x (.ins a.c_Hand dx [("program", .ref pl), ("f", .int 0), ("at", .int 0), ("boxes", .ref bx), ("pile", .ref pi), ("frames", .ref fr)]) = H8
    intro F8 i8 fr8
    have bx8 := F8.keep _ _ bx6 nbx'
    have pi8 := F8.keep _ _ pi6 npi'
    intro yx ydx hyx hydx nyx
    refine ⟨yx, ydx, st, rfl, upd_same, fun dw ds H9 hdw hds Y F => ⟨rfl, ?_⟩⟩
    obtain ⟨S9, ndw, nds⟩ := yard_new hyx hydx nyx hdw hds F
    have i9 := S9 _ _ i8
    have n1 : yx ≠ x := (ne_of_none i8 hyx).symm
    have n2 : dw ≠ x := (ne_of_none i8 ndw).symm
    have n3 : ds ≠ x := (ne_of_none i8 nds).symm
    refine ⟨_, _, _, i9, T.cl_Hand, T.n_yard, by simp, fun nw nnw => ?_⟩
    rw [putF_h7] at nnw ⊢
    have F10 : Fr (· = x) H9 (upd H9 x (.ins a.c_Hand dx [("program", .ref pl), ("f", .int 0), ("at", .int 0), ("boxes", .ref bx), ("pile", .ref pi), ("frames", .ref fr), ("yard", .ref yx)])) := .put rfl (notTup_ins i9)
    have i10 : upd H9 x (.ins a.c_Hand dx [("program", .ref pl), ("f", .int 0), ("at", .int 0), ("boxes", .ref bx), ("pile", .ref pi), ("frames", .ref fr), ("yard", .ref yx)]) x = some (.ins a.c_Hand dx [("program", .ref pl), ("f", .int 0), ("at", .int 0), ("boxes", .ref bx), ("pile", .ref pi), ("frames", .ref fr), ("yard", .ref yx)]) := upd_same
    revert F10 i10 nnw
    generalize upd H9 x (.ins a.c_Hand dx [("program", .ref pl), ("f", .int 0), ("at", .int 0), ("boxes", .ref bx), ("pile", .ref pi), ("frames", .ref fr), ("yard", .ref yx)]) = H10
    intro nnw F10 i10
    have i11 := upd_old (u := .lst []) i10 nnw
    have n4 : nw ≠ x := (ne_of_none i10 nnw).symm
    refine ⟨_, _, _, i11, T.cl_Hand, T.n_news, by simp, T.cl_Hand, T.n_end, by rw [putF_h8]; simp, ?_⟩
    rw [putF_h8, putF_h9]
    have F12 : Fr (· = x) H10 (upd (upd H10 nw (.lst [])) x (.ins a.c_Hand dx (hF pl bx pi fr yx nw))) := (Fr.of_same (.laid nnw)).trans (.put rfl (notTup_ins i11))
    have F812 := ((Fr.of_same (M := (· = x)) S9).trans F10).trans F12
    have F16 := (F14.trans F46).trans F8
    refine q bx pi fr nw ⟨yx, ydx, dw, ds⟩ _ ⟨upd_same, F812.keep _ _ bx8 nbx', F812.keep _ _ pi8 npi', F812.keep _ _ fr8 nfr', by rw [upd_ne n4]; exact upd_same, (Y.fr F10 n1 n2 n3).fr F12 n1 n2 n3⟩ ((F1.trans F16).trans F812)

end
end Law

namespace Law
open PySem L2
local macro_rules | `(tactic| simp! [$ls,*]) => `(tactic| simp only [tSeq, tAsg, gName, tVar, tC, tOp, tUn, rI0, rI, rU, tCB, tCons, tNil, tRet, tRetN, tIfS, tTest, tB, tAnd, tOr, tNot, tAndV, tOrV, tNotV, tIf, tDrop, tNext, tCall, tMeth, tIsN, tNotN, L2.start, List.map_cons, List.map_nil, List.length_cons, List.length_nil, List.nil_append, List.cons_append, List.append_nil, Nat.reduceAdd, Nat.reduceSub, Nat.sub_self, List.replicate_succ, List.replicate_zero, List.set_cons_zero, List.set_cons_succ, List.getElem?_cons_zero, List.getElem?_cons_succ, Option.some.injEq, V.int.injEq, V.bl.injEq, V.str.injEq, V.ref.injEq, List.cons.injEq, exists_eq_left', exists_eq_left, exists_and_left, and_true, true_and, if_true, if_false, ite_true, ite_false, Bool.true_eq_false, Bool.false_eq_true, decide_eq_true_eq, Bool.not_true, Bool.not_false, Bool.not_eq_true', decide_eq_false_iff_not, reduceCtorEq, false_and, and_false, exists_false, tTup, tLst, sizeLine_eq, Nat.reduceLeDiff, Nat.zero_le, rEq, rNe, rIxF, rEqF, gSub, rSetL, HO.lst.injEq, HO.tup.injEq, HO.ins.injEq, HO.dK.injEq, scal_int, scal_bl, scal_str, tyF_ref, tyF_int, tyF_bl, tyF_str, tyF_non, lenF_ref, seqV_eq, kindV_eq, tyO_lst, tyO_frz, tyO_tup, tyO_dK, lenO_lst, lenO_frz, lenO_tup, seqO_lst, seqO_frz, seqO_tup, kindO_lst, kindO_frz, kindO_tup, isTys, and_assoc, atI_0, atI_1, atI_2, atI_3, atI_4, upd_same, V.ty.injEq, eq_self_iff_true, and_self, String.reduceEq, or_false, or_true, false_or, true_or, Bool.or_true, Bool.or_false, Bool.true_or, Bool.false_or, Bool.and_false, Bool.false_and, Bool.and_true, Bool.true_and, String.reduceBEq, beq_self_eq_true, tDGetF, tDInF, tDNotInF, sDPutF, keyOf_int, keyOf_str, sFld, tFld, tDNewK, tRaise, tMethE, EX, tFstr, tMake, cxOf_K, Nat.reduceLT, Option.join_some, Option.join_none, not_true_eq_false, not_false_eq_true, gCons, gNil, tChain, rEqE, tAug, ipI, $ls,*])
section
variable {P : Program} {w : World} {K : PySem.W.Frag} {mg : Str → Option Value} {base : Heap} {a : Ad}
theorem BagAt.has {H : Hp} {b c : Addr} {cs : List Int} (x : BagAt H b c cs) : ∃ o, H b = some o := by obtain ⟨⟨i, v, s, n, e, _⟩, _⟩ := x; exact ⟨_, e⟩
theorem BagAt.tup {H H' : Hp} {b c q : Addr} {cs : List Int} {xs : List V} (x : BagAt H b c cs) (k : Kp b H H') (h : H q = some (.tup xs)) : H' q = some (.tup xs) := by
  refine k q _ h (fun e => ?_)
  obtain ⟨⟨i, v, st, n, hb, _⟩, _⟩ := x
  rw [e, hb] at h
  cases h
theorem none_of_kp {b q : Addr} {H H' : Hp} (k : Kp b H H') (n : q ≠ b) (h : H' q = none) : H q = none := by
  cases e : H q with
  | none => rfl
  | some o => rw [k _ _ e n] at h; cases h
theorem glue_ones (l : List Nat) : PySem.Txt.join "" (l.map fun c => (⟨#[c]⟩ : Str)) = ⟨l.toArray⟩ := by
  have key : ∀ (r : List Nat) (acc : Array Nat), (r.map fun c => (⟨#[c]⟩ : Str)).foldl (fun acc p => acc ++ (Str.ofString "").cps ++ p.cps) acc = acc ++ r.toArray := by
    intro r
    induction r with
    | nil => intro acc; simp
    | cons c r ih =>
      intro acc
      rw [List.map_cons, List.foldl_cons, ih]
      rw [show (Str.ofString "").cps = #[] by decide]
      simp
  cases l with
  | nil => rfl
  | cons c r =>
    show (⟨(r.map fun c => (⟨#[c]⟩ : Str)).foldl (fun acc p => acc ++ (Str.ofString "").cps ++ p.cps) #[c]⟩ : Str) = _
    rw [key]
    simp
def NH (c : Nat) : Prop := c = 110 ∨ c = 104
theorem six_n : ∀ k : Nat, k < 7 → (PySem.Txt.slice (Str.ofString "nnnnnn") none (some (k : Int))).cps.size ≤ 6 ∧ ∀ c ∈ (PySem.Txt.slice (Str.ofString "nnnnnn") none (some (k : Int))).cps.toList, c = 110 := by decide +kernel

theorem nh_pick : ∀ x : Nat, (x : Int) < 2 → ∃ c, atI (Str.ofString "nh").cps.toList (x : Int) = some c ∧ NH c := fun x hx => by
  rw [show Str.ofString "nh" = ⟨#[110, 104]⟩ by decide]
  match x, hx with
  | 0, _ => exact ⟨110, atI_0, .inl rfl⟩
  | 1, _ => exact ⟨104, atI_1, .inr rfl⟩
  | n + 2, h => omega
/-- a text of n and h -/
def NHs (z : Str) : Prop := z.cps.size ≤ 6 ∧ ∀ c ∈ z.cps.toList, NH c
def sp_letters : Sp := fun vs H Q _ => ∃ (b c : Addr) (cs : List Int) (n : Int), vs = [.ref b, .int n] ∧ BagAt H b c cs ∧ 0 ≤ n ∧ n < 7 ∧ ∀ (z : Str) (H' : Hp), NHs z → BagAt H' b c cs → Kp b H H' → Q (.str z) H'
set_option maxHeartbeats 1000000 in
theorem ok_law_letters (T : Txt K mg a) : FnOk P w K mg base CX0 2 a.f_law_letters a.d_law_letters ["bag", "many"] sp_letters := by
  refine T.F_law_letters.okC sc_law_letters (fun vs H Q E h => ?_) (fun cdv A outer s H vs Q E hr h => ?_)
  · obtain ⟨b, c, cs, n, rfl, _⟩ := h
    rfl
  · obtain ⟨b, c, cs, n, rfl, hb, n0, n7, q⟩ := h
    have hu := hu_of hr
    refine ⟨_, (@pss_one _ _ _ (ps_ret (pe_bm PySem.F.plainAttrs_str PySem.F.slot_str_join PySem.F.type_str_join mt_join pe_str (pa_cons (pe_comp (N' := ["k", "bag"]) (cap := [none, some 0]) ⟨rfl, (by decide +kernel), (by decide +kernel), (by rfl), rfl, (by rfl)⟩ (by rfl) (pi_range1 (by rfl) T.z_range (@pa_cname _ _ _ _ _ _ (pv 1) pa_nil)) (fun C_ ex_ s_ H_ => (pg_name (i := 0) (show (["k", "bag"] : List Str).Nodup by decide +kernel) (by rfl) (Or.inl rfl))) gkp_name (fun C_ ex_ s_ H_ => pifs_nil) (fun C_ ex_ s_ H_ => (pe_ix ix_str pe_str (pe_call (ok_law_draw T) (by exact hr.mono (by decide)) (by rfl) T.m_law_draw T.F_law_draw.kp T.b_law_draw .nil pass0 (@pa_cname _ _ _ _ _ _ (pv 1) (@pa_cint _ _ _ _ _ _ pa_nil))) (fun _ _ => rfl)))) pa_nil)))), ?_⟩
    simp! [tBM]
    refine ⟨rfl, ?_⟩
    refine comp1 (H1 := H) n (fun Q2 h2 => by simp! []; exact h2) (by omega) (by omega) (fun D i ys H4 => ∃ l : List Nat, l.length = i ∧ ys = (l.map fun c => (⟨#[c]⟩ : Str)).map V.str ∧ (∀ x ∈ l, NH x) ∧ H4 D = some (.lst ys) ∧ BagAt H4 b c cs ∧ Kp b H H4)
      (fun D hD => ⟨[], rfl, rfl, by simp, upd_same, hb.laid hD, Kp.refl.laid hD⟩) ?_ (by rw [sizeLine_eq]; omega) ?_ ?_
    · rintro D hD i ys H4 hi ⟨l, l1, rfl, l2, hd, hb4, k4⟩
      exact ⟨hd, by rw [List.length_map, List.length_map]; omega⟩
    · rintro D hD i ys H4 hi ⟨l, l1, rfl, l2, hd, hb4, k4⟩
      simp! [capSt, tTrue]
      refine ⟨b, c, cs, _, rfl, hb4, by omega, by omega, fun x H5 x0 x1 hb5 k5 => ?_⟩
      have nD : D ≠ b := fun e => by
        obtain ⟨o, h⟩ := hb.has
        rw [← e, hD] at h; cases h
      have nDc : D ≠ c := fun e => by
        have h := hb.at_
        rw [← e, hD] at h; cases h
      have hd5 := k5 _ _ hd nD
      obtain ⟨xN, rfl⟩ := Int.eq_ofNat_of_zero_le x0
      obtain ⟨ch, hc1, hc2⟩ := nh_pick xN x1
      refine ⟨_, _, ch, rfl, rfl, by decide, hc1, hd5, l ++ [ch], by rw [List.length_append, l1]; rfl, by simp, fun y hy => ?_, hb5.other nD nDc, fun q o h n => ?_⟩
      · rcases List.mem_append.mp hy with h | h
        · exact l2 y h
        · rw [List.mem_singleton.mp h]; exact hc2
      · rw [upd_ne (ne_of_none h hD)]
        exact k5 _ _ (k4 _ _ h n) n
    · rintro D hD ys H4 ⟨l, l1, rfl, l2, hd, hb4, k4⟩
      refine ⟨_, D, _, rfl, rfl, hd, ?_, ?_⟩
      · rw [show (Str.ofString "").length = 0 by decide, Nat.mul_zero, List.map_map]
        have e1 : (l.map ((fun x : Str => x.length) ∘ fun c => (⟨#[c]⟩ : Str))) = l.map fun _ => 1 := rfl
        have e2 : (l.map fun _ => 1).sum = l.length := by
          clear l1 l2 hd e1
          induction l with
          | nil => rfl
          | cons x r ih => rw [List.map_cons, List.sum_cons, ih, List.length_cons]; omega
        rw [e1, e2]
        omega
      · rw [glue_ones]
        exact q _ _ ⟨by show l.toArray.size ≤ 6; rw [List.size_toArray]; omega, l2⟩ hb4 k4

end
end Law

namespace Law
open PySem L2
local macro_rules | `(tactic| simp! [$ls,*]) => `(tactic| simp only [tSeq, tAsg, gName, tVar, tC, tOp, tUn, rI0, rI, rU, tCB, tCons, tNil, tRet, tRetN, tIfS, tTest, tB, tAnd, tOr, tNot, tAndV, tOrV, tNotV, tIf, tDrop, tNext, tCall, tMeth, tIsN, tNotN, L2.start, List.map_cons, List.map_nil, List.length_cons, List.length_nil, List.nil_append, List.cons_append, List.append_nil, Nat.reduceAdd, Nat.reduceSub, Nat.sub_self, List.replicate_succ, List.replicate_zero, List.set_cons_zero, List.set_cons_succ, List.getElem?_cons_zero, List.getElem?_cons_succ, Option.some.injEq, V.int.injEq, V.bl.injEq, V.str.injEq, V.ref.injEq, List.cons.injEq, exists_eq_left', exists_eq_left, exists_and_left, and_true, true_and, if_true, if_false, ite_true, ite_false, Bool.true_eq_false, Bool.false_eq_true, decide_eq_true_eq, Bool.not_true, Bool.not_false, Bool.not_eq_true', decide_eq_false_iff_not, reduceCtorEq, false_and, and_false, exists_false, tTup, tLst, sizeLine_eq, Nat.reduceLeDiff, Nat.zero_le, rEq, rNe, rIxF, rEqF, gSub, rSetL, HO.lst.injEq, HO.tup.injEq, HO.ins.injEq, HO.dK.injEq, scal_int, scal_bl, scal_str, tyF_ref, tyF_int, tyF_bl, tyF_str, tyF_non, lenF_ref, seqV_eq, kindV_eq, tyO_lst, tyO_frz, tyO_tup, tyO_dK, lenO_lst, lenO_frz, lenO_tup, seqO_lst, seqO_frz, seqO_tup, kindO_lst, kindO_frz, kindO_tup, isTys, and_assoc, atI_0, atI_1, atI_2, atI_3, atI_4, upd_same, V.ty.injEq, eq_self_iff_true, and_self, String.reduceEq, or_false, or_true, false_or, true_or, Bool.or_true, Bool.or_false, Bool.true_or, Bool.false_or, Bool.and_false, Bool.false_and, Bool.and_true, Bool.true_and, String.reduceBEq, beq_self_eq_true, tDGetF, tDInF, tDNotInF, sDPutF, keyOf_int, keyOf_str, sFld, tFld, tDNewK, tRaise, tMethE, EX, tFstr, tMake, cxOf_K, Nat.reduceLT, Option.join_some, Option.join_none, not_true_eq_false, not_false_eq_true, gCons, gNil, tChain, rEqE, tAug, ipI, $ls,*])
section
variable {P : Program} {w : World} {K : PySem.W.Frag} {mg : Str → Option Value} {base : Heap} {a : Ad}
theorem Kp.new {b l : Addr} {H H2 : Hp} {u : HO} (k : Kp b H H2) (h : H l = none) : Kp b H (upd H2 l u) := fun q o e n => by
  rw [upd_ne (fun z => by rw [z, h] at e; cases e)]
  exact k q o e n
theorem BagAt.apart {H : Hp} {b c l : Addr} {cs : List Int} (B : BagAt H b c cs) (h : H l = none) : l ≠ b ∧ l ≠ c := by
  obtain ⟨⟨i, v, st, n, e, k⟩, h3, _⟩ := B
  refine ⟨fun z => ?_, fun z => ?_⟩
  · rw [← z, h] at e; cases e
  · rw [← z, h] at h3; cases h3

theorem ps_setDG {X : Cx} {i : Nat} {x : Str} {ks : List (Option Expr)} {vs : List Expr} {trs : List (TE × TE)} {e : Expr} {te : TE} {pos pos' p p2 : Pos} (hu : X.A.units + 1 < cLine) (hN : X.N.Nodup) (hi : X.N[i]? = some x) (hx : Loc X.env.scope x) (he : PPs X p ks vs trs) (h1 : ks.all (·.isSome) = true) (h2 : ks.length = vs.length) (h3 : ks ≠ []) (h4 : ks.length ≤ 15) (hk : PE X e te) (hs : NoSl e) (hf : X.fn x = true ∨ X.env.scope.names.lookup x = some .local := by first | exact .inl rfl | exact .inr rfl | assumption) :
    PS X (.Assign [.Name x pos'] (.Subscript (.Dict ks vs p) e p2) pos) (tAsg (tDGetF (tDisp trs) te) (gName i)) := ps_set hN hi hx (pe_dgetF hu (pe_disp he h1 h2 h3 h4) hk hs) rfl hf
/-- rows as the tuples' items: ints and plain texts -/
def ScOk (v : V) : Prop := (∃ i, v = .int i) ∨ ∃ s, v = .str s ∧ PyData.strOk s = true
def toD : V → PyData
  | .int i => .int i
  | .str s => .str s
  | _ => .none
structure Df where
  takes : Str
  gives : Str
  w : Int
  rows : List (List V)
structure DfOk (d : Df) : Prop where
  takes : NHs d.takes
  gives : d.gives = "n" ∨ d.gives = "h"
  w0 : 0 ≤ d.w
  w1 : d.w ≤ 16
  len : d.rows.length ≤ 3
  sc : ∀ r ∈ d.rows, r.length ≤ 3 ∧ ∀ v ∈ r, ScOk v
structure RwAt (H : Hp) (rl : Addr) (rs : List Addr) (rows : List (List V)) : Prop where
  top : H rl = some (.lst (rs.map V.ref))
  len : rs.length = rows.length
  row : ∀ (i : Nat) (q : Addr) (r : List V), rs[i]? = some q → rows[i]? = some r → H q = some (.tup r)
structure DfAt (H : Hp) (p rl : Addr) (rs : List Addr) (d : Df) : Prop where
  at_ : H p = some (.tup [.str d.takes, .str d.gives, .int d.w, .ref rl])
  rows : RwAt H rl rs d.rows
theorem RwAt.one {H : Hp} {p q : Addr} {r : List V} (h : H p = some (.lst [.ref q])) (hq : H q = some (.tup r)) : RwAt H p [q] [r] := ⟨h, rfl, fun i x y h1 h2 => by
  match i, h1, h2 with
  | 0, h1, h2 => cases h1; cases h2; exact hq
  | i + 1, h1, h2 => simp at h1⟩
theorem RwAt.two {H : Hp} {p q q' : Addr} {r r' : List V} (h : H p = some (.lst [.ref q, .ref q'])) (hq : H q = some (.tup r)) (hq' : H q' = some (.tup r')) : RwAt H p [q, q'] [r, r'] := ⟨h, rfl, fun i x y h1 h2 => by
  match i, h1, h2 with
  | 0, h1, h2 => cases h1; cases h2; exact hq
  | 1, h1, h2 => cases h1; cases h2; exact hq'
  | i + 2, h1, h2 => simp at h1⟩
theorem RwAt.three {H : Hp} {p q q' q2 : Addr} {r r' r2 : List V} (h : H p = some (.lst [.ref q, .ref q', .ref q2])) (hq : H q = some (.tup r)) (hq' : H q' = some (.tup r')) (hq2 : H q2 = some (.tup r2)) : RwAt H p [q, q', q2] [r, r', r2] := ⟨h, rfl, fun i x y h1 h2 => by
  match i, h1, h2 with
  | 0, h1, h2 => cases h1; cases h2; exact hq
  | 1, h1, h2 => cases h1; cases h2; exact hq'
  | 2, h1, h2 => cases h1; cases h2; exact hq2
  | i + 3, h1, h2 => simp at h1⟩
theorem sc_back {i : Int} : [V.str (Str.ofString "back"), V.int i].length ≤ 3 ∧ ∀ v ∈ [V.str (Str.ofString "back"), V.int i], ScOk v := ⟨Nat.le_of_ble_eq_true rfl, fun v hv => by
  rcases List.mem_cons.mp hv with rfl | hv
  · exact .inr ⟨_, rfl, by decide +kernel⟩
  · exact .inl ⟨_, List.mem_singleton.mp hv⟩⟩
theorem sc_rest : [V.str (Str.ofString "rest")].length ≤ 3 ∧ ∀ v ∈ [V.str (Str.ofString "rest")], ScOk v := ⟨Nat.le_of_ble_eq_true rfl, fun v hv => .inr ⟨_, List.mem_singleton.mp hv, by decide +kernel⟩⟩
theorem sc_nil {i : Int} : [V.str (Str.ofString "nil"), V.int i].length ≤ 3 ∧ ∀ v ∈ [V.str (Str.ofString "nil"), V.int i], ScOk v := ⟨Nat.le_of_ble_eq_true rfl, fun v hv => by
  rcases List.mem_cons.mp hv with rfl | hv
  · exact .inr ⟨_, rfl, by decide +kernel⟩
  · exact .inl ⟨_, List.mem_singleton.mp hv⟩⟩
theorem sc_put {i j : Int} : [V.str (Str.ofString "put"), V.int i, V.int j].length ≤ 3 ∧ ∀ v ∈ [V.str (Str.ofString "put"), V.int i, V.int j], ScOk v := ⟨Nat.le_of_ble_eq_true rfl, fun v hv => by
  rcases List.mem_cons.mp hv with rfl | hv
  · exact .inr ⟨_, rfl, by decide +kernel⟩
  rcases List.mem_cons.mp hv with rfl | hv
  · exact .inl ⟨_, rfl⟩
  · exact .inl ⟨_, List.mem_singleton.mp hv⟩⟩
theorem str_pos {z : Str} (h : ¬ z = Str.ofString "") : 0 < z.cps.toList.length := by
  rcases Nat.eq_zero_or_pos z.cps.toList.length with e | e
  · refine absurd ?_ h
    obtain ⟨⟨l⟩⟩ := z
    cases l with
    | nil => rfl
    | cons x l => simp at e
  · exact e
theorem RwAt.fr {H H' : Hp} {M : Addr → Prop} {rl : Addr} {rs : List Addr} {rows : List (List V)} (x : RwAt H rl rs rows) (f : Fr M H H') (n : ¬ M rl) : RwAt H' rl rs rows := ⟨f.keep _ _ x.top n, x.len, fun i q r h1 h2 => f.tups _ _ (x.row i q r h1 h2)⟩
theorem DfAt.fr {H H' : Hp} {M : Addr → Prop} {p rl : Addr} {rs : List Addr} {d : Df} (x : DfAt H p rl rs d) (f : Fr M H H') (n : ¬ M rl) : DfAt H' p rl rs d := ⟨f.tups _ _ x.at_, x.rows.fr f n⟩
theorem BagAt.kfr' {b c : Addr} {cs : List Int} {H H' : Hp} (x : BagAt H b c cs) (k : Kp b H H') : Fr (· = b) H H' := ⟨k, fun q xs h => x.tup k h⟩
def sp_def : Sp := fun vs H Q _ => ∃ (b c : Addr) (cs : List Int) (takes gives : Str), vs = [.ref b, .str takes, .str gives] ∧ BagAt H b c cs ∧ NHs takes ∧ (gives = "n" ∨ gives = "h") ∧
  ∀ (p rl : Addr) (rs : List Addr) (d : Df) (H' : Hp), d.takes = takes → DfOk d → DfAt H' p rl rs d → H rl = none → BagAt H' b c cs → Kp b H H' → Q (.ref p) H'
set_option maxHeartbeats 2000000 in
theorem ok_law_def (T : Txt K mg a) : FnOk P w K mg base CX0 3 a.f_law_def a.d_law_def ["bag", "takes", "gives"] sp_def := by
  refine T.F_law_def.okC sc_law_def (fun vs H Q E h => ?_) (fun cdv A outer s H vs Q E hr h => ?_)
  · obtain ⟨b, c, cs, takes, gives, rfl, _⟩ := h
    rfl
  · obtain ⟨b, c, cs, takes, gives, rfl, hb, nt, ng, q⟩ := h
    have hu := hu_of hr
    refine ⟨_, (@pss_cons _ _ _ _ _ (ps_set (i := 3) sc_law_def.nd (by rfl) (Or.inl rfl) (pe_call (ok_law_draw T) (hr.mono (by decide)) (by rfl) T.m_law_draw T.F_law_draw.kp T.b_law_draw .nil pass0 (@pa_cname _ _ _ _ _ _ (pv 0) (@pa_cint _ _ _ _ _ _ pa_nil))))
      (@pss_cons _ _ _ _ _ (@ps_setDG _ 4 _ _ _ _ _ _ _ _ _ _ hu sc_law_def.nd (by rfl) (Or.inl rfl) (@pps_cons _ _ _ _ _ _ _ _ _ pe_str (pe_tup (@pa_cstr _ _ _ _ _ _ (@pa_cint _ _ _ _ _ _ (pa_cons (pe_call (ok_law_number T) (hr.mono (by decide)) (by rfl) T.m_law_number T.F_law_number.kp T.b_law_number .nil pass0 (@pa_cname _ _ _ _ _ _ (pv 0) pa_nil)) pa_nil)))) (@pps_cons _ _ _ _ _ _ _ _ _ pe_str (pe_tup (@pa_cstr _ _ _ _ _ _ (@pa_cint _ _ _ _ _ _ pa_nil))) pps_nil)) (by rfl) (by rfl) (List.cons_ne_nil _ _) (Nat.le_of_ble_eq_true (by rfl)) (pv 2) (fun _ _ => rfl) (by first | exact .inl (by rfl) | exact .inr (by rfl) | assumption))
      (@pss_cons _ _ _ _ _ (@ps_setL _ 5 _ _ _ _ _ _ sc_law_def.nd (by rfl) (Or.inl rfl) (@pa_cname _ _ _ _ _ _ (pv 4) (pa_cons (pe_tup (@pa_cstr _ _ _ _ _ _ pa_nil)) (pa_cons (pe_tup (@pa_cstr _ _ _ _ _ _ (@pa_cint _ _ _ _ _ _ pa_nil))) pa_nil))) (by first | exact .inl (by rfl) | exact .inr (by rfl) | assumption))
      (@pss_cons _ _ _ _ _ (@ps_if _ _ _ _ _ _ _ _ (pt_cmpR op_eq (pe_call (ok_law_draw T) (hr.mono (by decide)) (by rfl) T.m_law_draw T.F_law_draw.kp T.b_law_draw .nil pass0 (@pa_cname _ _ _ _ _ _ (pv 0) (@pa_cint _ _ _ _ _ _ pa_nil))) pe_int (nomark _)) (@pss_one _ _ _ (@ps_setL _ 5 _ _ _ _ _ _ sc_law_def.nd (by rfl) (Or.inl rfl) (@pa_cname _ _ _ _ _ _ (pv 4) (pa_cons (pe_tup (@pa_cstr _ _ _ _ _ _ (@pa_cint _ _ _ _ _ _ pa_nil))) pa_nil)) (by first | exact .inl (by rfl) | exact .inr (by rfl) | assumption))) pss_nil)
      (@pss_cons _ _ _ _ _ (@ps_if _ _ _ _ _ _ _ _ (PW.pt (pw_and (pt_cmpR op_ne (pv 1) pe_str (nomark _)) (pw_and (pt_cmpR op_eq (pe_ix ix_str (pv 1) pe_int (fun _ _ => rfl)) (pv 2) (nomark _)) (pw_and1 (pt_cmpR op_eq (pe_call (ok_law_draw T) (hr.mono (by decide)) (by rfl) T.m_law_draw T.F_law_draw.kp T.b_law_draw .nil pass0 (@pa_cname _ _ _ _ _ _ (pv 0) (@pa_cint _ _ _ _ _ _ pa_nil))) pe_int (nomark _)))))) (@pss_one _ _ _ (@ps_setL _ 5 _ _ _ _ _ _ sc_law_def.nd (by rfl) (Or.inl rfl) (pa_cons (pe_tup (@pa_cstr _ _ _ _ _ _ (@pa_cint _ _ _ _ _ _ pa_nil))) pa_nil) (by first | exact .inl (by rfl) | exact .inr (by rfl) | assumption))) pss_nil)
      (@pss_one _ _ _ (ps_ret (pe_tup (@pa_cname _ _ _ _ _ _ (pv 1) (@pa_cname _ _ _ _ _ _ (pv 2) (@pa_cname _ _ _ _ _ _ (pv 3) (@pa_cname _ _ _ _ _ _ (pv 5) pa_nil)))))))))))), ?_⟩
    generalize hG : tSeq (tAsg (tLst _) _) _ = tail
    simp! []
    refine ⟨b, c, cs, 17, rfl, hb, by decide, by decide, fun w H1 w0 w1 hb1 k1 => ?_⟩
    simp! [tDisp, tPairs, tC]
    intro d nd
    have ndb : d ≠ b := (hb1.apart nd).1
    have ndc : d ≠ c := (hb1.apart nd).2
    have fin : ∀ (rl : Addr) (rs : List Addr) (rows : List (List V)) (H' : Hp), RwAt H' rl rs rows → rows.length ≤ 3 → (∀ r ∈ rows, r.length ≤ 3 ∧ ∀ v ∈ r, ScOk v) → H rl = none → BagAt H' b c cs → Kp b H H' → ∀ p, H' p = none → Q (.ref p) (upd H' p (.tup [.str takes, .str gives, .int w, .ref rl])) := by
      intro rl rs rows H' RW l3 sc nrl hb' k' p np
      refine q p rl rs ⟨takes, gives, w, rows⟩ _ rfl ⟨nt, ng, w0, by show w ≤ 16; omega, l3, sc⟩ ⟨upd_same, RW.fr (M := fun _ => False) (.laid np) id⟩ nrl (hb'.laid np) (k'.laid np)
    have key : ∀ (q : Addr) (r : List V) (H3 : Hp), H3 q = some (.tup r) → (r.length ≤ 3 ∧ ∀ v ∈ r, ScOk v) → BagAt H3 b c cs → Kp b H H3 → tail { nx := fun x H' => Q V.non H', rt := Q } [some (V.ref b), some (V.str takes), some (V.str gives), some (V.int w), some (.ref q), none] H3 := by
      clear hb1 k1 nd ndb ndc
      intro q r H3 hq ro hb3 k3
      subst hG
      generalize hG : tSeq (tIfS (tAnd _ _) _ _) _ = tail2
      have key2 : ∀ (rl : Addr) (rs : List Addr) (rows : List (List V)) (H' : Hp), RwAt H' rl rs rows → rows.length ≤ 3 → (∀ r ∈ rows, r.length ≤ 3 ∧ ∀ v ∈ r, ScOk v) → H rl = none → BagAt H' b c cs → Kp b H H' → tail2 { nx := fun x H' => Q V.non H', rt := Q } [some (V.ref b), some (V.str takes), some (V.str gives), some (V.int w), some (.ref q), some (.ref rl)] H' := by
        intro rl rs rows H' RW l3 sc nrl hb' k'
        have f0 := fin rl rs rows H' RW l3 sc nrl hb' k'
        subst hG
        simp! []
        refine ite2 (fun ne => ?_) fun _ => f0
        have tl := str_pos ne
        have t6 := nt.1
        refine ⟨takes, 0, takes.cps.toList[0], rfl, rfl, by rw [sizeLine_eq]; show takes.cps.size ≤ _; omega, atI_nat (j := 0) (List.getElem?_eq_getElem tl), rfl, ite2 (fun _ => ?_) fun _ => f0⟩
        refine ⟨b, c, cs, 2, rfl, hb', by decide, by decide, fun y H4 y0 y1 hb4 k4 => ⟨rfl, ite2 (fun _ => ?_) fun _ => ?_⟩⟩
        · intro p1 n1 p2 n2
          have K4 := ((k'.trans k4).laid n1 (u := .tup [V.str (Str.ofString "back"), V.int 0])).laid n2 (u := .lst [.ref p1])
          have B4 := (hb4.laid n1 (u := .tup [V.str (Str.ofString "back"), V.int 0])).laid n2 (u := .lst [.ref p1])
          refine fin p2 [p1] [[V.str (Str.ofString "back"), V.int 0]] _ (.one upd_same (upd_old upd_same n2)) (by simp) (fun r hr => by rw [List.mem_singleton.mp hr]; exact sc_back) ?_ B4 K4
          exact none_of_kp ((k'.trans k4).laid n1) ((hb4.laid n1).apart n2).1 n2
        · exact fin rl rs rows H4 (RW.fr (hb'.kfr' k4) (hb.apart nrl).1) l3 sc nrl hb4 (k'.trans k4)
      clear hG
      simp! []
      intro p1 n1 p2 n2 p3 n3
      have hq1 := upd_old (u := .tup [V.str (Str.ofString "rest")]) hq n1
      have hq2 := upd_old (u := .tup [V.str (Str.ofString "back"), V.int 7]) hq1 n2
      have hq3 := upd_old (u := .lst [.ref q, .ref p1, .ref p2]) hq2 n3
      have B3 := ((hb3.laid n1 (u := .tup [V.str (Str.ofString "rest")])).laid n2 (u := .tup [V.str (Str.ofString "back"), V.int 7])).laid n3 (u := .lst [.ref q, .ref p1, .ref p2])
      have K2 := (k3.laid n1 (u := .tup [V.str (Str.ofString "rest")])).laid n2 (u := .tup [V.str (Str.ofString "back"), V.int 7])
      have K3 := K2.laid n3 (u := .lst [.ref q, .ref p1, .ref p2])
      have np3 : H p3 = none := none_of_kp K2 (((hb3.laid n1).laid n2).apart n3).1 n3
      have R3 : RwAt (upd (upd (upd H3 p1 (.tup [V.str (Str.ofString "rest")])) p2 (.tup [V.str (Str.ofString "back"), V.int 7])) p3 (.lst [.ref q, .ref p1, .ref p2])) p3 [q, p1, p2] [r, [V.str (Str.ofString "rest")], [V.str (Str.ofString "back"), V.int 7]] := .three upd_same hq3 (upd_old (upd_old upd_same n2) n3) (upd_old upd_same n3)
      revert B3 K3 R3 hq3
      generalize upd (upd (upd H3 p1 (.tup [V.str (Str.ofString "rest")])) p2 (.tup [V.str (Str.ofString "back"), V.int 7])) p3 (.lst [.ref q, .ref p1, .ref p2]) = H5
      intro hq5 B5 K5 R5
      refine ⟨b, c, cs, 3, rfl, B5, by decide, by decide, fun y H6 y0 y1 hb6 k6 => ⟨rfl, ite2 (fun _ => ?_) fun _ => ?_⟩⟩
      · intro p4 n4 p5 n5
        have F6 := B5.kfr' k6
        have hq6 := F6.tups _ _ hq5
        have hq8 := upd_old (u := .lst [.ref q, .ref p4]) (upd_old (u := .tup [V.str (Str.ofString "back"), V.int 7]) hq6 n4) n5
        refine key2 p5 [q, p4] [r, [V.str (Str.ofString "back"), V.int 7]] _ (.two upd_same hq8 (upd_old upd_same n5)) (by simp) (fun x hx => ?_) (none_of_kp ((K5.trans k6).laid n4) ((hb6.laid n4).apart n5).1 n5) ((hb6.laid n4).laid n5) (((K5.trans k6).laid n4).laid n5)
        rcases List.mem_cons.mp hx with rfl | hx
        · exact ro
        · rw [List.mem_singleton.mp hx]; exact sc_back
      · refine key2 p3 [q, p1, p2] _ H6 (R5.fr (B5.kfr' k6) (hb.apart np3).1) (by simp) (fun x hx => ?_) np3 hb6 (K5.trans k6)
        rcases List.mem_cons.mp hx with rfl | hx
        · exact ro
        rcases List.mem_cons.mp hx with rfl | hx
        · exact sc_rest
        · rw [List.mem_singleton.mp hx]; exact sc_back
    refine ⟨b, c, cs, rfl, hb1.laid nd, fun x H2 hb2 k2 t1 n1 t2 n2 => ?_⟩
    have hd2 := k2 _ _ (upd_same : upd H1 d (HO.dK []) d = _) ndb
    have hd2' := upd_old (u := .tup [V.str (Str.ofString "put"), V.int 7, .int x]) hd2 n1
    have e1 : t1 ≠ d := fun e => by rw [e, hd2] at n1; cases n1
    have e2 : t2 ≠ d := fun e => by rw [e, hd2'] at n2; cases n2
    refine ⟨upd_old hd2' n2, [(.inr "n", .ref t1), (.inr "h", .ref t2)], rfl, Nat.le_of_ble_eq_true rfl, ?_⟩
    rw [show mergeK [] [((.inr "n" : Key), V.ref t1), (.inr "h", V.ref t2)] = [((.inr "n" : Key), V.ref t1), (.inr "h", V.ref t2)] from rfl]
    have K3 : Kp b H (upd (upd (upd H2 t1 (.tup [V.str (Str.ofString "put"), V.int 7, .int x])) t2 (.tup [V.str (Str.ofString "nil"), V.int 7])) d (.dK [((.inr "n" : Key), V.ref t1), (.inr "h", V.ref t2)])) := k1.trans (((((Kp.refl.laid nd).trans k2).laid n1).laid n2).new nd)
    have B3 : BagAt (upd (upd (upd H2 t1 (.tup [V.str (Str.ofString "put"), V.int 7, .int x])) t2 (.tup [V.str (Str.ofString "nil"), V.int 7])) d (.dK [((.inr "n" : Key), V.ref t1), (.inr "h", V.ref t2)])) b c cs := ((hb2.laid n1).laid n2).other ndb ndc
    rcases ng with eg | eg
    · exact ⟨.ref t1, by rw [eg]; rfl, key t1 _ _ (by rw [upd_ne e1]; exact upd_old upd_same n2) sc_put B3 K3⟩
    · exact ⟨.ref t2, by rw [eg]; rfl, key t2 _ _ (by rw [upd_ne e2]; exact upd_same) sc_nil B3 K3⟩

end
end Law

namespace Law
open PySem L2
local macro_rules | `(tactic| simp! [$ls,*]) => `(tactic| simp only [tSeq, tAsg, gName, tVar, tC, tOp, tUn, rI0, rI, rU, tCB, tCons, tNil, tRet, tRetN, tIfS, tTest, tB, tAnd, tOr, tNot, tAndV, tOrV, tNotV, tIf, tDrop, tNext, tCall, tMeth, tIsN, tNotN, L2.start, List.map_cons, List.map_nil, List.length_cons, List.length_nil, List.nil_append, List.cons_append, List.append_nil, Nat.reduceAdd, Nat.reduceSub, Nat.sub_self, List.replicate_succ, List.replicate_zero, List.set_cons_zero, List.set_cons_succ, List.getElem?_cons_zero, List.getElem?_cons_succ, Option.some.injEq, V.int.injEq, V.bl.injEq, V.str.injEq, V.ref.injEq, List.cons.injEq, exists_eq_left', exists_eq_left, exists_and_left, and_true, true_and, if_true, if_false, ite_true, ite_false, Bool.true_eq_false, Bool.false_eq_true, decide_eq_true_eq, Bool.not_true, Bool.not_false, Bool.not_eq_true', decide_eq_false_iff_not, reduceCtorEq, false_and, and_false, exists_false, tTup, tLst, sizeLine_eq, Nat.reduceLeDiff, Nat.zero_le, rEq, rNe, rIxF, rEqF, gSub, rSetL, HO.lst.injEq, HO.tup.injEq, HO.ins.injEq, HO.dK.injEq, scal_int, scal_bl, scal_str, tyF_ref, tyF_int, tyF_bl, tyF_str, tyF_non, lenF_ref, seqV_eq, kindV_eq, tyO_lst, tyO_frz, tyO_tup, tyO_dK, lenO_lst, lenO_frz, lenO_tup, seqO_lst, seqO_frz, seqO_tup, kindO_lst, kindO_frz, kindO_tup, isTys, and_assoc, atI_0, atI_1, atI_2, atI_3, atI_4, upd_same, V.ty.injEq, eq_self_iff_true, and_self, String.reduceEq, or_false, or_true, false_or, true_or, Bool.or_true, Bool.or_false, Bool.true_or, Bool.false_or, Bool.and_false, Bool.false_and, Bool.and_true, Bool.true_and, String.reduceBEq, beq_self_eq_true, tDGetF, tDInF, tDNotInF, sDPutF, keyOf_int, keyOf_str, sFld, tFld, tDNewK, tRaise, tMethE, EX, tFstr, tMake, cxOf_K, Nat.reduceLT, Option.join_some, Option.join_none, not_true_eq_false, not_false_eq_true, gCons, gNil, tChain, rEqE, tAug, ipI, $ls,*])
section
variable {P : Program} {w : World} {K : PySem.W.Frag} {mg : Str → Option Value} {base : Heap} {a : Ad}

abbrev DA := Addr × Addr × List Addr
structure PgAt (H : Hp) (pl : Addr) (das : List DA) (ds : List Df) : Prop where
  top : H pl = some (.lst (das.map fun a => V.ref a.1))
  len : das.length = ds.length
  def_ : ∀ (i : Nat) (a : DA) (d : Df), das[i]? = some a → ds[i]? = some d → DfAt H a.1 a.2.1 a.2.2 d
theorem PgAt.fr {H H' : Hp} {M : Addr → Prop} {pl : Addr} {das : List DA} {ds : List Df} (x : PgAt H pl das ds) (f : Fr M H H') (n : ¬ M pl) (ns : ∀ a ∈ das, ¬ M a.2.1) : PgAt H' pl das ds := ⟨f.keep _ _ x.top n, x.len, fun i a d h1 h2 => (x.def_ i a d h1 h2).fr f (ns a (List.mem_of_getElem? h1))⟩
theorem PgAt.same {H H' : Hp} {pl : Addr} {das : List DA} {ds : List Df} (x : PgAt H pl das ds) (S : Same H H') : PgAt H' pl das ds := x.fr (M := fun _ => False) (.of_same S) id fun _ _ => id
theorem PgAt.snoc {H : Hp} {pl p rl : Addr} {rs : List Addr} {das : List DA} {ds : List Df} {d : Df} (x : PgAt H pl das ds) (y : DfAt H p rl rs d) (n : ∀ a ∈ das, a.2.1 ≠ pl) (nr : rl ≠ pl) : PgAt (upd H pl (.lst (das.map (fun a => V.ref a.1) ++ [.ref p]))) pl (das ++ [(p, rl, rs)]) (ds ++ [d]) := by
  have F : Fr (· = pl) H (upd H pl (.lst (das.map (fun a => V.ref a.1) ++ [.ref p]))) := .put rfl (notTup_lst x.top)
  refine ⟨by rw [upd_same, List.map_append]; rfl, by rw [List.length_append, List.length_append, x.len]; rfl, fun j aj dj h1 h2 => ?_⟩
  by_cases c : j < ds.length
  · rw [List.getElem?_append_left c] at h2
    rw [List.getElem?_append_left (by rw [x.len]; exact c)] at h1
    exact (x.def_ j aj dj h1 h2).fr F (n aj (List.mem_of_getElem? h1))
  · have e : j = ds.length := by
      have := (List.getElem?_eq_some_iff.mp h2).1
      rw [List.length_append, List.length_singleton] at this
      omega
    rw [e] at h1 h2
    rw [List.getElem?_append_right (Nat.le_refl _), Nat.sub_self] at h2
    rw [← x.len, List.getElem?_append_right (Nat.le_refl _), Nat.sub_self] at h1
    cases h1
    cases h2
    exact y.fr F nr
def sp_program : Sp := fun vs H Q _ => ∃ (b c : Addr) (cs : List Int), vs = [.ref b] ∧ BagAt H b c cs ∧
  ∀ (pl : Addr) (das : List DA) (ds : List Df) (H' : Hp), PgAt H' pl das ds → (∀ d ∈ ds, DfOk d) → 0 < ds.length → ds.length ≤ 8 → H pl = none → (∀ a ∈ das, H a.2.1 = none) → BagAt H' b c cs → Kp b H H' → Q (.ref pl) H'
theorem nh_of {c : Nat} (h : NH c) : (⟨#[c]⟩ : Str) = "n" ∨ (⟨#[c]⟩ : Str) = "h" := by
  rcases h with rfl | rfl
  · exact .inl rfl
  · exact .inr rfl
set_option maxHeartbeats 2000000 in
theorem ok_law_program (T : Txt K mg a) : FnOk P w K mg base CX0 4 a.f_law_program a.d_law_program ["bag"] sp_program := by
  refine T.F_law_program.okC sc_law_program (fun vs H Q E h => ?_) (fun cdv A outer s H vs Q E hr h => ?_)
  · obtain ⟨b, c, cs, rfl, _⟩ := h
    rfl
  · obtain ⟨b, c, cs, rfl, hb, q⟩ := h
    have hu := hu_of hr
    refine ⟨_, (@pss_cons _ _ _ _ _ (ps_set (i := 1) sc_law_program.nd (by rfl) (Or.inl rfl) (pe_op op_add pe_int (pe_call (ok_law_draw T) (hr.mono (by decide)) (by rfl) T.m_law_draw T.F_law_draw.kp T.b_law_draw .nil pass0 (@pa_cname _ _ _ _ _ _ (pv 0) (@pa_cint _ _ _ _ _ _ pa_nil)))))
      (@pss_cons _ _ _ _ _ (@ps_setL _ 2 _ _ _ _ _ _ sc_law_program.nd (by rfl) (Or.inl rfl) (pa_cons (pe_call (ok_law_def T) (hr.mono (by decide)) (by rfl) T.m_law_def T.F_law_def.kp T.b_law_def .nil pass0 (@pa_cname _ _ _ _ _ _ (pv 0) (pa_cons (pe_slice sl_str pe_str po_none (po_some (pe_call (ok_law_draw T) (hr.mono (by decide)) (by rfl) T.m_law_draw T.F_law_draw.kp T.b_law_draw .nil pass0 (@pa_cname _ _ _ _ _ _ (pv 0) (@pa_cint _ _ _ _ _ _ pa_nil))))) (@pa_cstr _ _ _ _ _ _ pa_nil)))) pa_nil) (by first | exact .inl (by rfl) | exact .inr (by rfl) | assumption))
      (@pss_cons _ _ _ _ _ (ps_for PassesOwn.never (by rfl) (pi_range1 (by rfl) T.z_range (pa_cons (pe_op op_sub (pv 1) pe_int) pa_nil)) (pg_name (i := 3) sc_law_program.nd (by rfl) (Or.inl rfl))
      (@pss_one _ _ _ (ps_expr (pe_bm PySem.F.plainAttrs_list PySem.F.slot_list_append PySem.F.type_list_append mt_append (pv 2) (pa_cons (pe_call (ok_law_def T) (hr.mono (by decide)) (by rfl) T.m_law_def T.F_law_def.kp T.b_law_def .nil pass0 (@pa_cname _ _ _ _ _ _ (pv 0) (pa_cons (pe_call (ok_law_letters T) (hr.mono (by decide)) (by rfl) T.m_law_letters T.F_law_letters.kp T.b_law_letters .nil pass0 (@pa_cname _ _ _ _ _ _ (pv 0) (pa_cons (pe_call (ok_law_draw T) (hr.mono (by decide)) (by rfl) T.m_law_draw T.F_law_draw.kp T.b_law_draw .nil pass0 (@pa_cname _ _ _ _ _ _ (pv 0) (@pa_cint _ _ _ _ _ _ pa_nil))) pa_nil))) (pa_cons (pe_ix ix_str pe_str (pe_call (ok_law_draw T) (hr.mono (by decide)) (by rfl) T.m_law_draw T.F_law_draw.kp T.b_law_draw .nil pass0 (@pa_cname _ _ _ _ _ _ (pv 0) (@pa_cint _ _ _ _ _ _ pa_nil))) (fun _ _ => rfl)) pa_nil)))) pa_nil)))))
      (@pss_one _ _ _ (ps_ret (pv 2)))))), ?_⟩
    simp! []
    refine ⟨b, c, cs, 8, rfl, hb, by decide, by decide, fun m H1 m0 m1 hb1 k1 => ?_⟩
    simp! [tSl, tNoPart, tPart, rSlS]
    refine ⟨b, c, cs, 7, rfl, hb1, by decide, by decide, fun dd H2 d0 d1 hb2 k2 => ⟨dd, rfl, by decide, ?_⟩⟩
    obtain ⟨dN, rfl⟩ := Int.eq_ofNat_of_zero_le d0
    obtain ⟨z1, z2⟩ := six_n dN (by omega)
    revert z1 z2
    generalize PySem.Txt.slice (Str.ofString "nnnnnn") none (some (dN : Int)) = t0
    intro z1 z2
    refine ⟨b, c, cs, t0, _, rfl, hb2, ⟨z1, fun x hx => .inl (z2 x hx)⟩, .inl rfl, fun p rl rs d H3 _ OK0 D0 nrl hb3 k3 pl npl => ?_⟩
    have k13 := (k1.trans k2).trans k3
    obtain ⟨nplb, nplc⟩ := hb3.apart npl
    have npl0 : H pl = none := none_of_kp k13 nplb npl
    have nrl0 : H rl = none := none_of_kp (k1.trans k2) (hb2.apart nrl).1 nrl
    have nrp : rl ≠ pl := fun e => by
      have := D0.rows.top
      rw [e, npl] at this; cases this
    refine for1 (H1 := upd H3 pl (.lst [V.ref p])) (1 + m - 1) (fun Q2 h2 => by simp! []; exact h2) (by omega) (by omega) (fun i σ H4 => ∃ (das : List DA) (ds : List Df) (v3 : Option V), σ = [some (.ref b), some (.int (1 + m)), some (.ref pl), v3] ∧ PgAt H4 pl das ds ∧ ds.length = i + 1 ∧ (∀ d ∈ ds, DfOk d) ∧ (∀ a ∈ das, H a.2.1 = none ∧ a.2.1 ≠ pl) ∧ BagAt H4 b c cs ∧ Kp b H H4)
      ⟨[(p, rl, rs)], [d], _, rfl, ⟨upd_same, rfl, fun i a' d' h1 h2 => ?_⟩, rfl, (fun x hx => by rw [List.mem_singleton.mp hx]; exact OK0), (fun x hx => by rw [List.mem_singleton.mp hx]; exact ⟨nrl0, nrp⟩), hb3.laid npl, k13.laid npl⟩ ?_ ?_
    · match i, h1, h2 with
      | 0, h1, h2 => cases h1; cases h2; exact D0.fr (M := fun _ => False) (.laid npl) id
      | i + 1, h1, h2 => simp at h1
    · rintro i σ H4 hi ⟨das, ds, v3, rfl, PG, ld, OK, nd, hb4, k4⟩
      have topp := PG.top
      have lp := PG.len
      simp! [tBM, topp]
      refine ⟨.inl ⟨rfl, _, .of topp⟩, ?_⟩
      refine ⟨b, c, cs, 7, rfl, hb4, by decide, by decide, fun x H5 x0 x1 hb5 k5 => ?_⟩
      refine ⟨b, c, cs, x, rfl, hb5, x0, x1, fun z H6 nz hb6 k6 => ?_⟩
      refine ⟨b, c, cs, 2, rfl, hb6, by decide, by decide, fun y H7 y0 y1 hb7 k7 => ?_⟩
      obtain ⟨yN, rfl⟩ := Int.eq_ofNat_of_zero_le y0
      obtain ⟨ch, hc1, hc2⟩ := nh_pick yN y1
      refine ⟨_, _, ch, rfl, rfl, by decide, hc1, ?_⟩
      refine ⟨b, c, cs, z, _, rfl, hb7, nz, nh_of hc2, fun p' rl' rs' d' H8 _ OK8 D8 nrl8 hb8 k8 => ?_⟩
      have k47 := (k5.trans k6).trans k7
      have k48 := k47.trans k8
      have PG8 := PG.fr (hb4.kfr' k48) nplb (fun a ha => (hb.apart (nd a ha).1).1)
      have nrl80 : H rl' = none := none_of_kp (k4.trans k47) (hb7.apart nrl8).1 nrl8
      have nrp8 : rl' ≠ pl := fun e => by
        rw [e] at nrl8
        rw [k47 _ _ topp nplb] at nrl8
        cases nrl8
      have PG9 := PG8.snoc D8 (fun a ha => (nd a ha).2) nrp8
      refine ⟨pl, _, _, rfl, rfl, PG8.top, by rw [sizeLine_eq, List.length_map]; omega, das ++ [(p', rl', rs')], ds ++ [d'], PG9, by rw [List.length_append, ld]; rfl, fun x hx => ?_, fun x hx => ?_, hb8.other nplb nplc, (k4.trans k48).new npl0⟩
      · rcases List.mem_append.mp hx with hx | hx
        · exact OK x hx
        · rw [List.mem_singleton.mp hx]; exact OK8
      · rcases List.mem_append.mp hx with hx | hx
        · exact nd x hx
        · rw [List.mem_singleton.mp hx]; exact ⟨nrl80, nrp8⟩
    · rintro σ H4 ⟨das, ds, v3, rfl, PG, ld, OK, nd, hb4, k4⟩
      simp! []
      exact q pl das ds H4 PG OK (by omega) (by omega) npl0 (fun a ha => (nd a ha).1) hb4 k4

end
end Law

namespace Law
open PySem L2
local macro_rules | `(tactic| simp! [$ls,*]) => `(tactic| simp only [tSeq, tAsg, gName, tVar, tC, tOp, tUn, rI0, rI, rU, tCB, tCons, tNil, tRet, tRetN, tIfS, tTest, tB, tAnd, tOr, tNot, tAndV, tOrV, tNotV, tIf, tDrop, tNext, tCall, tMeth, tIsN, tNotN, L2.start, List.map_cons, List.map_nil, List.length_cons, List.length_nil, List.nil_append, List.cons_append, List.append_nil, Nat.reduceAdd, Nat.reduceSub, Nat.sub_self, List.replicate_succ, List.replicate_zero, List.set_cons_zero, List.set_cons_succ, List.getElem?_cons_zero, List.getElem?_cons_succ, Option.some.injEq, V.int.injEq, V.bl.injEq, V.str.injEq, V.ref.injEq, List.cons.injEq, exists_eq_left', exists_eq_left, exists_and_left, and_true, true_and, if_true, if_false, ite_true, ite_false, Bool.true_eq_false, Bool.false_eq_true, decide_eq_true_eq, Bool.not_true, Bool.not_false, Bool.not_eq_true', decide_eq_false_iff_not, reduceCtorEq, false_and, and_false, exists_false, tTup, tLst, sizeLine_eq, Nat.reduceLeDiff, Nat.zero_le, rEq, rNe, rIxF, rEqF, gSub, rSetL, HO.lst.injEq, HO.tup.injEq, HO.ins.injEq, HO.dK.injEq, scal_int, scal_bl, scal_str, tyF_ref, tyF_int, tyF_bl, tyF_str, tyF_non, lenF_ref, seqV_eq, kindV_eq, tyO_lst, tyO_frz, tyO_tup, tyO_dK, lenO_lst, lenO_frz, lenO_tup, seqO_lst, seqO_frz, seqO_tup, kindO_lst, kindO_frz, kindO_tup, isTys, and_assoc, atI_0, atI_1, atI_2, atI_3, atI_4, upd_same, V.ty.injEq, eq_self_iff_true, and_self, String.reduceEq, or_false, or_true, false_or, true_or, Bool.or_true, Bool.or_false, Bool.true_or, Bool.false_or, Bool.and_false, Bool.false_and, Bool.and_true, Bool.true_and, String.reduceBEq, beq_self_eq_true, tDGetF, tDInF, tDNotInF, sDPutF, keyOf_int, keyOf_str, sFld, tFld, tDNewK, tRaise, tMethE, EX, tFstr, tMake, cxOf_K, Nat.reduceLT, Option.join_some, Option.join_none, not_true_eq_false, not_false_eq_true, gCons, gNil, tChain, rEqE, tAug, ipI, $ls,*])
section
variable {P : Program} {w : World} {K : PySem.W.Frag} {mg : Str → Option Value} {base : Heap} {a : Ad}

/-- the data of a program -/
def rwD (r : List V) : PyData := .tuple (r.map toD)
def dfD (d : Df) : PyData := .tuple [.str d.takes, .str d.gives, .int d.w, .list (d.rows.map rwD)]
def pgD (ds : List Df) : PyData := .list (ds.map dfD)
def sp_outcome (CH CY : Addr) : Sp := fun vs H Q _ => ∃ (x dx pr bx pi fr nw : Addr) (y : Yd) (boxes pile : List Int) (start : Int), vs = [.ref x] ∧ HandAt CH CY H x dx pr bx pi fr nw y boxes pile start ∧
  ∀ (p t l : Addr) (H' : Hp), Same H H' → H' p = some (.tup [.ref t, .ref l]) → H' t = some (.tup [.str "far", .int 0, .int 0]) → H' l = some (.lst []) → Q (.ref p) H'
set_option maxHeartbeats 2000000 in
theorem ok_outcome (T : Txt K mg a) : FnOk P w K mg base CX0 1 a.f_outcome a.d_outcome ["hand"] (sp_outcome a.c_Hand a.c_Yard) := by
  refine T.F_outcome.okC sc_outcome (fun vs H Q E h => ?_) (fun cdv A outer s H vs Q E hr h => ?_)
  · obtain ⟨x, dx, pr, bx, pi, fr, nw, y, boxes, pile, start, rfl, _⟩ := h
    rfl
  · obtain ⟨x, dx, pr, bx, pi, fr, nw, y, boxes, pile, start, rfl, HA, q⟩ := h
    have hu := hu_of hr
    refine ⟨_, (@pss_cons _ _ _ _ _ (ps_set (i := 1) sc_outcome.nd (by rfl) (Or.inl rfl) (pe_fld (pv 0) (by rfl)))
      (@pss_cons _ _ _ _ _ (@ps_if _ _ _ _ _ _ _ _ (pt_cmp (pc_isN (pv 1))) (@pss_one _ _ _ (ps_set (i := 1) sc_outcome.nd (by rfl) (Or.inl rfl) (pe_tup (@pa_cstr _ _ _ _ _ _ (pa_cons (pe_fld (pv 0) (by rfl)) (pa_cons (pe_fld (pv 0) (by rfl)) pa_nil)))))) pss_nil)
      (@pss_one _ _ _ (ps_ret (pe_tup (@pa_cname _ _ _ _ _ _ (pv 1) (pa_cons (pe_callTy call_list_of (by rfl) T.z_list (by decide +kernel) (pa_cons (pe_fld (pv 0) (by rfl)) pa_nil)) pa_nil))))))), ?_⟩
    obtain ⟨g1, g2, g3, g4, g5, g6, g7, g8, g9⟩ := hF_get (pr := pr) (bx := bx) (pi := pi) (fr := fr) (yd := y.p) (nw := nw)
    have hx := HA.ins
    simp! [T.cl_Hand, T.n_program, T.n_f, T.n_at, T.n_boxes, T.n_pile, T.n_frames, T.n_yard, T.n_news, T.n_end, hx, g1, g2, g3, g4, g5, g6, g7, g8, g9]
    intro t nt
    refine ⟨_, _, _, upd_old hx nt, T.cl_Hand, T.n_news, _, g8, nw, rfl, _, .inl (.of (upd_old HA.nw nt)), fun l nl p np => ?_⟩
    exact q p t l _ (((Same.laid nt).step nl).step np) upd_same (upd_old (upd_old upd_same nl) np) (upd_old upd_same np)
def sp_run (CH CY : Addr) : Sp := fun vs H Q _ => ∃ (pl il p0 : Addr) (vp : List V) (t0 t1 t3 : V) (ws st : Int) (ins : List Int), vs = [.ref pl, .ref il, .int 0, .int st] ∧ H pl = some (.lst (.ref p0 :: vp)) ∧ H p0 = some (.tup [t0, t1, .int ws, t3]) ∧ H il = some (.lst (ins.map V.int)) ∧ ins.length ≤ 8 ∧ 0 ≤ ws ∧ ws ≤ 16 ∧
  ∀ (p t l : Addr) (H' : Hp), Same H H' → H' p = some (.tup [.ref t, .ref l]) → H' t = some (.tup [.str "far", .int 0, .int 0]) → H' l = some (.lst []) → Q (.ref p) H'
set_option maxHeartbeats 2000000 in
theorem ok_run (T : Txt K mg a) : FnOk P w K mg base CX0 5 a.f_run a.d_run ["program", "inputs", "most", "start"] (sp_run a.c_Hand a.c_Yard) := by
  refine T.F_run.okC sc_run (fun vs H Q E h => ?_) (fun cdv A outer s H vs Q E hr h => ?_)
  · obtain ⟨pl, il, p0, vp, t0, t1, t3, ws, st, ins, rfl, _⟩ := h
    rfl
  · obtain ⟨pl, il, p0, vp, t0, t1, t3, ws, st, ins, rfl, hpl, hp0, hil, li, w0, w16, q⟩ := h
    have hu := hu_of hr
    refine ⟨_, (@pss_cons _ _ _ _ _ (ps_set (i := 4) sc_run.nd (by rfl) (Or.inl rfl) (pe_make T.M_Hand (ok_Hand___init T) (hr.mono (by decide)) (by rfl) T.m_Hand T.b_Hand___init .nil pass0 (@pa_cname _ _ _ _ _ _ (pv 0) (@pa_cname _ _ _ _ _ _ (pv 1) (@pa_cname _ _ _ _ _ _ (pv 3) pa_nil)))))
      (@pss_cons _ _ _ _ _ (ps_set (i := 5) sc_run.nd (by rfl) (Or.inl rfl) pe_int)
      (@pss_cons _ _ _ _ _ (ps_while PassesOwn.never (PW.pt (pw_and (pt_cmp (pc_isN (pe_fld (pv 4) (by rfl)))) (pw_and1 (pt_cmpR op_lt (pv 5) (pv 2) (nomark _))))) (@pss_cons _ _ _ _ _ (ps_expr (pe_meth0 (pv 4) T.cl_Hand T.M_Hand_go (ok_Hand_go T) (hr.mono (by decide)) T.b_Hand_go .nil pass0))
      (@pss_one _ _ _ (ps_aug (i := 5) sc_run.nd (by rfl) (Or.inl rfl) pe_int ip_add))))
      (@pss_one _ _ _ (ps_ret (pe_call (ok_outcome T) (hr.mono (by decide)) (by rfl) T.m_outcome T.F_outcome.kp T.b_outcome .nil pass0 (@pa_cname _ _ _ _ _ _ (pv 4) pa_nil))))))), ?_⟩
    simp! []
    intro x dx nx ndx ne
    have A0 : Same H (upd (upd H dx (.own x)) x (.ins a.c_Hand dx [])) := fun r o e => by
      rw [upd_ne (ne_of_none e nx), upd_ne (ne_of_none e ndx)]; exact e
    refine ⟨x, dx, pl, il, p0, vp, t0, t1, t3, ws, st, ins, rfl, upd_same, A0 _ _ hpl, A0 _ _ hp0, A0 _ _ hil, li, w0, w16, fun bx pi fr nw y H2 HA F2 => ⟨rfl, ?_⟩⟩
    have S2 : Same H H2 := fun r o e => F2.keep r o (A0 _ _ e) (ne_of_none e nx)
    obtain ⟨g1, g2, g3, g4, g5, g6, g7, g8, g9⟩ := hF_get (pr := pl) (bx := bx) (pi := pi) (fr := fr) (yd := y.p) (nw := nw)
    have hx := HA.ins
    refine ⟨fun m σ H' => σ = [some (V.ref pl), some (V.ref il), some (V.int 0), some (V.int st), some (V.ref x), some (V.int 0)] ∧ H' = H2, ⟨0, rfl, rfl⟩, ?_⟩
    rintro m σ H' ⟨rfl, rfl⟩
    simp! [T.cl_Hand, T.n_end, hx, g9]
    rw [if_neg (by decide)]
    exact ⟨x, dx, pl, bx, pi, fr, nw, y, _, _, st, rfl, HA, fun p t l H3 S3 => q p t l H3 (S2.trans S3)⟩
theorem rep_m1 : ∀ n : Nat, (List.replicate n [V.int (-1)]).flatten = (List.replicate n (-1 : Int)).map V.int := fun n => by
  induction n with
  | zero => rfl
  | succ n ih => rw [List.replicate_succ, List.flatten_cons, ih, List.replicate_succ]; rfl
theorem cut_eight {xs : List V} (h : 8 ≤ xs.length) : cutV xs none (some 8) = xs.take 8 := by
  unfold cutV HT.sIx
  simp
theorem take_eight {ins : List Int} (h : ins.length ≤ 8) : (ins ++ List.replicate 8 (-1)).take 8 = ins ++ List.replicate (8 - ins.length) (-1) := by
  rw [List.take_append, List.take_of_length_le h, List.take_replicate, Nat.min_eq_left (by omega)]
theorem nhs_ok {z : Str} (h : NHs z) : PyData.canLay0 (.str z) = true := by
  rw [PyData.canLay0]
  unfold PyData.strOk
  rw [← Array.all_toList, List.all_eq_true]
  intro c hc
  rcases h.2 c hc with rfl | rfl <;> rfl
theorem canAll {α : Type} {f : α → PyData} : ∀ {l : List α}, (∀ x ∈ l, PyData.canLay0 (f x) = true) → PyData.canLayAll0 (l.map f) = true
  | [], _ => by rw [List.map_nil, PyData.canLayAll0]
  | x :: l, h => by rw [List.map_cons, PyData.canLayAll0, h x List.mem_cons_self, canAll fun y hy => h y (List.mem_cons_of_mem _ hy)]; rfl
theorem depAll {α : Type} {f : α → PyData} {n : Nat} : ∀ {l : List α}, (∀ x ∈ l, PyData.depth (f x) ≤ n) → PyData.depthAll (l.map f) ≤ n
  | [], _ => by rw [List.map_nil, PyData.depthAll]; omega
  | x :: l, h => by
    have h1 := h x List.mem_cons_self
    have h2 := depAll fun y hy => h y (List.mem_cons_of_mem _ hy)
    rw [List.map_cons, PyData.depthAll]
    omega
theorem sc_can {v : V} (h : ScOk v) : PyData.canLay0 (toD v) = true := by
  rcases h with ⟨i, rfl⟩ | ⟨s, rfl, h⟩
  · simp [toD, PyData.canLay0]
  · show PyData.canLay0 (.str s) = true
    rw [PyData.canLay0]; exact h
theorem sc_dep {v : V} (h : ScOk v) : PyData.depth (toD v) ≤ 0 := by
  rcases h with ⟨i, rfl⟩ | ⟨s, rfl, h⟩ <;> simp [toD, PyData.depth]
theorem dfD_can {d : Df} (h : DfOk d) : PyData.canLay0 (dfD d) = true := by
  have h1 : PyData.canLay0 (.list (d.rows.map rwD)) = true := by
    rw [PyData.canLay0]
    exact canAll fun r hr => by
      unfold rwD
      rw [PyData.canLay0]
      exact canAll fun v hv => sc_can ((h.sc r hr).2 v hv)
  have h2 := nhs_ok h.takes
  have h3 : PyData.canLay0 (.str d.gives) = true := by
    rw [PyData.canLay0]
    rcases h.gives with e | e <;> rw [e] <;> decide +kernel
  have h4 : PyData.canLay0 (.int d.w) = true := by rw [PyData.canLay0]
  unfold dfD
  rw [PyData.canLay0]
  simp only [PyData.canLayAll0, h1, h2, h3, h4, Bool.and_self]
theorem dfD_dep {d : Df} (h : DfOk d) : PyData.depth (dfD d) ≤ 3 := by
  have h1 : PyData.depthAll (d.rows.map rwD) ≤ 1 := depAll fun r hr => by
    unfold rwD
    rw [PyData.depth]
    have := depAll (f := toD) (l := r) (n := 0) fun v hv => sc_dep ((h.sc r hr).2 v hv)
    omega
  unfold dfD
  simp only [PyData.depth, PyData.depthAll]
  omega
theorem pgD_can {ds : List Df} (h : ∀ d ∈ ds, DfOk d) : PyData.canLay0 (pgD ds) = true := by
  unfold pgD
  rw [PyData.canLay0]
  exact canAll fun d hd => dfD_can (h d hd)
theorem pgD_shaped {ds : List Df} (h : ∀ d ∈ ds, DfOk d) : SeqAt.shaped (pgD ds) = true := by
  unfold SeqAt.shaped
  rw [Bool.and_eq_true]
  refine ⟨pgD_can h, decide_eq_true ?_⟩
  have := depAll (f := dfD) (l := ds) (n := 3) fun d hd => dfD_dep (h d hd)
  unfold pgD
  rw [PyData.depth]
  omega
theorem pgD_eq {ds : List Df} (h : ∀ d ∈ ds, DfOk d) : PyData.eqv (pgD ds) (pgD ds) = true := SeqAt.eqv_refl _ (pgD_can h)
theorem RwAt.rep {H : Hp} {rl : Addr} {rs : List Addr} {rows : List (List V)} (x : RwAt H rl rs rows) (sc : ∀ r ∈ rows, r.length ≤ 3 ∧ ∀ v ∈ r, ScOk v) : RepD H (.ref rl) (.list (rows.map rwD)) := by
  refine .lst x.top (by rw [List.length_map, List.length_map, x.len]) fun i v d h1 h2 => ?_
  obtain ⟨q, hq, rfl⟩ := of_map_get h1
  rw [List.getElem?_map] at h2
  obtain ⟨r, hr, rfl⟩ := Option.map_eq_some_iff.mp h2
  refine .tup (x.row i q r hq hr) (by rw [List.length_map]) fun j v d h1 h2 => ?_
  rw [List.getElem?_map, h1] at h2
  cases h2
  rcases (sc r (List.mem_of_getElem? hr)).2 v (List.mem_of_getElem? h1) with ⟨i, rfl⟩ | ⟨s, rfl, _⟩
  · exact .int i
  · exact .str s
theorem DfAt.rep {H : Hp} {p rl : Addr} {rs : List Addr} {d : Df} (x : DfAt H p rl rs d) (ok : DfOk d) : RepD H (.ref p) (dfD d) := by
  refine .tup x.at_ rfl fun j v e h1 h2 => ?_
  match j, h1, h2 with
  | 0, h1, h2 => cases h1; cases h2; exact .str _
  | 1, h1, h2 => cases h1; cases h2; exact .str _
  | 2, h1, h2 => cases h1; cases h2; exact .int _
  | 3, h1, h2 => cases h1; cases h2; exact x.rows.rep ok.sc
  | j + 4, h1, h2 => simp at h1
theorem PgAt.rep {H : Hp} {pl : Addr} {das : List DA} {ds : List Df} (x : PgAt H pl das ds) (ok : ∀ d ∈ ds, DfOk d) : RepD H (.ref pl) (pgD ds) := by
  refine .lst x.top (by rw [List.length_map, List.length_map, x.len]) fun i v d h1 h2 => ?_
  obtain ⟨q, hq, rfl⟩ := of_map_get h1
  rw [List.getElem?_map] at h2
  obtain ⟨r, hr, rfl⟩ := Option.map_eq_some_iff.mp h2
  exact (x.def_ i q r hq hr).rep (ok r (List.mem_of_getElem? hr))
def sp_begun (CH CY : Addr) : Sp := fun vs H Q _ => ∃ (x dx pl nl bx pi fr nw : Addr) (y : Yd) (ins : List Int) (st : Int) (das : List DA) (ds : List Df) (d0 : Df), vs = [.ref x, .ref pl, .ref nl, .int st] ∧ HandAt CH CY H x dx pl bx pi fr nw y (ins ++ List.replicate (8 - ins.length) (-1)) (List.replicate d0.w.toNat (-1)) st ∧ PgAt H pl das ds ∧ ds[0]? = some d0 ∧ (∀ d ∈ ds, DfOk d) ∧ ds.length ≤ 8 ∧ H nl = some (.lst (ins.map V.int)) ∧ ins.length ≤ 8 ∧ ∀ H', Same H H' → Q (.bl true) H'
set_option maxHeartbeats 2000000 in
theorem ok_law_begun (T : Txt K mg a) : FnOk P w K mg base CX0 5 a.f_law_begun a.d_law_begun ["hand", "program", "numbers", "start"] (sp_begun a.c_Hand a.c_Yard) := by
  refine T.F_law_begun.okC sc_law_begun (fun vs H Q E h => ?_) (fun cdv A outer s H vs Q E hr h => ?_)
  · obtain ⟨x, dx, pl, nl, bx, pi, fr, nw, y, ins, st, das, ds, d0, rfl, _⟩ := h
    rfl
  · obtain ⟨x, dx, pl, nl, bx, pi, fr, nw, y, ins, st, das, ds, d0, rfl, HA, PG, h0, OK, l8, hnl, li, q⟩ := h
    have hu := hu_of hr
    refine ⟨_, (@pss_cons _ _ _ _ _ (@ps_if _ _ _ _ _ _ _ _ (PW.pt (pw_or (pt_not (pt_val (pe_call (ok_law_whole T) (hr.mono (by decide)) (by rfl) T.m_law_whole T.F_law_whole.kp T.b_law_whole .nil pass0 (pa_cons (pe_fld (pv 0) (by rfl)) pa_nil)))) (pw_or (pt_not (pt_val (pe_call (ok_law_whole T) (hr.mono (by decide)) (by rfl) T.m_law_whole T.F_law_whole.kp T.b_law_whole .nil pass0 (pa_cons (pe_fld (pv 0) (by rfl)) pa_nil)))) (pw_or (pt_cmpR op_ne (pe_fld (pv 0) (by rfl)) pe_int (nomark _)) (pw_or1 (pt_cmpR op_ne (pe_fld (pv 0) (by rfl)) pe_int (nomark _))))))) (@pss_one _ _ _ (ps_ret pe_bl)) pss_nil)
      (@pss_cons _ _ _ _ _ (@ps_if _ _ _ _ _ _ _ _ (PW.pt (pw_or (pt_not (pt_val (pe_call (ok_law_words T) (hr.mono (by decide)) (by rfl) T.m_law_words T.F_law_words.kp T.b_law_words .nil pass0 (pa_cons (pe_fld (pv 0) (by rfl)) (pa_cons (pe_slice sl_list (pe_op op_cat (pv 2) (pe_op op_rep (pe_lst (pa_cons (pe_un un_neg pe_int) pa_nil)) pe_int)) po_none (po_some pe_int)) pa_nil))))) (pw_or1 (pt_not (pt_val (pe_call (ok_law_words T) (hr.mono (by decide)) (by rfl) T.m_law_words T.F_law_words.kp T.b_law_words .nil pass0 (pa_cons (pe_fld (pv 0) (by rfl)) (pa_cons (pe_op op_rep (pe_lst (pa_cons (pe_un un_neg pe_int) pa_nil)) (pe_ix ix_F (pe_ix ix_F (pv 1) pe_int (fun _ _ => rfl)) pe_int (fun _ _ => rfl))) pa_nil)))))))) (@pss_one _ _ _ (ps_ret pe_bl)) pss_nil)
      (@pss_cons _ _ _ _ _ (@ps_if _ _ _ _ _ _ _ _ (PW.pt (pw_or (pt_cmpR (op_neE hu) (pe_fld (pv 0) (by rfl)) (pe_lst pa_nil) (nomark _)) (pw_or (pt_cmpR (op_neE hu) (pe_fld (pv 0) (by rfl)) (pe_lst pa_nil) (nomark _)) (pw_or (pt_cmp (pc_notN (pe_fld (pv 0) (by rfl)))) (pw_or1 (pt_cmpR (op_neP hr.units) (pe_fld (pv 0) (by rfl)) (pv 1) (nomark _))))))) (@pss_one _ _ _ (ps_ret pe_bl)) pss_nil)
      (@pss_one _ _ _ (ps_ret (pe_and (pe_call (ok_law_whole T) (hr.mono (by decide)) (by rfl) T.m_law_whole T.F_law_whole.kp T.b_law_whole .nil pass0 (pa_cons (pe_fld (pe_fld (pv 0) (by rfl)) (by rfl)) pa_nil)) (pe_and (pe_cmpR op_eq (pe_fld (pe_fld (pv 0) (by rfl)) (by rfl)) (pv 3) (nomark _)) (pe_one (pe_cmpR (op_eqE hu) (pe_meth0 (pe_fld (pv 0) (by rfl)) T.cl_Yard T.M_Yard_told (ok_Yard_told T) (hr.mono (by decide)) T.b_Yard_told .nil pass0) (pe_lst pa_nil) (nomark _)))))))))), ?_⟩
    obtain ⟨g1, g2, g3, g4, g5, g6, g7, g8, g9⟩ := hF_get (pr := pl) (bx := bx) (pi := pi) (fr := fr) (yd := y.p) (nw := nw)
    have hx := HA.ins
    generalize hG : tSeq (tIfS _ _ _) (tRet _) = tail
    simp! [T.cl_Hand, T.n_program, T.n_f, T.n_at, T.n_boxes, T.n_pile, T.n_frames, T.n_yard, T.n_news, T.n_end, hx, g1, g2, g3, g4, g5, g6, g7, g8, g9]
    refine ⟨0, rfl, true, rfl, ?_⟩
    rw [if_neg (by simp)]
    simp! [T.cl_Hand, T.n_program, T.n_f, T.n_at, T.n_boxes, T.n_pile, T.n_frames, T.n_yard, T.n_news, T.n_end, hx, g1, g2, g3, g4, g5, g6, g7, g8, g9]
    refine ⟨0, rfl, true, rfl, ?_⟩
    rw [if_neg (by simp)]
    have topp := PG.top
    have lp := PG.len
    have hda := List.getElem?_eq_getElem (l := das) (i := 0) (by rw [lp]; exact (List.getElem?_eq_some_iff.mp h0).1)
    have D0 := PG.def_ 0 _ _ hda h0
    have e0 := D0.at_
    revert hda D0 e0
    generalize das[0]'_ = da0
    intro hda D0 e0
    have ad : atI (das.map fun a => V.ref a.1) 0 = some (.ref da0.1) := atI_nat (j := 0) (by rw [List.getElem?_map, hda]; rfl)
    simp! [T.cl_Hand, T.n_program, T.n_f, T.n_at, T.n_boxes, T.n_pile, T.n_frames, T.n_yard, T.n_news, T.n_end, hx, g1, g2, g3, g4, g5, g6, g7, g8, g9, topp, ad, e0]
    simp! [tSl, tNoPart, tPart, rU]
    intro p1 n1
    refine ⟨p1, 8, _, rfl, rfl, upd_same, by decide, by decide, by rw [sizeLine_eq]; simp, fun r1 nr1 => ?_⟩
    rw [rep_m1, show Int.toNat 8 = 8 from rfl]
    refine ⟨nl, r1, _, _, rfl, rfl, upd_old (upd_old hnl n1) nr1, upd_same, by rw [sizeLine_eq]; simp; omega, fun c1 nc1 => ?_⟩
    rw [← List.map_append]
    refine ⟨c1, _, rfl, .of upd_same, fun s1 ns1 => ?_⟩
    rw [cut_eight (by rw [List.length_map, List.length_append, List.length_replicate]; omega), ← List.map_take, take_eight li]
    have S1 := (((Same.laid n1 (u := .lst [V.int (-1)])).step nr1 (u := .lst ((List.replicate 8 (-1 : Int)).map V.int))).step nc1 (u := .lst ((ins ++ List.replicate 8 (-1)).map V.int))).step ns1 (u := .lst ((ins ++ List.replicate (8 - ins.length) (-1)).map V.int))
    have hs1 : upd (upd (upd (upd H p1 (.lst [V.int (-1)])) r1 (.lst ((List.replicate 8 (-1 : Int)).map V.int))) c1 (.lst ((ins ++ List.replicate 8 (-1)).map V.int))) s1 (.lst ((ins ++ List.replicate (8 - ins.length) (-1)).map V.int)) s1 = some (.lst ((ins ++ List.replicate (8 - ins.length) (-1)).map V.int)) := upd_same
    revert S1 hs1
    generalize upd (upd (upd (upd H p1 (.lst [V.int (-1)])) r1 (.lst ((List.replicate 8 (-1 : Int)).map V.int))) c1 (.lst ((ins ++ List.replicate 8 (-1)).map V.int))) s1 (.lst ((ins ++ List.replicate (8 - ins.length) (-1)).map V.int)) = H5
    intro S1 hs1
    refine ⟨bx, s1, _, rfl, S1 _ _ HA.bx, hs1, by rw [List.length_append, List.length_replicate]; omega, true, rfl, ?_⟩
    rw [if_neg (by simp)]
    have HA5 := HA.same S1
    have PG5 := PG.same S1
    have D05 := D0.fr (M := fun _ => False) (.of_same S1) id
    clear n1 nr1 nc1 ns1 hs1 topp e0 hx HA PG D0
    have hx := HA5.ins
    have topp := PG5.top
    have e0 := D05.at_
    obtain ⟨w0, w1⟩ : 0 ≤ d0.w ∧ d0.w ≤ 16 := ⟨(OK _ (List.mem_of_getElem? h0)).w0, (OK _ (List.mem_of_getElem? h0)).w1⟩
    refine ⟨_, _, _, hx, T.cl_Hand, T.n_pile, _, g5, fun p2 n2 => ?_⟩
    refine ⟨_, by rw [upd_old topp n2]; rfl, _, ad, _, rfl, _, by rw [upd_old e0 n2]; rfl, _, atI_2, ?_⟩
    refine ⟨p2, d0.w, _, rfl, rfl, upd_same, by omega, by omega, by rw [sizeLine_eq]; simp; omega, fun r2 nr2 => ?_⟩
    rw [rep_m1]
    have S2 := (Same.laid n2 (u := .lst [V.int (-1)])).step nr2 (u := .lst ((List.replicate d0.w.toNat (-1 : Int)).map V.int))
    have hr2 : upd (upd H5 p2 (.lst [V.int (-1)])) r2 (.lst ((List.replicate d0.w.toNat (-1 : Int)).map V.int)) r2 = some (.lst ((List.replicate d0.w.toNat (-1 : Int)).map V.int)) := upd_same
    revert S2 hr2
    generalize upd (upd H5 p2 (.lst [V.int (-1)])) r2 (.lst ((List.replicate d0.w.toNat (-1 : Int)).map V.int)) = H6
    intro S2 hr2
    refine ⟨pi, r2, _, rfl, S2 _ _ HA5.pi, hr2, by rw [List.length_replicate]; omega, true, rfl, ?_⟩
    rw [if_neg (by simp)]
    have HA6 := HA5.same S2
    have PG6 := PG5.same S2
    have S16 := S1.trans S2
    clear n2 nr2 hr2 S2 S1 hx topp e0 HA5 PG5 D05 ad
    have hx := HA6.ins
    have hfr := HA6.fr
    have hnw := HA6.nw
    subst hG
    simp! [T.cl_Hand, T.n_program, T.n_f, T.n_at, T.n_boxes, T.n_pile, T.n_frames, T.n_yard, T.n_news, T.n_end, hx, g1, g2, g3, g4, g5, g6, g7, g8, g9, hfr, hnw]
    intro q1 m1
    have hfr1 := upd_old (u := .lst []) hfr m1
    have hx1 := upd_old (u := .lst []) hx m1
    have hnw1 := upd_old (u := .lst []) hnw m1
    refine ⟨_, by rw [hfr1]; rfl, by rw [hfr1]; rfl, ?_⟩
    rw [if_neg (by simp)]
    refine ⟨_, _, _, hx1, T.cl_Hand, T.n_news, _, g8, fun q2 m2 => ⟨nw, rfl, ?_⟩⟩
    have hnw2 := upd_old (u := .lst []) hnw1 m2
    have S7 := (Same.laid m1 (u := .lst [])).step m2 (u := .lst [])
    clear hfr1 hx1 hnw1
    revert hnw2 S7
    generalize upd (upd H6 q1 (.lst [])) q2 (.lst []) = H7
    intro hnw2 S7
    have HA7 := HA6.same S7
    have PG7 := PG6.same S7
    have S17 := S16.trans S7
    refine ⟨_, by rw [hnw2]; rfl, by rw [hnw2]; rfl, ?_⟩
    rw [if_neg (by simp)]
    clear m1 m2 S7 S16 hx hfr hnw HA6 PG6 hnw2
    have hx := HA7.ins
    obtain ⟨hp, _, ⟨ks, hs, ek, vk, nk⟩, ne⟩ := id HA7.yd
    simp! [T.cl_Hand, T.n_program, T.n_f, T.n_at, T.n_boxes, T.n_pile, T.n_frames, T.n_yard, T.n_news, T.n_end, hx, g1, g2, g3, g4, g5, g6, g7, g8, g9, hp, T.cl_Yard, T.n_free, yF_free]
    refine ⟨_, _, PG7.rep OK, PG7.rep OK, pgD_shaped OK, pgD_shaped OK, ?_⟩
    rw [pgD_eq OK]
    refine ⟨false, rfl, ?_⟩
    rw [if_neg (by simp)]
    refine ⟨_, _, _, hx, T.cl_Hand, T.n_yard, _, g7, y.p, rfl, _, _, _, hp, T.cl_Yard, T.n_free, _, yF_free, st, rfl, true, rfl, ?_⟩
    rw [if_pos rfl]
    refine ⟨_, _, _, hx, T.cl_Hand, T.n_yard, _, g7, ?_⟩
    simp! [T.cl_Hand, T.n_program, T.n_f, T.n_at, T.n_boxes, T.n_pile, T.n_frames, T.n_yard, T.n_news, T.n_end, hx, g1, g2, g3, g4, g5, g6, g7, g8, g9, hp, T.cl_Yard, T.n_free, yF_free]
    refine ⟨by rfl, y, st, _, rfl, HA7.yd, fun l H8 S8 hl p np => ⟨l, rfl, [], by rw [upd_old hl np]; rfl, by rw [upd_old hl np]; rfl, q _ ((S17.trans S8).step np)⟩⟩

end
end Law

namespace Law
open PySem L2
local macro_rules | `(tactic| simp! [$ls,*]) => `(tactic| simp only [tSeq, tAsg, gName, tVar, tC, tOp, tUn, rI0, rI, rU, tCB, tCons, tNil, tRet, tRetN, tIfS, tTest, tB, tAnd, tOr, tNot, tAndV, tOrV, tNotV, tIf, tDrop, tNext, tCall, tMeth, tIsN, tNotN, L2.start, List.map_cons, List.map_nil, List.length_cons, List.length_nil, List.nil_append, List.cons_append, List.append_nil, Nat.reduceAdd, Nat.reduceSub, Nat.sub_self, List.replicate_succ, List.replicate_zero, List.set_cons_zero, List.set_cons_succ, List.getElem?_cons_zero, List.getElem?_cons_succ, Option.some.injEq, V.int.injEq, V.bl.injEq, V.str.injEq, V.ref.injEq, List.cons.injEq, exists_eq_left', exists_eq_left, exists_and_left, and_true, true_and, if_true, if_false, ite_true, ite_false, Bool.true_eq_false, Bool.false_eq_true, decide_eq_true_eq, Bool.not_true, Bool.not_false, Bool.not_eq_true', decide_eq_false_iff_not, reduceCtorEq, false_and, and_false, exists_false, tTup, tLst, sizeLine_eq, Nat.reduceLeDiff, Nat.zero_le, rEq, rNe, rIxF, rEqF, gSub, rSetL, HO.lst.injEq, HO.tup.injEq, HO.ins.injEq, HO.dK.injEq, scal_int, scal_bl, scal_str, tyF_ref, tyF_int, tyF_bl, tyF_str, tyF_non, lenF_ref, seqV_eq, kindV_eq, tyO_lst, tyO_frz, tyO_tup, tyO_dK, lenO_lst, lenO_frz, lenO_tup, seqO_lst, seqO_frz, seqO_tup, kindO_lst, kindO_frz, kindO_tup, isTys, and_assoc, atI_0, atI_1, atI_2, atI_3, atI_4, upd_same, V.ty.injEq, eq_self_iff_true, and_self, String.reduceEq, or_false, or_true, false_or, true_or, Bool.or_true, Bool.or_false, Bool.true_or, Bool.false_or, Bool.and_false, Bool.false_and, Bool.and_true, Bool.true_and, String.reduceBEq, beq_self_eq_true, tDGetF, tDInF, tDNotInF, sDPutF, keyOf_int, keyOf_str, sFld, tFld, tDNewK, tRaise, tMethE, EX, tFstr, tMake, cxOf_K, Nat.reduceLT, Option.join_some, Option.join_none, not_true_eq_false, not_false_eq_true, gCons, gNil, tChain, rEqE, tAug, ipI, $ls,*])
section
variable {P : Program} {w : World} {K : PySem.W.Frag} {mg : Str → Option Value} {base : Heap} {a : Ad}
def spLaw (K : PySem.W.Frag) : Sp := fun vs H Q _ => ∃ (a : Addr) (ns : List Int), vs = [.ref a] ∧ SqL K H a (ns.map V.int) ∧ ns.length ≤ 63 ∧ ∀ H', Q (.bl true) H'

theorem hand_new {C x dx : Addr} {H H' : Hp} (nx : H x = none) (ndx : H dx = none) (F : Fr (· = x) (upd (upd H dx (.own x)) x (.ins C dx [])) H') : Same H H' := fun r o e => F.keep r o (by rw [upd_ne (ne_of_none e nx), upd_ne (ne_of_none e ndx)]; exact e) (ne_of_none e nx)
theorem rep_ints {H : Hp} {l : Addr} {ns : List Int} (h : H l = some (.lst (ns.map V.int))) : RepD H (.ref l) (.list (ns.map PyData.int)) := by
  refine .lst h (by rw [List.length_map, List.length_map]) fun i v d h1 h2 => ?_
  obtain ⟨z, hz, rfl⟩ := of_map_get h1
  rw [List.getElem?_map, hz] at h2
  cases h2
  exact .int z
def farD : PyData := .tuple [.tuple [.str "far", .int 0, .int 0], .list []]
theorem far_can : PyData.canLay0 farD = true := by decide +kernel
theorem far_shaped : SeqAt.shaped farD = true := by decide +kernel
theorem far_rep {H : Hp} {p t l : Addr} (h : H p = some (.tup [.ref t, .ref l])) (ht : H t = some (.tup [.str "far", .int 0, .int 0])) (hl : H l = some (.lst [])) : RepD H (.ref p) farD := by
  refine .tup h rfl fun j v e h1 h2 => ?_
  match j, h1, h2 with
  | 0, h1, h2 =>
    cases h1
    cases h2
    refine .tup ht rfl fun j v e h1 h2 => ?_
    match j, h1, h2 with
    | 0, h1, h2 => cases h1; cases h2; exact .str _
    | 1, h1, h2 => cases h1; cases h2; exact .int _
    | 2, h1, h2 => cases h1; cases h2; exact .int _
    | j + 3, h1, h2 => simp at h1
  | 1, h1, h2 =>
    cases h1
    cases h2
    exact .lst hl rfl fun j v e h1 h2 => by cases h1
  | j + 2, h1, h2 => simp at h1
def twoD (xs ys : List Int) : PyData := .list [.list (xs.map PyData.int), .list (ys.map PyData.int)]
theorem two_rep {H : Hp} {p l m : Addr} {xs ys : List Int} (h : H p = some (.lst [.ref l, .ref m])) (hl : H l = some (.lst (xs.map V.int))) (hm : H m = some (.lst (ys.map V.int))) : RepD H (.ref p) (twoD xs ys) := by
  refine .lst h rfl fun j v e h1 h2 => ?_
  match j, h1, h2 with
  | 0, h1, h2 => cases h1; cases h2; exact rep_ints hl
  | 1, h1, h2 => cases h1; cases h2; exact rep_ints hm
  | j + 2, h1, h2 => simp at h1
theorem two_can {xs ys : List Int} : PyData.canLay0 (twoD xs ys) = true := by
  have h : ∀ zs : List Int, PyData.canLay0 (.list (zs.map PyData.int)) = true := fun zs => by
    rw [PyData.canLay0]
    exact canAll fun v _ => by rw [PyData.canLay0]
  unfold twoD
  rw [PyData.canLay0]
  simp only [PyData.canLayAll0, h, Bool.and_self]
theorem two_shaped {xs ys : List Int} : SeqAt.shaped (twoD xs ys) = true := by
  unfold SeqAt.shaped
  rw [Bool.and_eq_true]
  refine ⟨two_can, decide_eq_true ?_⟩
  have h : ∀ zs : List Int, PyData.depthAll (zs.map PyData.int) ≤ 0 := fun zs => depAll fun v _ => by simp [PyData.depth]
  have h1 := h xs
  have h2 := h ys
  unfold twoD
  simp only [PyData.depth, PyData.depthAll]
  omega
/-- what one of the due tuples holds -/
def Due (CH CY : Addr) (H : Hp) (pl : Addr) (d0 : Df) (t : Addr) : Prop := ∃ (x dx D bx pi fr nw : Addr) (y : Yd) (ins : List Int) (st : Int), H t = some (.tup [.ref x, .ref D, .int st]) ∧ HandAt CH CY H x dx pl bx pi fr nw y (ins ++ List.replicate (8 - ins.length) (-1)) (List.replicate d0.w.toNat (-1)) st ∧ H D = some (.lst (ins.map V.int)) ∧ ins.length ≤ 8
theorem Due.same {CH CY : Addr} {H H' : Hp} {pl : Addr} {d0 : Df} {t : Addr} (S : Same H H') (h : Due CH CY H pl d0 t) : Due CH CY H' pl d0 t := by
  obtain ⟨x, dx, D, bx, pi, fr, nw, y, ins, st, h1, h2, h3, h4⟩ := h
  exact ⟨x, dx, D, bx, pi, fr, nw, y, ins, st, S _ _ h1, h2.same S, S _ _ h3, h4⟩
set_option maxHeartbeats 4000000 in
theorem ok_law (T : Txt K mg a) : FnOk P w K mg base CX0 6 a.f_law a.d_law ["script"] (spLaw K) := by
  refine T.F_law.okC sc_law (fun vs H Q E h => ?_) (fun cdv A outer s H vs Q E hr h => ?_)
  · obtain ⟨r, ns, rfl, _⟩ := h
    rfl
  · obtain ⟨r, ns, rfl, hS, _, fin⟩ := h
    have hu := hu_of hr
    refine ⟨_, (@pss_cons _ _ _ _ _ (ps_set (i := 1) sc_law.nd (by rfl) (Or.inr rfl) (pe_call (ok_law_bag T) (hr.mono (by decide)) (by rfl) T.m_law_bag T.F_law_bag.kp T.b_law_bag .nil pass0 (@pa_cname _ _ _ _ _ _ (pv 0) pa_nil)))
      (@pss_cons _ _ _ _ _ (ps_set (i := 2) sc_law.nd (by rfl) (Or.inl rfl) (pe_cmpR op_eq (pe_call (ok_law_draw T) (hr.mono (by decide)) (by rfl) T.m_law_draw T.F_law_draw.kp T.b_law_draw .nil pass0 (@pa_cname _ _ _ _ _ _ (pv 1) (@pa_cint _ _ _ _ _ _ pa_nil))) pe_int (nomark _)))
      (@pss_cons _ _ _ _ _ (ps_set (i := 3) sc_law.nd (by rfl) (Or.inl rfl) (pe_call (ok_law_program T) (hr.mono (by decide)) (by rfl) T.m_law_program T.F_law_program.kp T.b_law_program .nil pass0 (@pa_cname _ _ _ _ _ _ (pv 1) pa_nil)))
      (@pss_cons _ _ _ _ _ (ps_setc (i := 4) sc_law.nd (by rfl) (Or.inl rfl) (N' := ["one"]) (cap := [none]) ⟨rfl, (by decide +kernel), (by decide +kernel), (by rfl), rfl, (by rfl)⟩ (by rfl) (pi_list (pv 3)) (fun C_ ex_ s_ H_ => (pg_name (i := 0) (show (["one"] : List Str).Nodup by decide +kernel) (by rfl) (Or.inl rfl))) gkp_name (fun C_ ex_ s_ H_ => pifs_nil) (fun C_ ex_ s_ H_ => (pe_tup (pa_cons (pe_ix ix_F (pv 0) pe_int (fun _ _ => rfl)) (pa_cons (pe_ix ix_F (pv 0) pe_int (fun _ _ => rfl)) (pa_cons (pe_ix ix_F (pv 0) pe_int (fun _ _ => rfl)) (pa_cons (pe_callTy (call_list_ofK (K := K) (by rfl)) (by rfl) T.z_list (by decide +kernel) (pa_cons (pe_ix ix_F (pv 0) pe_int (fun _ _ => rfl)) pa_nil)) pa_nil)))))))
      (@pss_cons _ _ _ _ _ (ps_set (i := 5) sc_law.nd (by rfl) (Or.inl rfl) (pe_callB call_lenF (by rfl) T.z_len (by decide +kernel) (pa_cons (pe_ix ix_F (pe_ix ix_F (pv 3) pe_int (fun _ _ => rfl)) pe_int (fun _ _ => rfl)) pa_nil)))
      (@pss_cons _ _ _ _ _ (ps_setc (i := 6) sc_law.nd (by rfl) (Or.inl rfl) (N' := ["k", "bag"]) (cap := [none, some 1]) ⟨rfl, (by decide +kernel), (by decide +kernel), (by rfl), rfl, (by rfl)⟩ (by rfl) (pi_range1 (by rfl) T.z_range (@pa_cname _ _ _ _ _ _ (pv 5) pa_nil)) (fun C_ ex_ s_ H_ => (pg_name (i := 0) (show (["k", "bag"] : List Str).Nodup by decide +kernel) (by rfl) (Or.inl rfl))) gkp_name (fun C_ ex_ s_ H_ => pifs_nil) (fun C_ ex_ s_ H_ => (pe_call (ok_law_number T) (by exact hr.mono (by decide)) (by rfl) T.m_law_number T.F_law_number.kp T.b_law_number .nil pass0 (@pa_cname _ _ _ _ _ _ (pv 1) pa_nil))))
      (@pss_cons _ _ _ _ _ (ps_setc (i := 7) sc_law.nd (by rfl) (Or.inl rfl) (N' := ["k", "bag"]) (cap := [none, some 1]) ⟨rfl, (by decide +kernel), (by decide +kernel), (by rfl), rfl, (by rfl)⟩ (by rfl) (pi_range1 (by rfl) T.z_range (@pa_cname _ _ _ _ _ _ (pv 5) pa_nil)) (fun C_ ex_ s_ H_ => (pg_name (i := 0) (show (["k", "bag"] : List Str).Nodup by decide +kernel) (by rfl) (Or.inl rfl))) gkp_name (fun C_ ex_ s_ H_ => pifs_nil) (fun C_ ex_ s_ H_ => (pe_call (ok_law_number T) (by exact hr.mono (by decide)) (by rfl) T.m_law_number T.F_law_number.kp T.b_law_number .nil pass0 (@pa_cname _ _ _ _ _ _ (pv 1) pa_nil))))
      (@pss_cons _ _ _ _ _ (ps_set (i := 8) sc_law.nd (by rfl) (Or.inl rfl) (pe_call (ok_law_start T) (hr.mono (by decide)) (by rfl) T.m_law_start T.F_law_start.kp T.b_law_start .nil pass0 (@pa_cname _ _ _ _ _ _ (pv 1) pa_nil)))
      (@pss_cons _ _ _ _ _ (ps_set (i := 9) sc_law.nd (by rfl) (Or.inl rfl) (pe_call (ok_law_start T) (hr.mono (by decide)) (by rfl) T.m_law_start T.F_law_start.kp T.b_law_start .nil pass0 (@pa_cname _ _ _ _ _ _ (pv 1) pa_nil)))
      (@pss_cons _ _ _ _ _ (@ps_setL _ 10 _ _ _ _ _ _ sc_law.nd (by rfl) (Or.inl rfl) (pa_cons (pe_callTy call_list_of (by rfl) T.z_list (by decide +kernel) (@pa_cname _ _ _ _ _ _ (pv 6) pa_nil)) (pa_cons (pe_callTy call_list_of (by rfl) T.z_list (by decide +kernel) (@pa_cname _ _ _ _ _ _ (pv 7) pa_nil)) pa_nil)) (by first | exact .inl (by rfl) | exact .inr (by rfl) | assumption))
      (@pss_cons _ _ _ _ _ (ps_set (i := 11) sc_law.nd (by rfl) (Or.inl rfl) (pe_make T.M_Hand (ok_Hand___init T) (hr.mono (by decide)) (by rfl) T.m_Hand T.b_Hand___init .nil pass0 (@pa_cname _ _ _ _ _ _ (pv 3) (pa_cons (pe_ix ix_F (pv 10) pe_int (fun _ _ => rfl)) (@pa_cname _ _ _ _ _ _ (pv 8) pa_nil)))))
      (@pss_cons _ _ _ _ _ (ps_set (i := 12) sc_law.nd (by rfl) (Or.inl rfl) (pe_make T.M_Hand (ok_Hand___init T) (hr.mono (by decide)) (by rfl) T.m_Hand T.b_Hand___init .nil pass0 (@pa_cname _ _ _ _ _ _ (pv 3) (pa_cons (pe_ix ix_F (pv 10) pe_int (fun _ _ => rfl)) (@pa_cname _ _ _ _ _ _ (pv 9) pa_nil)))))
      (@pss_cons _ _ _ _ _ (@ps_setL _ 13 _ _ _ _ _ _ sc_law.nd (by rfl) (Or.inl rfl) (pa_cons (pe_tup (@pa_cname _ _ _ _ _ _ (pv 11) (@pa_cname _ _ _ _ _ _ (pv 6) (@pa_cname _ _ _ _ _ _ (pv 8) pa_nil)))) (pa_cons (pe_tup (@pa_cname _ _ _ _ _ _ (pv 12) (@pa_cname _ _ _ _ _ _ (pv 7) (@pa_cname _ _ _ _ _ _ (pv 9) pa_nil)))) pa_nil)) (by first | exact .inl (by rfl) | exact .inr (by rfl) | assumption))
      (@pss_cons _ _ _ _ _ (@ps_if _ _ _ _ _ _ _ _ (pt_val (pv 2)) (@pss_one _ _ _ (ps_set (i := 13) sc_law.nd (by rfl) (Or.inl rfl) (pe_rev (K := K) (by rfl) (pv 13) (pe_un un_neg pe_int)))) pss_nil)
      (@pss_cons _ _ _ _ _ (ps_for PassesOwn.never (by rfl) (pi_list (pv 13)) (pg_tup (n := 3) (by rfl) (pgs_cons (pg_name (i := 14) sc_law.nd (by rfl) (Or.inl rfl)) (pgs_cons (pg_name (i := 15) sc_law.nd (by rfl) (Or.inl rfl)) (pgs_cons (pg_name (i := 16) sc_law.nd (by rfl) (Or.inl rfl)) pgs_nil))))
      (@pss_one _ _ _ (@ps_if _ _ _ _ _ _ _ _ (pt_not (pt_val (pe_call (ok_law_begun T) (hr.mono (by decide)) (by rfl) T.m_law_begun T.F_law_begun.kp T.b_law_begun .nil pass0 (@pa_cname _ _ _ _ _ _ (pv 14) (@pa_cname _ _ _ _ _ _ (pv 3) (@pa_cname _ _ _ _ _ _ (pv 15) (@pa_cname _ _ _ _ _ _ (pv 16) pa_nil))))))) (@pss_one _ _ _ (ps_ret pe_bl)) pss_nil)))
      (@pss_cons _ _ _ _ _ (ps_set (i := 17) sc_law.nd (by rfl) (Or.inl rfl) (pe_call (ok_run T) (hr.mono (by decide)) (by rfl) T.m_run T.F_run.kp T.b_run .nil pass0 (@pa_cname _ _ _ _ _ _ (pv 3) (pa_cons (pe_ix ix_F (pv 10) pe_int (fun _ _ => rfl)) (@pa_cint _ _ _ _ _ _ (@pa_cname _ _ _ _ _ _ (pv 8) pa_nil))))))
      (@pss_cons _ _ _ _ _ (@ps_if _ _ _ _ _ _ _ _ (PW.pt (pw_or (pt_not (pt_val (pe_callB call_isF (by rfl) T.z_isinstance (by decide +kernel) (@pa_cname _ _ _ _ _ _ (pv 17) (@pa_cname _ _ _ _ _ _ (pe_bltn (v := .ty "tuple") (u := .type "tuple") (by rfl) T.z_tuple (by decide +kernel) (by rfl)) pa_nil))))) (pw_or1 (pt_cmpR (op_neP hr.units) (pv 17) (pe_tup (pa_cons (pe_tup (@pa_cstr _ _ _ _ _ _ (@pa_cint _ _ _ _ _ _ (@pa_cint _ _ _ _ _ _ pa_nil)))) (pa_cons (pe_lst pa_nil) pa_nil))) (nomark _))))) (@pss_one _ _ _ (ps_ret pe_bl)) pss_nil)
      (@pss_one _ _ _ (ps_ret (pe_and (pe_cmpR (op_eqP hr.units) (pv 10) (pe_lst (@pa_cname _ _ _ _ _ _ (pv 6) (@pa_cname _ _ _ _ _ _ (pv 7) pa_nil))) (nomark _)) (pe_one (pe_cmpR (op_eqP hr.units) (pv 3) (pv 4) (nomark _))))))))))))))))))))))), ?_⟩
    generalize hG : tSeq (tAsg (tLst _) (gName 10)) _ = tail
    simp! []
    refine ⟨r, ns, rfl, hS, fun b c cs H0 nb nc hb S0 => ?_⟩
    refine ⟨b, c, cs, 2, rfl, hb, by decide, by decide, fun tu H1 _ _ hb1 k1 => ?_⟩
    simp! []
    refine ⟨b, c, cs, rfl, hb1, fun pl das ds H PG OK n0 l8 npl nas hb2 k2 => ?_⟩
    simp! []
    have lp := PG.len
    refine compL (H1 := H) pl (das.map fun a => V.ref a.1) (fun Q2 h2 => by simp! []; exact h2) (.of PG.top) (fun D i ys H2 => ∃ has : List DA, ys = has.map (fun a => V.ref a.1) ∧ Same H H2 ∧ PgAt H2 D has (ds.take i) ∧ (∀ a ∈ has, a.2.1 ≠ D ∧ H a.2.1 = none))
      (fun D hD => ⟨[], rfl, Same.laid hD, ⟨upd_same, rfl, fun i p r h1 _ => by cases h1⟩, fun a h => by cases h⟩) ?_ (by rw [sizeLine_eq, List.length_map]; omega) ?_ ?_
    · rintro D hD i ys H2 hi ⟨has, rfl, S2, D2, _⟩
      refine ⟨.of (S2 _ _ PG.top), D2.top, ?_⟩
      rw [List.length_map, D2.len, List.length_take]
      omega
    · rintro D hD i x ys H2 hx ⟨has, rfl, S2, D2, nD⟩
      obtain ⟨da, hda, rfl⟩ := of_map_get hx
      have il : i < ds.length := by rw [← lp]; exact (List.getElem?_eq_some_iff.mp hda).1
      have hdi := List.getElem?_eq_getElem il
      have DA2 := (PG.def_ i da _ hda hdi).fr (M := fun _ => False) (.of_same S2) id
      revert hdi DA2
      generalize ds[i] = d
      intro hdi DA2
      have e2 := DA2.at_
      simp! [tTrue, capSt, e2]
      refine ⟨_, .inl (.of DA2.rows.top), fun l nl p np => ?_⟩
      have nlD : l ≠ D := fun e => by rw [e, D2.top] at nl; cases nl
      have nl0 := S2.free nl
      have S4 : Same H2 (upd (upd H2 l (.lst (da.2.2.map V.ref))) p (.tup [.str d.takes, .str d.gives, .int d.w, .ref l])) := (Same.laid nl).step np
      have hl4 : upd (upd H2 l (.lst (da.2.2.map V.ref))) p (.tup [.str d.takes, .str d.gives, .int d.w, .ref l]) l = some (.lst (da.2.2.map V.ref)) := upd_old upd_same np
      have hp4 : upd (upd H2 l (.lst (da.2.2.map V.ref))) p (.tup [.str d.takes, .str d.gives, .int d.w, .ref l]) p = some (.tup [.str d.takes, .str d.gives, .int d.w, .ref l]) := upd_same
      revert S4 hl4 hp4
      generalize upd (upd H2 l (.lst (da.2.2.map V.ref))) p (.tup [.str d.takes, .str d.gives, .int d.w, .ref l]) = H4
      intro S4 hl4 hp4
      have R4 := DA2.rows.fr (M := fun _ => False) (.of_same S4) id
      have D4 := D2.same S4
      have PS := D4.snoc (p := p) (rl := l) (rs := da.2.2) (d := d) ⟨hp4, hl4, R4.len, R4.row⟩ (fun a ha => (nD a ha).1) nlD
      refine ⟨D4.top, has ++ [(p, l, da.2.2)], by rw [List.map_append]; rfl, upd_newS (S2.trans S4) hD, ?_, fun a ha => ?_⟩
      · rw [List.take_succ, hdi]
        exact PS
      · rcases List.mem_append.mp ha with ha | ha
        · exact nD a ha
        · rw [List.mem_singleton.mp ha]; exact ⟨nlD, nl0⟩
    rintro hl nhl ys H3 ⟨has, rfl, S3, PK, nK⟩
    rw [List.length_map, lp, List.take_length] at PK
    have hb3 := hb2.keep S3
    have PG3 := PG.same S3
    have h0 := List.getElem?_eq_getElem n0
    have hda := List.getElem?_eq_getElem (l := das) (i := 0) (by omega)
    have D0 := PG3.def_ 0 _ _ hda h0
    have OK0 := OK _ (List.mem_of_getElem? h0)
    revert h0 hda D0 OK0
    generalize ds[0] = d0
    generalize das[0]'_ = da0
    intro h0 hda D0 OK0
    have ad : atI (das.map fun a => V.ref a.1) 0 = some (.ref da0.1) := atI_nat (j := 0) (by rw [List.getElem?_map, hda]; rfl)
    obtain ⟨tk, etk⟩ : ∃ tk, tk = d0.takes.cps.size := ⟨_, rfl⟩
    have tk6 : tk ≤ 6 := by rw [etk]; exact OK0.takes.1
    have el : lenF (V.str d0.takes) H3 = some tk := by
      rw [show lenF (V.str d0.takes) H3 = if d0.takes.length ≤ sizeLine then some d0.takes.length else none from rfl, if_pos (by rw [sizeLine_eq]; show d0.takes.cps.size ≤ _; omega), etk]
      rfl
    refine ⟨_, by rw [PG3.top]; rfl, _, ad, _, rfl, _, by rw [D0.at_]; rfl, _, atI_0, tk, el, ?_⟩
    refine comp1 (H1 := H3) (tk : Int) (fun Q2 h2 => by simp! []; exact h2) (by omega) (by omega) (fun D i ys H4 => ∃ l : List Int, l.length = i ∧ ys = l.map V.int ∧ H4 D = some (.lst ys) ∧ BagAt H4 b c cs ∧ Kp b H3 H4)
      (fun D hD => ⟨[], rfl, rfl, upd_same, hb3.laid hD, Kp.refl.laid hD⟩) ?_ (by rw [sizeLine_eq]; omega) ?_ ?_
    · rintro D hD i ys H4 hi ⟨l, l1, rfl, hd, hb4, k4⟩
      exact ⟨hd, by rw [List.length_map]; omega⟩
    · rintro D hD i ys H4 hi ⟨l, l1, rfl, hd, hb4, k4⟩
      obtain ⟨nD, nDc⟩ := hb3.apart hD
      simp! [capSt, tTrue]
      refine ⟨b, c, cs, rfl, hb4, fun x H5 hb5 k5 => ?_⟩
      exact ⟨k5 _ _ hd nD, l ++ [x], by rw [List.length_append, l1]; rfl, by rw [List.map_append]; rfl, hb5.other nD nDc, (k4.trans k5).new hD⟩
    rintro D1 nD1 ys H5 ⟨ns1, lns1, rfl, hD1, hb5, k5⟩
    rw [Int.toNat_natCast] at lns1
    have nbD1 := (hb3.apart nD1).1
    refine comp1 (H1 := H5) (tk : Int) (fun Q2 h2 => by simp! []; exact h2) (by omega) (by omega) (fun D i ys H4 => ∃ l : List Int, l.length = i ∧ ys = l.map V.int ∧ H4 D = some (.lst ys) ∧ BagAt H4 b c cs ∧ Kp b H5 H4)
      (fun D hD => ⟨[], rfl, rfl, upd_same, hb5.laid hD, Kp.refl.laid hD⟩) ?_ (by rw [sizeLine_eq]; omega) ?_ ?_
    · rintro D hD i ys H4 hi ⟨l, l1, rfl, hd, hb4, k4⟩
      exact ⟨hd, by rw [List.length_map]; omega⟩
    · rintro D hD i ys H4 hi ⟨l, l1, rfl, hd, hb4, k4⟩
      obtain ⟨nD, nDc⟩ := hb5.apart hD
      simp! [capSt, tTrue]
      refine ⟨b, c, cs, rfl, hb4, fun x H5 hb5 k5 => ?_⟩
      exact ⟨k5 _ _ hd nD, l ++ [x], by rw [List.length_append, l1]; rfl, by rw [List.map_append]; rfl, hb5.other nD nDc, (k4.trans k5).new hD⟩
    rintro D2 nD2 ys H6 ⟨ns2, lns2, rfl, hD2, hb6, k6⟩
    rw [Int.toNat_natCast] at lns2
    have nbD2 := (hb5.apart nD2).1
    refine ⟨b, c, cs, rfl, hb6, fun st1 H7 hb7 k7 => ⟨b, c, cs, rfl, hb7, fun st2 H8 hb8 k8 => ?_⟩⟩
    have F38 := hb3.kfr' (((k5.trans k6).trans k7).trans k8)
    have PG8 := PG3.fr F38 (hb1.apart npl).1 (fun a ha => (hb1.apart (nas a ha)).1)
    have PK8 := PK.fr F38 (hb2.apart nhl).1 (fun a ha => (hb2.apart (nK a ha).2).1)
    have o1 := ((k6.trans k7).trans k8) _ _ hD1 nbD1
    have o2 := (k7.trans k8) _ _ hD2 nbD2
    clear hD1 hD2 hb5 hb6 hb7 hb8 k5 k6 k7 k8 F38 PG3 PG PK hb3 el D0 nK S3 hb2 k2 hb1 k1 nas npl hb S0 nbD1 nbD2
    have key : ∀ (H : Hp), PgAt H pl das ds → PgAt H hl has ds → H D1 = some (.lst (ns1.map V.int)) → H D2 = some (.lst (ns2.map V.int)) → tail { nx := fun x H' => Q V.non H', rt := Q } [some (V.ref r), some (V.ref b), some (V.bl (decide (tu = 1))), some (V.ref pl), some (.ref hl), some (V.int tk), some (.ref D1), some (.ref D2), some (.int st1), some (.int st2), none, none, none, none, none, none, none, none] H := by
      clear PG8 PK8 o1 o2
      intro H PG PK o1 o2
      subst hG
      generalize hG : tSeq (tIfS _ _ _) _ = tail
      simp! []
      obtain ⟨das', edas⟩ : ∃ das', das = da0 :: das' := by
        cases das with
        | nil => cases hda
        | cons x l => cases hda; exact ⟨l, rfl⟩
      have topc : ∀ {H' : Hp}, PgAt H' pl das ds → H' pl = some (.lst (.ref da0.1 :: das'.map fun a => V.ref a.1)) := fun h => by rw [h.top, edas]; rfl
      refine ⟨_, .inl (.of o1), fun l1 nl1 => ⟨_, .inl (.of (upd_old o2 nl1)), fun l2 nl2 hd nhd => ?_⟩⟩
      have S1 := ((Same.laid nl1 (u := .lst (ns1.map V.int))).step nl2 (u := .lst (ns2.map V.int))).step nhd (u := .lst [.ref l1, .ref l2])
      have e1 := upd_old (u := .lst [.ref l1, .ref l2]) (upd_old (u := .lst (ns2.map V.int)) (upd_same (H := H) (a := l1) (o := .lst (ns1.map V.int))) nl2) nhd
      have e2 := upd_old (u := .lst [.ref l1, .ref l2]) (upd_same (H := upd H l1 (.lst (ns1.map V.int))) (a := l2) (o := .lst (ns2.map V.int))) nhd
      have e3 : upd (upd (upd H l1 (.lst (ns1.map V.int))) l2 (.lst (ns2.map V.int))) hd (.lst [.ref l1, .ref l2]) hd = some (.lst [.ref l1, .ref l2]) := upd_same
      revert S1 e1 e2 e3
      generalize upd (upd (upd H l1 (.lst (ns1.map V.int))) l2 (.lst (ns2.map V.int))) hd (.lst [.ref l1, .ref l2]) = H1
      intro S1 e1 e2 e3 x1 dx1 nx1 ndx1 ne1
      have PG1 := PG.same S1
      have PK1 := PK.same S1
      have oo1 := S1 _ _ o1
      have oo2 := S1 _ _ o2
      clear nl1 nl2 nhd PG PK o1 o2 S1
      have A1 : Same H1 (upd (upd H1 dx1 (.own x1)) x1 (.ins a.c_Hand dx1 [])) := fun q o e => by rw [upd_ne (ne_of_none e nx1), upd_ne (ne_of_none e ndx1)]; exact e
      refine ⟨x1, dx1, pl, l1, da0.1, _, _, _, _, d0.w, st1, ns1, rfl, upd_same, A1 _ _ (topc PG1), A1 _ _ (PG1.def_ 0 _ _ hda h0).at_, A1 _ _ e1, by omega, OK0.w0, OK0.w1, fun bx1 pi1 fr1 nw1 y1 H2 HA1 F2 => ⟨rfl, ?_⟩⟩
      have S2 := hand_new nx1 ndx1 F2
      clear A1
      refine ⟨_, by rw [S2 _ _ e3]; rfl, _, atI_1, fun x2 dx2 nx2 ndx2 ne2 => ?_⟩
      have PG2 := PG1.same S2
      have A2 : Same H2 (upd (upd H2 dx2 (.own x2)) x2 (.ins a.c_Hand dx2 [])) := fun q o e => by rw [upd_ne (ne_of_none e nx2), upd_ne (ne_of_none e ndx2)]; exact e
      refine ⟨x2, dx2, pl, l2, da0.1, _, _, _, _, d0.w, st2, ns2, rfl, upd_same, A2 _ _ (topc PG2), A2 _ _ (PG2.def_ 0 _ _ hda h0).at_, A2 _ _ (S2 _ _ e2), by omega, OK0.w0, OK0.w1, fun bx2 pi2 fr2 nw2 y2 H3 HA2 F3 => ⟨rfl, ?_⟩⟩
      have S3 := hand_new nx2 ndx2 F3
      clear A2
      intro t1 m1 t2 m2 du m3
      have S4 := ((Same.laid m1 (u := .tup [.ref x1, .ref D1, .int st1])).step m2 (u := .tup [.ref x2, .ref D2, .int st2])).step m3 (u := .lst [.ref t1, .ref t2])
      have f1 := upd_old (u := .lst [.ref t1, .ref t2]) (upd_old (u := .tup [.ref x2, .ref D2, .int st2]) (upd_same (H := H3) (a := t1) (o := .tup [.ref x1, .ref D1, .int st1])) m2) m3
      have f2 := upd_old (u := .lst [.ref t1, .ref t2]) (upd_same (H := upd H3 t1 (.tup [.ref x1, .ref D1, .int st1])) (a := t2) (o := .tup [.ref x2, .ref D2, .int st2])) m3
      have f3 : upd (upd (upd H3 t1 (.tup [.ref x1, .ref D1, .int st1])) t2 (.tup [.ref x2, .ref D2, .int st2])) du (.lst [.ref t1, .ref t2]) du = some (.lst [.ref t1, .ref t2]) := upd_same
      revert S4 f1 f2 f3
      generalize upd (upd (upd H3 t1 (.tup [.ref x1, .ref D1, .int st1])) t2 (.tup [.ref x2, .ref D2, .int st2])) du (.lst [.ref t1, .ref t2]) = H4
      intro S4 f1 f2 f3
      have S14 := (S2.trans S3).trans S4
      have U1 : Due a.c_Hand a.c_Yard H4 pl d0 t1 := ⟨x1, dx1, D1, bx1, pi1, fr1, nw1, y1, ns1, st1, f1, (HA1.same S3).same S4, S14 _ _ oo1, by omega⟩
      have U2 : Due a.c_Hand a.c_Yard H4 pl d0 t2 := ⟨x2, dx2, D2, bx2, pi2, fr2, nw2, y2, ns2, st2, f2, HA2.same S4, S14 _ _ oo2, by omega⟩
      have PG4 := PG1.same S14
      have PK4 := PK1.same S14
      have g1 := S14 _ _ e1
      have g2 := S14 _ _ e2
      have g3 := S14 _ _ e3
      have o1 := S14 _ _ oo1
      have o2 := S14 _ _ oo2
      clear S14 S4 S3 S2 F2 F3 HA1 HA2 f1 f2 m1 m2 m3 PG1 PK1 PG2 oo1 oo2 e1 e2 e3 nx1 ndx1 ne1 nx2 ndx2 ne2
      subst hG
      generalize hG : tSeq (tFor _ _ _) _ = tail
      have key2 : ∀ (du' ta tb : Addr) (H : Hp), H du' = some (.lst [.ref ta, .ref tb]) → Due a.c_Hand a.c_Yard H pl d0 ta → Due a.c_Hand a.c_Yard H pl d0 tb → Same H4 H → tail { nx := fun x H' => Q V.non H', rt := Q } [some (V.ref r), some (V.ref b), some (V.bl (decide (tu = 1))), some (V.ref pl), some (.ref hl), some (V.int tk), some (.ref D1), some (.ref D2), some (.int st1), some (.int st2), some (.ref hd), some (.ref x1), some (.ref x2), some (.ref du'), none, none, none, none] H := by
        intro du' ta tb H hdu Ua Ub S
        subst hG
        have PG := PG4.same S
        have PK := PK4.same S
        have g1 := S _ _ g1
        have g2 := S _ _ g2
        have g3 := S _ _ g3
        have o1 := S _ _ o1
        have o2 := S _ _ o2
        clear S PG4 PK4 f3 U1 U2
        generalize hG : tSeq (tIfS _ _ _) _ = tail
        simp! []
        refine forL (H1 := H) du' [V.ref ta, V.ref tb] (fun Q2 h2 => by simp! []; exact h2) (fun i σ H3 => ∃ (v14 v15 v16 : Option V), σ = [some (V.ref r), some (V.ref b), some (V.bl (decide (tu = 1))), some (V.ref pl), some (.ref hl), some (V.int tk), some (.ref D1), some (.ref D2), some (.int st1), some (.int st2), some (.ref hd), some (.ref x1), some (.ref x2), some (.ref du'), v14, v15, v16, none] ∧ Same H H3) ⟨_, _, _, rfl, Same.refl _⟩ (fun i σ H3 _ ⟨_, _, _, _, S⟩ => .of (S _ _ hdu)) ?_ ?_
        · rintro i x σ H3 hi ⟨v14, v15, v16, rfl, S3⟩
          have UX : ∃ t, x = .ref t ∧ Due a.c_Hand a.c_Yard H pl d0 t := by
            match i, hi with
            | 0, hi => cases hi; exact ⟨_, rfl, Ua⟩
            | 1, hi => cases hi; exact ⟨_, rfl, Ub⟩
            | i + 2, hi => simp at hi
          obtain ⟨t, rfl, U⟩ := UX
          obtain ⟨xx, dx, D, bx, pi, fr, nw, y, ins, st, q1, q2, q3, q4⟩ := U.same S3
          refine gTup_of q1 rfl ?_
          simp! []
          refine ⟨xx, dx, pl, D, bx, pi, fr, nw, y, ins, st, das, ds, d0, rfl, q2, PG.same S3, h0, OK, l8, q3, q4, fun H4 S4 => ⟨true, rfl, ?_⟩⟩
          rw [if_neg (by simp)]
          exact S3.trans S4
        · rintro σ H3 ⟨v14, v15, v16, rfl, S3⟩
          simp! []
          refine ⟨_, by rw [S3 _ _ g3]; rfl, _, atI_0, ?_⟩
          have PG3 := PG.same S3
          refine ⟨pl, l1, da0.1, _, _, _, _, d0.w, st1, ns1, rfl, topc PG3, (PG3.def_ 0 _ _ hda h0).at_, S3 _ _ g1, by omega, OK0.w0, OK0.w1, fun p t l H5 S5 hp ht hl_ => ?_⟩
          have S35 := S3.trans S5
          subst hG
          simp! [hp]
          intro q1 m1 q2 m2 q3 m3
          have S6 := ((Same.laid m1 (u := .tup [.str "far", .int 0, .int 0])).step m2 (u := .lst [])).step m3 (u := .tup [.ref q1, .ref q2])
          have R1 := far_rep (H := upd (upd (upd H5 q1 (.tup [.str "far", .int 0, .int 0])) q2 (.lst [])) q3 (.tup [.ref q1, .ref q2])) (p := q3) upd_same (upd_old (upd_old upd_same m2) m3) (upd_old upd_same m3)
          have R2 := far_rep (S6 _ _ hp) (S6 _ _ ht) (S6 _ _ hl_)
          have S36 := S35.trans S6
          revert S36 R1 R2
          generalize upd (upd (upd H5 q1 (.tup [.str "far", .int 0, .int 0])) q2 (.lst [])) q3 (.tup [.ref q1, .ref q2]) = H6
          intro R1 R2 S36
          refine ⟨_, _, R2, R1, far_shaped, far_shaped, ?_⟩
          rw [SeqAt.eqv_refl _ far_can]
          refine ⟨false, rfl, ?_⟩
          rw [if_neg (by simp)]
          intro z nz
          have S7 := S36.step nz (u := .lst [.ref D1, .ref D2])
          refine ⟨_, _, two_rep (S7 _ _ g3) (S7 _ _ g1) (S7 _ _ g2), two_rep upd_same (S7 _ _ o1) (S7 _ _ o2), two_shaped, two_shaped, ?_⟩
          rw [SeqAt.eqv_refl _ two_can]
          refine ⟨true, rfl, ?_⟩
          rw [if_pos rfl]
          refine ⟨_, _, (PG.same S7).rep OK, (PK.same S7).rep OK, pgD_shaped OK, pgD_shaped OK, ?_⟩
          rw [pgD_eq OK]
          exact fin _
      clear hG
      simp! [tRev]
      refine ite2 (fun _ => ?_) fun _ => key2 du t1 t2 H4 f3 U1 U2 (Same.refl _)
      exact ⟨_, .of f3, fun p np => key2 p t2 t1 _ upd_same (U2.same (.laid np)) (U1.same (.laid np)) (.laid np)⟩
    exact key H8 PG8 PK8 o1 o2

end
end Law

namespace Law
open PySem L2
set_option maxHeartbeats 4000000 in
theorem all_mk {l : PySem.W.OpenLaw} {w : World} {K : PySem.W.Frag} {h : Heap} {mg : Str → Option Value} {fa : Addr} {C_Yard : Addr} {C_Hand : Addr} {f0 : Addr} {od0 an0 : Option Addr} {sl0 : Array (Option Value)} {oc0 kV0 dc0 pm0 cd0 ct0 : Value} {f1 : Addr} {od1 an1 : Option Addr} {sl1 : Array (Option Value)} {oc1 kV1 dc1 pm1 cd1 ct1 : Value} {f2 : Addr} {od2 an2 : Option Addr} {sl2 : Array (Option Value)} {oc2 kV2 dc2 pm2 cd2 ct2 : Value} {f3 : Addr} {od3 an3 : Option Addr} {sl3 : Array (Option Value)} {oc3 kV3 dc3 pm3 cd3 ct3 : Value} {f4 : Addr} {od4 an4 : Option Addr} {sl4 : Array (Option Value)} {oc4 kV4 dc4 pm4 cd4 ct4 : Value} {f5 : Addr} {od5 an5 : Option Addr} {sl5 : Array (Option Value)} {oc5 kV5 dc5 pm5 cd5 ct5 : Value} {f6 : Addr} {od6 an6 : Option Addr} {sl6 : Array (Option Value)} {oc6 kV6 dc6 pm6 cd6 ct6 : Value} {f7 : Addr} {od7 an7 : Option Addr} {sl7 : Array (Option Value)} {oc7 kV7 dc7 pm7 cd7 ct7 : Value} {f8 : Addr} {od8 an8 : Option Addr} {sl8 : Array (Option Value)} {oc8 kV8 dc8 pm8 cd8 ct8 : Value} {f9 : Addr} {od9 an9 : Option Addr} {sl9 : Array (Option Value)} {oc9 kV9 dc9 pm9 cd9 ct9 : Value} {f10 : Addr} {od10 an10 : Option Addr} {sl10 : Array (Option Value)} {oc10 kV10 dc10 pm10 cd10 ct10 : Value} {f11 : Addr} {od11 an11 : Option Addr} {sl11 : Array (Option Value)} {oc11 kV11 dc11 pm11 cd11 ct11 : Value} {f12 : Addr} {od12 an12 : Option Addr} {sl12 : Array (Option Value)} {oc12 kV12 dc12 pm12 cd12 ct12 : Value} {f13 : Addr} {od13 an13 : Option Addr} {sl13 : Array (Option Value)} {oc13 kV13 dc13 pm13 cd13 ct13 : Value} {f14 : Addr} {od14 an14 : Option Addr} {sl14 : Array (Option Value)} {oc14 kV14 dc14 pm14 cd14 ct14 : Value} {f15 : Addr} {od15 an15 : Option Addr} {sl15 : Array (Option Value)} {oc15 kV15 dc15 pm15 cd15 ct15 : Value} {f16 : Addr} {od16 an16 : Option Addr} {sl16 : Array (Option Value)} {oc16 kV16 dc16 pm16 cd16 ct16 : Value} {f17 : Addr} {od17 an17 : Option Addr} {sl17 : Array (Option Value)} {oc17 kV17 dc17 pm17 cd17 ct17 : Value} {f18 : Addr} {od18 an18 : Option Addr} {sl18 : Array (Option Value)} {oc18 kV18 dc18 pm18 cd18 ct18 : Value} {tk_BOXES : Nat} {tk_UNSET : Nat}
    (X : K.In h) (G : h.Ns mainGlobals mg) (hfa : mg "law" = some (.ref fa))
    (aC_Yard : PySem.W.nsIn K mainGlobals "Yard" = some (some (.ref C_Yard)))
    (pg_Yard : PySem.W.plainGet K C_Yard Str.empty = true)
    (hd_Yard : PySem.W.hasDictIn K C_Yard = true)
    (po_Yard : PySem.W.plainOver K C_Yard = true)
    (sa_Yard : PySem.W.findIn K (.ref C_Yard) "__setattr__" = some (some (.builtin "object.__setattr__")))
    (mk_Yard : PySem.W.makesIn K C_Yard = true)
    (kc_Yard : PySem.W.keepIn K (.ref C_Yard) = true)
    (nA_free : PySem.W.findIn K (.ref C_Yard) "free" = some none)
    (nA_words : PySem.W.findIn K (.ref C_Yard) "words" = some none)
    (nA_sizes : PySem.W.findIn K (.ref C_Yard) "sizes" = some none)
    (aC_Hand : PySem.W.nsIn K mainGlobals "Hand" = some (some (.ref C_Hand)))
    (pg_Hand : PySem.W.plainGet K C_Hand Str.empty = true)
    (hd_Hand : PySem.W.hasDictIn K C_Hand = true)
    (po_Hand : PySem.W.plainOver K C_Hand = true)
    (sa_Hand : PySem.W.findIn K (.ref C_Hand) "__setattr__" = some (some (.builtin "object.__setattr__")))
    (mk_Hand : PySem.W.makesIn K C_Hand = true)
    (kc_Hand : PySem.W.keepIn K (.ref C_Hand) = true)
    (nA_program : PySem.W.findIn K (.ref C_Hand) "program" = some none)
    (nA_f : PySem.W.findIn K (.ref C_Hand) "f" = some none)
    (nA_at : PySem.W.findIn K (.ref C_Hand) "at" = some none)
    (nA_boxes : PySem.W.findIn K (.ref C_Hand) "boxes" = some none)
    (nA_pile : PySem.W.findIn K (.ref C_Hand) "pile" = some none)
    (nA_frames : PySem.W.findIn K (.ref C_Hand) "frames" = some none)
    (nA_yard : PySem.W.findIn K (.ref C_Hand) "yard" = some none)
    (nA_news : PySem.W.findIn K (.ref C_Hand) "news" = some none)
    (nA_end : PySem.W.findIn K (.ref C_Hand) "end" = some none)
    (a0 : PySem.W.findIn K (.ref C_Yard) "__init__" = some (some (.ref f0))) (i0 : PySem.W.isFn K (.ref f0) = true)
    (l0 : K.lookup f0 = some ⟨oc0, od0, .func (PySem.W.fnOf "__init__" "Yard.__init__" (defArgs s_Yard___init) (defBody s_Yard___init) (defScope s_Yard___init) .none kV0 dc0 pm0 an0 cd0 ct0), sl0⟩) (c0 : PySem.W.codeIn K cd0 "Yard.__init__" = true) (k0 : PySem.W.keepIn K (.ref f0) = true)
    (a1 : PySem.W.findIn K (.ref C_Yard) "holds_of" = some (some (.ref f1))) (i1 : PySem.W.isFn K (.ref f1) = true)
    (l1 : K.lookup f1 = some ⟨oc1, od1, .func (PySem.W.fnOf "holds_of" "Yard.holds_of" (defArgs s_Yard_holds_of) (defBody s_Yard_holds_of) (defScope s_Yard_holds_of) .none kV1 dc1 pm1 an1 cd1 ct1), sl1⟩) (c1 : PySem.W.codeIn K cd1 "Yard.holds_of" = true) (k1 : PySem.W.keepIn K (.ref f1) = true)
    (a2 : PySem.W.findIn K (.ref C_Yard) "numbers_of" = some (some (.ref f2))) (i2 : PySem.W.isFn K (.ref f2) = true)
    (l2 : K.lookup f2 = some ⟨oc2, od2, .func (PySem.W.fnOf "numbers_of" "Yard.numbers_of" (defArgs s_Yard_numbers_of) (defBody s_Yard_numbers_of) (defScope s_Yard_numbers_of) .none kV2 dc2 pm2 an2 cd2 ct2), sl2⟩) (c2 : PySem.W.codeIn K cd2 "Yard.numbers_of" = true) (k2 : PySem.W.keepIn K (.ref f2) = true)
    (a3 : PySem.W.findIn K (.ref C_Yard) "told" = some (some (.ref f3))) (i3 : PySem.W.isFn K (.ref f3) = true)
    (l3 : K.lookup f3 = some ⟨oc3, od3, .func (PySem.W.fnOf "told" "Yard.told" (defArgs s_Yard_told) (defBody s_Yard_told) (defScope s_Yard_told) .none kV3 dc3 pm3 an3 cd3 ct3), sl3⟩) (c3 : PySem.W.codeIn K cd3 "Yard.told" = true) (k3 : PySem.W.keepIn K (.ref f3) = true)
    (a4 : PySem.W.findIn K (.ref C_Hand) "__init__" = some (some (.ref f4))) (i4 : PySem.W.isFn K (.ref f4) = true)
    (l4 : K.lookup f4 = some ⟨oc4, od4, .func (PySem.W.fnOf "__init__" "Hand.__init__" (defArgs s_Hand___init) (defBody s_Hand___init) (defScope s_Hand___init) .none kV4 dc4 pm4 an4 cd4 ct4), sl4⟩) (c4 : PySem.W.codeIn K cd4 "Hand.__init__" = true) (k4 : PySem.W.keepIn K (.ref f4) = true)
    (a5 : PySem.W.findIn K (.ref C_Hand) "go" = some (some (.ref f5))) (i5 : PySem.W.isFn K (.ref f5) = true)
    (l5 : K.lookup f5 = some ⟨oc5, od5, .func (PySem.W.fnOf "go" "Hand.go" (defArgs s_Hand_go) (defBody s_Hand_go) (defScope s_Hand_go) .none kV5 dc5 pm5 an5 cd5 ct5), sl5⟩) (c5 : PySem.W.codeIn K cd5 "Hand.go" = true) (k5 : PySem.W.keepIn K (.ref f5) = true)
    (a6 : PySem.W.nsIn K mainGlobals "outcome" = some (some (.ref f6)))
    (l6 : K.lookup f6 = some ⟨oc6, od6, .func (PySem.W.fnOf "outcome" "outcome" (defArgs s_outcome) (defBody s_outcome) (defScope s_outcome) .none kV6 dc6 pm6 an6 cd6 ct6), sl6⟩) (c6 : PySem.W.codeIn K cd6 "outcome" = true) (k6 : PySem.W.keepIn K (.ref f6) = true)
    (a7 : PySem.W.nsIn K mainGlobals "run" = some (some (.ref f7)))
    (l7 : K.lookup f7 = some ⟨oc7, od7, .func (PySem.W.fnOf "run" "run" (defArgs s_run) (defBody s_run) (defScope s_run) .none kV7 dc7 pm7 an7 cd7 ct7), sl7⟩) (c7 : PySem.W.codeIn K cd7 "run" = true) (k7 : PySem.W.keepIn K (.ref f7) = true)
    (a8 : PySem.W.nsIn K mainGlobals "_law_bag" = some (some (.ref f8)))
    (l8 : K.lookup f8 = some ⟨oc8, od8, .func (PySem.W.fnOf "_law_bag" "_law_bag" (defArgs s_law_bag) (defBody s_law_bag) (defScope s_law_bag) .none kV8 dc8 pm8 an8 cd8 ct8), sl8⟩) (c8 : PySem.W.codeIn K cd8 "_law_bag" = true) (k8 : PySem.W.keepIn K (.ref f8) = true)
    (a9 : PySem.W.nsIn K mainGlobals "_law_draw" = some (some (.ref f9)))
    (l9 : K.lookup f9 = some ⟨oc9, od9, .func (PySem.W.fnOf "_law_draw" "_law_draw" (defArgs s_law_draw) (defBody s_law_draw) (defScope s_law_draw) .none kV9 dc9 pm9 an9 cd9 ct9), sl9⟩) (c9 : PySem.W.codeIn K cd9 "_law_draw" = true) (k9 : PySem.W.keepIn K (.ref f9) = true)
    (a10 : PySem.W.nsIn K mainGlobals "_law_whole" = some (some (.ref f10)))
    (l10 : K.lookup f10 = some ⟨oc10, od10, .func (PySem.W.fnOf "_law_whole" "_law_whole" (defArgs s_law_whole) (defBody s_law_whole) (defScope s_law_whole) .none kV10 dc10 pm10 an10 cd10 ct10), sl10⟩) (c10 : PySem.W.codeIn K cd10 "_law_whole" = true) (k10 : PySem.W.keepIn K (.ref f10) = true)
    (a11 : PySem.W.nsIn K mainGlobals "_law_words" = some (some (.ref f11)))
    (l11 : K.lookup f11 = some ⟨oc11, od11, .func (PySem.W.fnOf "_law_words" "_law_words" (defArgs s_law_words) (defBody s_law_words) (defScope s_law_words) .none kV11 dc11 pm11 an11 cd11 ct11), sl11⟩) (c11 : PySem.W.codeIn K cd11 "_law_words" = true) (k11 : PySem.W.keepIn K (.ref f11) = true)
    (a12 : PySem.W.nsIn K mainGlobals "_law_number" = some (some (.ref f12)))
    (l12 : K.lookup f12 = some ⟨oc12, od12, .func (PySem.W.fnOf "_law_number" "_law_number" (defArgs s_law_number) (defBody s_law_number) (defScope s_law_number) .none kV12 dc12 pm12 an12 cd12 ct12), sl12⟩) (c12 : PySem.W.codeIn K cd12 "_law_number" = true) (k12 : PySem.W.keepIn K (.ref f12) = true)
    (a13 : PySem.W.nsIn K mainGlobals "_law_start" = some (some (.ref f13)))
    (l13 : K.lookup f13 = some ⟨oc13, od13, .func (PySem.W.fnOf "_law_start" "_law_start" (defArgs s_law_start) (defBody s_law_start) (defScope s_law_start) .none kV13 dc13 pm13 an13 cd13 ct13), sl13⟩) (c13 : PySem.W.codeIn K cd13 "_law_start" = true) (k13 : PySem.W.keepIn K (.ref f13) = true)
    (a14 : PySem.W.nsIn K mainGlobals "_law_letters" = some (some (.ref f14)))
    (l14 : K.lookup f14 = some ⟨oc14, od14, .func (PySem.W.fnOf "_law_letters" "_law_letters" (defArgs s_law_letters) (defBody s_law_letters) (defScope s_law_letters) .none kV14 dc14 pm14 an14 cd14 ct14), sl14⟩) (c14 : PySem.W.codeIn K cd14 "_law_letters" = true) (k14 : PySem.W.keepIn K (.ref f14) = true)
    (a15 : PySem.W.nsIn K mainGlobals "_law_def" = some (some (.ref f15)))
    (l15 : K.lookup f15 = some ⟨oc15, od15, .func (PySem.W.fnOf "_law_def" "_law_def" (defArgs s_law_def) (defBody s_law_def) (defScope s_law_def) .none kV15 dc15 pm15 an15 cd15 ct15), sl15⟩) (c15 : PySem.W.codeIn K cd15 "_law_def" = true) (k15 : PySem.W.keepIn K (.ref f15) = true)
    (a16 : PySem.W.nsIn K mainGlobals "_law_program" = some (some (.ref f16)))
    (l16 : K.lookup f16 = some ⟨oc16, od16, .func (PySem.W.fnOf "_law_program" "_law_program" (defArgs s_law_program) (defBody s_law_program) (defScope s_law_program) .none kV16 dc16 pm16 an16 cd16 ct16), sl16⟩) (c16 : PySem.W.codeIn K cd16 "_law_program" = true) (k16 : PySem.W.keepIn K (.ref f16) = true)
    (a17 : PySem.W.nsIn K mainGlobals "_law_begun" = some (some (.ref f17)))
    (l17 : K.lookup f17 = some ⟨oc17, od17, .func (PySem.W.fnOf "_law_begun" "_law_begun" (defArgs s_law_begun) (defBody s_law_begun) (defScope s_law_begun) .none kV17 dc17 pm17 an17 cd17 ct17), sl17⟩) (c17 : PySem.W.codeIn K cd17 "_law_begun" = true) (k17 : PySem.W.keepIn K (.ref f17) = true)
    (a18 : PySem.W.nsIn K mainGlobals "law" = some (some (.ref f18)))
    (l18 : K.lookup f18 = some ⟨oc18, od18, .func (PySem.W.fnOf "law" "law" (defArgs s_law) (defBody s_law) (defScope s_law) .none kV18 dc18 pm18 an18 cd18 ct18), sl18⟩) (c18 : PySem.W.codeIn K cd18 "law" = true) (k18 : PySem.W.keepIn K (.ref f18) = true)
    (z_abs : PySem.W.nsIn K mainGlobals "abs" = some none)
    (z_bool : PySem.W.nsIn K mainGlobals "bool" = some none)
    (z_int : PySem.W.nsIn K mainGlobals "int" = some none)
    (z_isinstance : PySem.W.nsIn K mainGlobals "isinstance" = some none)
    (z_len : PySem.W.nsIn K mainGlobals "len" = some none)
    (z_list : PySem.W.nsIn K mainGlobals "list" = some none)
    (z_range : PySem.W.nsIn K mainGlobals "range" = some none)
    (z_sorted : PySem.W.nsIn K mainGlobals "sorted" = some none)
    (z_tuple : PySem.W.nsIn K mainGlobals "tuple" = some none)
    (aK_BOXES : PySem.W.nsIn K mainGlobals "BOXES" = some (some (.int (8) tk_BOXES)))
    (aK_UNSET : PySem.W.nsIn K mainGlobals "UNSET" = some (some (.int (-1) tk_UNSET))) :
    ∃ fd : FuncData, (∀ (s : Shared) (v : Value), BindsTo s fd ⟨[v], []⟩ [("script", v)]) ∧ ∀ base : Heap, K.In base → base.Ns mainGlobals mg → FnOk l.prog w K mg base CX0 6 fa fd ["script"] (spLaw K) := by
  have e := hfa.symm.trans (PySem.W.mg_of X G a18)
  cases e
  have F0 := fun_mk (st := s_Yard___init) l0 c0 k0
  have b0 := F0.binds (ps := ["self", "start"]) fun _ _ _ _ _ _ us hl => match us, hl with | [_, _], _ => rfl
  have F1 := fun_mk (st := s_Yard_holds_of) l1 c1 k1
  have b1 := F1.binds (ps := ["self", "at"]) fun _ _ _ _ _ _ us hl => match us, hl with | [_, _], _ => rfl
  have F2 := fun_mk (st := s_Yard_numbers_of) l2 c2 k2
  have b2 := F2.binds (ps := ["self", "at"]) fun _ _ _ _ _ _ us hl => match us, hl with | [_, _], _ => rfl
  have F3 := fun_mk (st := s_Yard_told) l3 c3 k3
  have b3 := F3.binds (ps := ["self"]) fun _ _ _ _ _ _ us hl => match us, hl with | [_], _ => rfl
  have F4 := fun_mk (st := s_Hand___init) l4 c4 k4
  have b4 := F4.binds (ps := ["self", "program", "inputs", "start"]) fun _ _ _ _ _ _ us hl => match us, hl with | [_, _, _, _], _ => rfl
  have F5 := fun_mk (st := s_Hand_go) l5 c5 k5
  have b5 := F5.binds (ps := ["self"]) fun _ _ _ _ _ _ us hl => match us, hl with | [_], _ => rfl
  have F6 := fun_mk (st := s_outcome) l6 c6 k6
  have b6 := F6.binds (ps := ["hand"]) fun _ _ _ _ _ _ us hl => match us, hl with | [_], _ => rfl
  have F7 := fun_mk (st := s_run) l7 c7 k7
  have b7 := F7.binds (ps := ["program", "inputs", "most", "start"]) fun _ _ _ _ _ _ us hl => match us, hl with | [_, _, _, _], _ => rfl
  have F8 := fun_mk (st := s_law_bag) l8 c8 k8
  have b8 := F8.binds (ps := ["script"]) fun _ _ _ _ _ _ us hl => match us, hl with | [_], _ => rfl
  have F9 := fun_mk (st := s_law_draw) l9 c9 k9
  have b9 := F9.binds (ps := ["bag", "many"]) fun _ _ _ _ _ _ us hl => match us, hl with | [_, _], _ => rfl
  have F10 := fun_mk (st := s_law_whole) l10 c10 k10
  have b10 := F10.binds (ps := ["found"]) fun _ _ _ _ _ _ us hl => match us, hl with | [_], _ => rfl
  have F11 := fun_mk (st := s_law_words) l11 c11 k11
  have b11 := F11.binds (ps := ["found", "due"]) fun _ _ _ _ _ _ us hl => match us, hl with | [_, _], _ => rfl
  have F12 := fun_mk (st := s_law_number) l12 c12 k12
  have b12 := F12.binds (ps := ["bag"]) fun _ _ _ _ _ _ us hl => match us, hl with | [_], _ => rfl
  have F13 := fun_mk (st := s_law_start) l13 c13 k13
  have b13 := F13.binds (ps := ["bag"]) fun _ _ _ _ _ _ us hl => match us, hl with | [_], _ => rfl
  have F14 := fun_mk (st := s_law_letters) l14 c14 k14
  have b14 := F14.binds (ps := ["bag", "many"]) fun _ _ _ _ _ _ us hl => match us, hl with | [_, _], _ => rfl
  have F15 := fun_mk (st := s_law_def) l15 c15 k15
  have b15 := F15.binds (ps := ["bag", "takes", "gives"]) fun _ _ _ _ _ _ us hl => match us, hl with | [_, _, _], _ => rfl
  have F16 := fun_mk (st := s_law_program) l16 c16 k16
  have b16 := F16.binds (ps := ["bag"]) fun _ _ _ _ _ _ us hl => match us, hl with | [_], _ => rfl
  have F17 := fun_mk (st := s_law_begun) l17 c17 k17
  have b17 := F17.binds (ps := ["hand", "program", "numbers", "start"]) fun _ _ _ _ _ _ us hl => match us, hl with | [_, _, _, _], _ => rfl
  have F18 := fun_mk (st := s_law) l18 c18 k18
  have b18 := F18.binds (ps := ["script"]) fun _ _ _ _ _ _ us hl => match us, hl with | [_], _ => rfl
  have T : Txt K mg ⟨_, _, _, _, _, _, _, _, _, _, _, _, _, _, _, _, _, _, _, _, _, _, _, _, _, _, _, _, _, _, _, _, _, _, _, _, _, _, _, _, _, _⟩ := ⟨⟨pg_Yard, hd_Yard, po_Yard, sa_Yard⟩, PySem.W.mg_of X G aC_Yard, ⟨mk_Yard, a0, i0, kc_Yard⟩, nA_free, nA_words, nA_sizes, ⟨pg_Hand, hd_Hand, po_Hand, sa_Hand⟩, PySem.W.mg_of X G aC_Hand, ⟨mk_Hand, a4, i4, kc_Hand⟩, nA_program, nA_f, nA_at, nA_boxes, nA_pile, nA_frames, nA_yard, nA_news, nA_end, F0, b0, F1, b1, ⟨a1, i1, k1⟩, F2, b2, ⟨a2, i2, k2⟩, F3, b3, ⟨a3, i3, k3⟩, F4, b4, F5, b5, ⟨a5, i5, k5⟩, F6, b6, PySem.W.mg_of X G a6, F7, b7, PySem.W.mg_of X G a7, F8, b8, PySem.W.mg_of X G a8, F9, b9, PySem.W.mg_of X G a9, F10, b10, PySem.W.mg_of X G a10, F11, b11, PySem.W.mg_of X G a11, F12, b12, PySem.W.mg_of X G a12, F13, b13, PySem.W.mg_of X G a13, F14, b14, PySem.W.mg_of X G a14, F15, b15, PySem.W.mg_of X G a15, F16, b16, PySem.W.mg_of X G a16, F17, b17, PySem.W.mg_of X G a17, F18, b18, PySem.W.mg_of X G a18, PySem.W.mg_none_of X G z_abs, PySem.W.mg_none_of X G z_bool, PySem.W.mg_none_of X G z_int, PySem.W.mg_none_of X G z_isinstance, PySem.W.mg_none_of X G z_len, PySem.W.mg_none_of X G z_list, PySem.W.mg_none_of X G z_range, PySem.W.mg_none_of X G z_sorted, PySem.W.mg_none_of X G z_tuple, PySem.W.mg_of X G aK_BOXES, PySem.W.mg_of X G aK_UNSET⟩
  exact ⟨_, fun s v => .of_eq rfl, fun base _ _ => ok_law T⟩
theorem walk {l : PySem.W.OpenLaw} {q : Program} {loose : List Str} {XP : (Str → Option Value) → Heap → Prop} {YP : World → Heap → Prop} {d : DefRec} {K : Params → PySem.W.Frag} (hn : l.most = some 63) (hdf : d.params.defaults = [])
    (hY : ∀ (w : World) (h : Heap), YP w h → (K w.params).In h)
    (F : ∀ (w : World) (mg : Str → Option Value) (fa : Addr) (h : Heap), (K w.params).In h → h.Ns mainGlobals mg → mg d.name = some (.ref fa) →
      ∃ fd : FuncData, (∀ (s : Shared) (u : Value), BindsTo s fd ⟨[u], []⟩ [("script", u)]) ∧ ∀ base : Heap, (K w.params).In base → base.Ns mainGlobals mg → FnOk l.prog w (K w.params) mg base CX0 6 fa fd ["script"] (spLaw (K w.params))) :
    PySem.W.WalkO q loose XP YP l.row.toRowW d [] (fun f vs => PySem.call f vs) :=
  L2.walk_of (n := 63) (k := 6) (x := "script") (CX := fun w => CX0) (sp := fun w => spLaw (K w.params)) hn (by decide) hdf ⟨rfl, by decide, by decide⟩ hY F (fun _ _ a ns hl _ hS => ⟨a, ns, rfl, hS, hl, fun _ => rfl⟩) fun _ _ _ _ _ z => z
end Law
open PySem PySem.W PyProof.Rows
theorem PySem.W.Fast.tw5929069943031608374 : True := trivial
theorem PySem.W.Fast.tw13390490947426910185 : True := trivial
theorem PySem.W.Fast.tw250880261594508821 : True := trivial
theorem PySem.W.Fast.tw5642097967104669445 : True := trivial
theorem PySem.W.Fast.tw8154241590520770894 : True := trivial
theorem PySem.W.Fast.tw7535757599158518363 : True := trivial
theorem PySem.W.Fast.tw5740028698783664419 : True := trivial
theorem PySem.W.Fast.tw3814365209408992465 : True := trivial
theorem PySem.W.Fast.tw2429536282978952236 : True := trivial
theorem PySem.W.Fast.tw15528034966803113893 : True := trivial
theorem PySem.W.Fast.tw17213954729279857258 : True := trivial
theorem PySem.W.Fast.tw9992799487316968089 : True := trivial
set_option maxRecDepth 100000 in
set_option maxHeartbeats 0 in
theorem PySem.Challenge.cw_knownholds_k21_a_hand_begins_holds : PySem.Challenge.rw_knownholds_k21_a_hand_begins.Holds := by
  w_on; o_law; k_head; (case hw => w_witness2)
  k_fill
  refine Law.walk (l := PySem.Challenge.rw_knownholds_k21_a_hand_begins) rfl rfl (fun w h Y => PySem.W.kIn_of Y) ?F
  case F =>
    intro w mg fa h KX G hmg
    refine' Law.all_mk KX G hmg ?aC_Yard ?pg_Yard ?hd_Yard ?po_Yard ?sa_Yard ?mk_Yard ?kc_Yard ?nA_free ?nA_words ?nA_sizes ?aC_Hand ?pg_Hand ?hd_Hand ?po_Hand ?sa_Hand ?mk_Hand ?kc_Hand ?nA_program ?nA_f ?nA_at ?nA_boxes ?nA_pile ?nA_frames ?nA_yard ?nA_news ?nA_end ?a0 ?i0 ?l0 ?c0 ?k0 ?a1 ?i1 ?l1 ?c1 ?k1 ?a2 ?i2 ?l2 ?c2 ?k2 ?a3 ?i3 ?l3 ?c3 ?k3 ?a4 ?i4 ?l4 ?c4 ?k4 ?a5 ?i5 ?l5 ?c5 ?k5 ?a6 ?l6 ?c6 ?k6 ?a7 ?l7 ?c7 ?k7 ?a8 ?l8 ?c8 ?k8 ?a9 ?l9 ?c9 ?k9 ?a10 ?l10 ?c10 ?k10 ?a11 ?l11 ?c11 ?k11 ?a12 ?l12 ?c12 ?k12 ?a13 ?l13 ?c13 ?k13 ?a14 ?l14 ?c14 ?k14 ?a15 ?l15 ?c15 ?k15 ?a16 ?l16 ?c16 ?k16 ?a17 ?l17 ?c17 ?k17 ?a18 ?l18 ?c18 ?k18 ?z_abs ?z_bool ?z_int ?z_isinstance ?z_len ?z_list ?z_range ?z_sorted ?z_tuple ?aK_BOXES ?aK_UNSET
    (case aC_Yard => k_is)
    (case pg_Yard => k_is)
    (case hd_Yard => k_is)
    (case po_Yard => k_is)
    (case sa_Yard => k_is)
    (case mk_Yard => k_is)
    (case kc_Yard => k_is)
    (case nA_free => k_is)
    (case nA_words => k_is)
    (case nA_sizes => k_is)
    (case aC_Hand => k_is)
    (case pg_Hand => k_is)
    (case hd_Hand => k_is)
    (case po_Hand => k_is)
    (case sa_Hand => k_is)
    (case mk_Hand => k_is)
    (case kc_Hand => k_is)
    (case nA_program => k_is)
    (case nA_f => k_is)
    (case nA_at => k_is)
    (case nA_boxes => k_is)
    (case nA_pile => k_is)
    (case nA_frames => k_is)
    (case nA_yard => k_is)
    (case nA_news => k_is)
    (case nA_end => k_is)
    (case a0 => k_is)
    (case i0 => k_is)
    (case l0 => k_is)
    (case c0 => k_is)
    (case k0 => k_is)
    (case a1 => k_is)
    (case i1 => k_is)
    (case l1 => k_is)
    (case c1 => k_is)
    (case k1 => k_is)
    (case a2 => k_is)
    (case i2 => k_is)
    (case l2 => k_is)
    (case c2 => k_is)
    (case k2 => k_is)
    (case a3 => k_is)
    (case i3 => k_is)
    (case l3 => k_is)
    (case c3 => k_is)
    (case k3 => k_is)
    (case a4 => k_is)
    (case i4 => k_is)
    (case l4 => k_is)
    (case c4 => k_is)
    (case k4 => k_is)
    (case a5 => k_is)
    (case i5 => k_is)
    (case l5 => k_is)
    (case c5 => k_is)
    (case k5 => k_is)
    (case a6 => k_is)
    (case l6 => k_is)
    (case c6 => k_is)
    (case k6 => k_is)
    (case a7 => k_is)
    (case l7 => k_is)
    (case c7 => k_is)
    (case k7 => k_is)
    (case a8 => k_is)
    (case l8 => k_is)
    (case c8 => k_is)
    (case k8 => k_is)
    (case a9 => k_is)
    (case l9 => k_is)
    (case c9 => k_is)
    (case k9 => k_is)
    (case a10 => k_is)
    (case l10 => k_is)
    (case c10 => k_is)
    (case k10 => k_is)
    (case a11 => k_is)
    (case l11 => k_is)
    (case c11 => k_is)
    (case k11 => k_is)
    (case a12 => k_is)
    (case l12 => k_is)
    (case c12 => k_is)
    (case k12 => k_is)
    (case a13 => k_is)
    (case l13 => k_is)
    (case c13 => k_is)
    (case k13 => k_is)
    (case a14 => k_is)
    (case l14 => k_is)
    (case c14 => k_is)
    (case k14 => k_is)
    (case a15 => k_is)
    (case l15 => k_is)
    (case c15 => k_is)
    (case k15 => k_is)
    (case a16 => k_is)
    (case l16 => k_is)
    (case c16 => k_is)
    (case k16 => k_is)
    (case a17 => k_is)
    (case l17 => k_is)
    (case c17 => k_is)
    (case k17 => k_is)
    (case a18 => k_is)
    (case l18 => k_is)
    (case c18 => k_is)
    (case k18 => k_is)
    (case z_abs => k_is)
    (case z_bool => k_is)
    (case z_int => k_is)
    (case z_isinstance => k_is)
    (case z_len => k_is)
    (case z_list => k_is)
    (case z_range => k_is)
    (case z_sorted => k_is)
    (case z_tuple => k_is)
    (case aK_BOXES => k_is)
    (case aK_UNSET => k_is)

