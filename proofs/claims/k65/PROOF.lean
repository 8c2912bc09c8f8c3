import PyProof.Rows.All
import Wide.All
import OpenK.AllK
import Wide.FinOn
import Lean
import PyProof.EqAt
import PyProof.EqKinds
import PyProof.TupleCall
import KE.KTab
import PyProof.ListRange
import PySem.Challenge.RW_knownholds_k65_whole_rounds_meet_rests
set_option Elab.async false
set_option linter.all false
set_option maxRecDepth 100000
namespace L2
open PySem PySem.Spec PyProof.Rows

/-- a key: an int or a str -/
abbrev Key := Sum Int Str
def keyIs : Key → Value → Bool
  | .inl k, v => Value.isInt k v
  | .inr x, v => Value.isStrOf x v
def keyH (w : World) : Key → Int
  | .inl k => hashInt k
  | .inr x => hashStr w x
theorem keyIs_shape : ∀ {k : Key} {v : Value}, keyIs k v = true → (∃ i t, k = Sum.inl i ∧ v = Value.int i t) ∨ (∃ x t, k = Sum.inr x ∧ v = Value.str x t)
  | .inl i, v, h => by
    obtain ⟨t, e⟩ := Value.isInt_shape (k := i) (v := v) h
    exact .inl ⟨i, t, rfl, e⟩
  | .inr x, v, h => by
    obtain ⟨t, e⟩ := Value.isStrOf_shape (x := x) (v := v) h
    exact .inr ⟨x, t, rfl, e⟩
theorem keyIs_int (i : Int) (t : Tok) : keyIs (.inl i) (.int i t) = true := by simp [keyIs, Value.isInt]
theorem keyIs_str (x : Str) (t : Tok) : keyIs (.inr x) (.str x t) = true := by simp [keyIs, Value.isStrOf]
theorem key_ll (a b : Int) : decide ((Sum.inl a : Key) = Sum.inl b) = (a == b) := by
  by_cases e : a = b
  · subst e; simp
  · have h : ¬ (Sum.inl a : Key) = Sum.inl b := fun q => e (Sum.inl.inj q)
    rw [decide_eq_false h]
    exact (beq_eq_false_iff_ne.mpr e).symm
theorem key_rr (a b : Str) : decide ((Sum.inr a : Key) = Sum.inr b) = decide (a = b) := by
  by_cases e : a = b
  · subst e; simp
  · have h : ¬ (Sum.inr a : Key) = Sum.inr b := fun q => e (Sum.inr.inj q)
    rw [decide_eq_false h, decide_eq_false e]
theorem key_lr (a : Int) (b : Str) : decide ((Sum.inl a : Key) = Sum.inr b) = false := decide_eq_false (fun q => nomatch q)
theorem key_rl (a : Str) (b : Int) : decide ((Sum.inr a : Key) = Sum.inl b) = false := decide_eq_false (fun q => nomatch q)

def mixKind (prog : Program) (w : World) : PySem.KeyKind prog w Key where
  is := keyIs
  hash := keyH w
  inj := fun v a b ha hb => by
    rcases keyIs_shape ha with ⟨i, t, rfl, rfl⟩ | ⟨x, t, rfl, rfl⟩
    · rcases keyIs_shape hb with ⟨j, u, rfl, e⟩ | ⟨y, u, rfl, e⟩
      · injection e with e1 _; rw [e1]
      · exact nomatch e
    · rcases keyIs_shape hb with ⟨j, u, rfl, e⟩ | ⟨y, u, rfl, e⟩
      · exact nomatch e
      · injection e with e1 _; rw [e1]
  byValue := fun k v h => by
    rcases keyIs_shape h with ⟨i, t, rfl, rfl⟩ | ⟨x, t, rfl, rfl⟩ <;> rfl
  pyHash := fun hv h => by
    rcases keyIs_shape hv with ⟨i, t, rfl, rfl⟩ | ⟨x, t, rfl, rfl⟩
    · exact wpAny_pyHash_int h
    · exact wpAny_pyHash_str h
  eqBool := fun hu hv h => by
    rcases keyIs_shape hu with ⟨i, t, rfl, rfl⟩ | ⟨x, t, rfl, rfl⟩
    · rcases keyIs_shape hv with ⟨j, u, rfl, rfl⟩ | ⟨y, u, rfl, rfl⟩
      · rw [key_ll] at h; exact wpAny_eqBool_int h
      · rw [key_lr] at h; exact SeqAt.EqAt.int_str i t y u _ _ _ _ h
    · rcases keyIs_shape hv with ⟨j, u, rfl, rfl⟩ | ⟨y, u, rfl, rfl⟩
      · rw [key_rl] at h; exact SeqAt.EqAt.str_int x t j u _ _ _ _ h
      · rw [key_rr] at h; exact wpAny_eqBool_str h
  «strs» := fun k x t v h => by
    rcases keyIs_shape h with ⟨i, u, rfl, e⟩ | ⟨y, u, rfl, e⟩
    · exact nomatch e
    · injection e with e1 _
      subst e1
      cases v <;> rfl

theorem mixKind_int (prog : Program) (w : World) (i : Int) (t : Tok) : (mixKind prog w).is (.inl i) (.int i t) = true := keyIs_int i t
theorem mixKind_str (prog : Program) (w : World) (x : Str) (t : Tok) : (mixKind prog w).is (.inr x) (.str x t) = true := keyIs_str x t
end L2

namespace L2
open PySem PySem.Spec PyProof.Rows

/-- a value, without the heap -/
inductive V where
  | non | bl (b : Bool) | int (i : Int) | str (x : Str) | byt (b : Array UInt8) | flt (b : UInt64) | ref (a : Addr) | ty (n : String)
  deriving DecidableEq

def RelV : V → Value → Prop
  | .non, u => u = Value.none
  | .bl b, u => u = Value.bool b
  | .int i, u => ∃ t, u = Value.int i t
  | .str x, u => ∃ t, u = Value.str x t
  | .byt b, u => ∃ t, u = Value.bytes b t
  | .flt b, u => ∃ t, u = Value.float b t
  | .ref a, u => u = Value.ref a
  | .ty n, u => u = Value.type n

abbrev Vals : List V → List Value → Prop := Paired RelV
theorem Vals.length {xs : List V} {us : List Value} (r : Vals xs us) : xs.length = us.length := Paired.length r
theorem Vals.get : ∀ {xs : List V} {us : List Value} {i : Nat} {x : V}, Vals xs us → xs[i]? = some x → ∃ u, us[i]? = some u ∧ RelV x u
  | _, _, _, _, .nil, e => by simp at e
  | _, _, 0, _, .cons r _, e => by simp at e; subst e; exact ⟨_, rfl, r⟩
  | _, _, i + 1, x, .cons _ t, e => by
    obtain ⟨u, h1, h2⟩ := Vals.get (i := i) (x := x) t (by simpa using e)
    exact ⟨u, by simpa using h1, h2⟩
theorem Vals.set {x : V} {u : Value} (r : RelV x u) : ∀ {xs : List V} {us : List Value} (i : Nat), Vals xs us → Vals (xs.set i x) (us.set i u)
  | _, _, _, .nil => .nil
  | _, _, 0, .cons _ t => .cons r t
  | _, _, i + 1, .cons q t => .cons q (Vals.set r i t)
theorem Vals.append : ∀ {xs ys : List V} {us ws : List Value}, Vals xs us → Vals ys ws → Vals (xs ++ ys) (us ++ ws)
  | _, _, _, _, .nil, s => s
  | _, _, _, _, .cons r t, s => .cons r (Vals.append t s)
theorem Vals.take : ∀ {xs : List V} {us : List Value} (n : Nat), Vals xs us → Vals (xs.take n) (us.take n)
  | _, _, 0, _ => .nil
  | _, _, _ + 1, .nil => .nil
  | _, _, n + 1, .cons r t => .cons r (Vals.take n t)
theorem Vals.drop : ∀ {xs : List V} {us : List Value} (n : Nat), Vals xs us → Vals (xs.drop n) (us.drop n)
  | _, _, 0, r => r
  | _, _, _ + 1, .nil => .nil
  | _, _, n + 1, .cons _ t => Vals.drop n t
def RelO : Option V → Option Value → Prop
  | some v, some u => RelV v u
  | none, none => True
  | _, _ => False
def KV {κ : Type} : List (κ × V) → List (κ × Value) → Prop := Paired fun (p : κ × V) (q : κ × Value) => p.1 = q.1 ∧ RelV p.2 q.2

/-- a key of a dict (00_mix): an int or a text -/
def kV : Key → V
  | .inl i => .int i
  | .inr x => .str x

/-- what stands at a tracked address -/
inductive HO where
  /-- a list -/
  | lst (xs : List V)
  /-- a tuple (never changes) -/
  | tup (xs : List V)
  /-- a dict whose keys are ints and texts; one whose keys are tuples of ints and texts (the empty one is both) -/
  | dK (kvs : List (Key × V)) | dT (kvs : List (List Key × V))
  /-- a set of ints: its members, its size -/
  | set (S : Int → Bool) (n : Nat)
  /-- an instance of the class at C, its dict at dx, its attributes -/
  | ins (C dx : Addr) (fs : List (Str × V))
  /-- the dict of the instance at x -/
  | own (x : Addr)
  /-- the dict of an exception -/
  | xd (fs : List (Str × V))
  /-- a bound method, f of x -/
  | met (f x : Addr)
  /-- a range object lo, lo + 1, .. below hi -/
  | rng (lo hi : Int)
  /-- a thing that is known to the object (the script; a dict while a loop walks it): read, never written while it is so -/
  | frz (o : Obj) (u : HO)
  /-- a code object's table -/
  | tbl (ps : Array Value)
  /-- any other thing, by what is true of its one object (a def of one's own: SetO a S n := HO.ext fun h => ..) -/
  | ext (φ : Heap → Prop)

abbrev Hp := Addr → Option HO
def upd (H : Hp) (a : Addr) (o : HO) : Hp := fun b => if b = a then some o else H b
theorem upd_same {H : Hp} {a : Addr} {o : HO} : upd H a o a = some o := by unfold upd; rw [if_pos rfl]
theorem upd_ne {H : Hp} {a b : Addr} {o : HO} (h : b ≠ a) : upd H a o b = H b := by unfold upd; rw [if_neg h]
theorem upd_upd {H : Hp} {a : Addr} {o u : HO} : upd (upd H a o) a u = upd H a u := by
  funext b; unfold upd; split <;> rfl
/-- two objects of different content stand apart -/
theorem ne_of {H : Hp} {a b : Addr} {o u : HO} (h : H a = some o) (h' : H b = some u) (d : o ≠ u) : a ≠ b := by
  intro e; subst e; rw [h] at h'; exact d (Option.some.inj h')
theorem ne_of_none {H : Hp} {a b : Addr} {o : HO} (h : H a = some o) (h' : H b = none) : a ≠ b := by
  intro e; subst e; rw [h] at h'; cases h'

section
variable (P : Program) (w : World)
def ObjOk (H : Hp) (h : Heap) (a : Addr) : HO → Prop
  | .lst xs => xs.length ≤ sizeLine ∧ ∃ (its : List Value) (n : Nat), Vals xs its ∧ h.get? a = some { cls := .type "list", data := .seq its.toArray n }
  | .tup xs => xs.length ≤ sizeLine ∧ ∃ its : List Value, Vals xs its ∧ IsTup h a its.toArray
  | .dK kvs => kvs.length ≤ sizeLine ∧ (a == sysModules) = false ∧ ∃ vs, KV kvs vs ∧ h.DictOf (mixKind P w) a vs
  | .dT kvs => kvs.length ≤ sizeLine ∧ (a == sysModules) = false ∧ ∃ xs : List (List Key × Addr × Value),
      Paired (fun (p : List Key × V) (q : List Key × Addr × Value) => p.1 = q.1 ∧ H q.2.1 = some (.tup (p.1.map kV)) ∧ RelV p.2 q.2.2) kvs xs ∧
      ∃ o es ep, h.get? a = some o ∧ o.ExactDict ∧ o.data = .dict es ep ∧ es.toList = xs.map (entryOfKey (tupleKind (mixKind P w))) ∧ (xs.map (·.1)).Nodup
  | .set S n => h.SetOf (intKind P w) a S n
  | .ins C dx fs => H dx = some (.own a) ∧ fs.length ≤ 1000 ∧ dx ≠ a ∧ h.get? a = some (PySem.W.instObj C dx) ∧
      ∃ mA, h.Ns1 dx mA ∧ (∀ f, RelO (fs.lookup f) (mA f)) ∧ PySem.Within mA (fs.map (·.1))
  | .own _ => ∃ o, h.get? a = some o
  | .xd fs => ∃ mA, h.Ns1 a mA ∧ ∀ f, RelO (fs.lookup f) (mA f)
  | .rng lo hi => ∃ t u v, h.get? a = some { cls := .type "range", data := .fields #[.int lo t, .int hi u, .int 1 v] }
  | .frz o u => h.get? a = some o ∧ ObjOk H h a u
  | .tbl ps => h.get? a = some { cls := .none, data := .fields ps }
  | .met f x => h.get? a = some (PySem.W.methodObj (.ref f) (.ref x))
  | .ext φ => φ h ∧ (∃ o, h.get? a = some o) ∧ ∀ h1 h2 : Heap, φ h1 → (∀ o, h1.get? a = some o → h2.get? a = some o) → φ h2
/-- the abstract heap is held -/
def HOk (H : Hp) (h : Heap) : Prop := ∀ a o, H a = some o → ObjOk P w H h a o
end

section
variable {P : Program} {w : World} {H H' : Hp} {h h' : Heap} {a : Addr} {o : HO}
theorem ObjOk.lt (x : ObjOk P w H h a o) : a < h.objs.size := by
  cases o with
  | lst xs => obtain ⟨_, _, _, _, e⟩ := x; exact Heap.lt_size e
  | tup xs => obtain ⟨_, _, _, p⟩ := x; exact p.lt
  | dK kvs => obtain ⟨_, _, _, _, o, _, _, e, _⟩ := x; exact Heap.lt_size e
  | dT kvs => obtain ⟨_, _, _, _, o, _, _, e, _⟩ := x; exact Heap.lt_size e
  | set S n => obtain ⟨o, _, _, _, e, _⟩ := x; exact Heap.lt_size e
  | ins C dx fs => obtain ⟨_, _, _, e, _⟩ := x; exact Heap.lt_size e
  | own y => obtain ⟨_, e⟩ := x; exact Heap.lt_size e
  | xd fs => obtain ⟨_, ⟨_, _, _, e, _⟩, _⟩ := x; exact Heap.lt_size e
  | rng lo hi => obtain ⟨_, _, _, e⟩ := x; exact Heap.lt_size e
  | frz ob u => obtain ⟨e, _⟩ := x; exact Heap.lt_size e
  | tbl ps => exact Heap.lt_size (show h.get? a = some _ from x)
  | met f y => exact Heap.lt_size (show h.get? a = some _ from x)
  | ext φ => obtain ⟨_, ⟨_, e⟩, _⟩ := x; exact Heap.lt_size e
theorem Paired.mapP {α β : Type} {F G : α → β → Prop} : ∀ {l₁ : List α} {l₂ : List β}, Paired F l₁ l₂ → (∀ a b, F a b → G a b) → Paired G l₁ l₂
  | _, _, .nil, _ => .nil
  | _, _, .cons r t, f => .cons (f _ _ r) (Paired.mapP t f)
/-- what an object's description leans on: its own object, its own dict, the tuples -/
theorem ObjOk.stay (x : ObjOk P w H h a o) (k : ∀ b u, (b = a ∨ H b = some (.own a)) → h.get? b = some u → h'.get? b = some u)
    (ho : ∀ b, H b = some (.own a) → H' b = some (.own a)) (ht : ∀ b xs, H b = some (.tup xs) → H' b = some (.tup xs)) : ObjOk P w H' h' a o := by
  induction o with
  | lst xs => obtain ⟨z, its, n, r, e⟩ := x; exact ⟨z, its, n, r, k _ _ (.inl rfl) e⟩
  | tup xs => obtain ⟨z, its, r, ob, e, c⟩ := x; exact ⟨z, its, r, ob, k _ _ (.inl rfl) e, c⟩
  | dK kvs => obtain ⟨z, y, vs, r, ob, es, ep, e, c⟩ := x; exact ⟨z, y, vs, r, ob, es, ep, k _ _ (.inl rfl) e, c⟩
  | dT kvs =>
    obtain ⟨z, y, xs, r, ob, es, ep, e, c⟩ := x
    exact ⟨z, y, xs, Paired.mapP r fun p q z => ⟨z.1, ht _ _ z.2.1, z.2.2⟩, ob, es, ep, k _ _ (.inl rfl) e, c⟩
  | set S n => obtain ⟨ob, es, ep, t, e, c⟩ := x; exact ⟨ob, es, ep, t, k _ _ (.inl rfl) e, c⟩
  | ins C dx fs =>
    obtain ⟨d, z, ne, e, mA, ⟨od, es, ep, e2, c⟩, r⟩ := x
    exact ⟨ho _ d, z, ne, k _ _ (.inl rfl) e, mA, ⟨od, es, ep, k _ _ (.inr d) e2, c⟩, r⟩
  | own y => obtain ⟨ob, e⟩ := x; exact ⟨ob, k _ _ (.inl rfl) e⟩
  | xd fs => obtain ⟨mA, ⟨od, es, ep, e, c⟩, r⟩ := x; exact ⟨mA, ⟨od, es, ep, k _ _ (.inl rfl) e, c⟩, r⟩
  | rng lo hi => obtain ⟨t, u, v, e⟩ := x; exact ⟨t, u, v, k _ _ (.inl rfl) e⟩
  | frz ob u ih => obtain ⟨e, q⟩ := x; exact ⟨k _ _ (.inl rfl) e, ih q⟩
  | tbl ps =>
    have e : h.get? a = some { cls := .none, data := .fields ps } := x
    show h'.get? a = some { cls := .none, data := .fields ps }
    exact k a _ (.inl rfl) e
  | met f y =>
    have e : h.get? a = some (PySem.W.methodObj (.ref f) (.ref y)) := x
    show h'.get? a = some (PySem.W.methodObj (.ref f) (.ref y))
    exact k a _ (.inl rfl) e
  | ext φ => obtain ⟨p, ⟨o, e⟩, st⟩ := x; exact ⟨st _ _ p fun o q => k _ _ (.inl rfl) q, ⟨o, k _ _ (.inl rfl) e⟩, st⟩
theorem HOk.lt (x : HOk P w H h) (e : H a = some o) : a < h.objs.size := (x a o e).lt
theorem HOk.fresh (x : HOk P w H h) (e : h.objs.size ≤ a) : H a = none := by
  cases q : H a with
  | none => rfl
  | some u => exact absurd (Nat.lt_of_lt_of_le (x.lt q) e) (Nat.lt_irrefl _)
/-- every object of the heap is kept -/
theorem HOk.kept (x : HOk P w H h) (k : ∀ b u, h.get? b = some u → h'.get? b = some u) : HOk P w H h' := fun a o e =>
  (x a o e).stay (fun b u _ q => k b u q) (fun _ q => q) fun _ _ q => q
/-- a new object is laid and tracked -/
theorem HOk.laid (x : HOk P w H h) (k : ∀ b u, h.get? b = some u → h'.get? b = some u) (hp : h.objs.size ≤ a) (new : ObjOk P w (upd H a o) h' a o) : HOk P w (upd H a o) h' := fun b u e => by
  have hn := x.fresh hp
  by_cases hb : b = a
  · subst hb; rw [upd_same] at e; cases e; exact new
  · rw [upd_ne hb] at e
    exact (x b u e).stay (fun c v _ q => k c v q) (fun c q => by rw [upd_ne (ne_of_none q hn)]; exact q) fun c xs q => by rw [upd_ne (ne_of_none q hn)]; exact q
end

/-- what may be read as u: it is u, or a known u -/
def Rd (H : Hp) (a : Addr) (u : HO) : Prop := H a = some u ∨ ∃ o, H a = some (.frz o u)
theorem Rd.of {H : Hp} {a : Addr} {u : HO} (h : H a = some u) : Rd H a u := .inl h
theorem Rd.ok {P : Program} {w : World} {H : Hp} {h : Heap} {a : Addr} {u : HO} (r : Rd H a u) (x : HOk P w H h) : ObjOk P w H h a u := by
  rcases r with r | ⟨o, r⟩
  · exact x a u r
  · obtain ⟨_, q⟩ := x a _ r
    exact q
/-- what may be written -/
def Mut : Option HO → Prop
  | some (.lst _) => True
  | some (.dK _) => True
  | some (.dT _) => True
  | some (.set _ _) => True
  | some (.ins _ _ _) => True
  | some (.ext _) => True
  | _ => False
section
variable {P : Program} {w : World} {H : Hp} {h h' : Heap} {x e : Addr} {o' : HO}
/-- the object at e is changed: x itself, or the dict of the instance x -/
theorem HOk.write (ok : HOk P w H h) (mu : Mut (H x)) (he : e = x ∨ H e = some (.own x)) (k : ∀ b u, b ≠ e → h.get? b = some u → h'.get? b = some u) (heo : ∃ u, h'.get? e = some u)
    (new : ObjOk P w (upd H x o') h' x o') : HOk P w (upd H x o') h' := fun b u q => by
  have nown : ∀ c y, H c = some (.own y) → c ≠ x := fun c y r z => by subst z; rw [r] at mu; exact mu
  have ntup : ∀ c xs, H c = some (.tup xs) → c ≠ x := fun c xs r z => by subst z; rw [r] at mu; exact mu
  by_cases hb : b = x
  · subst hb; rw [upd_same] at q; cases q; exact new
  · rw [upd_ne hb] at q
    by_cases hbe : b = e
    · have q' : H b = some (.own x) := by
        rcases he with z | z
        · exact absurd (hbe.trans z) hb
        · rw [hbe]; exact z
      rw [q] at q'; cases q'
      obtain ⟨v, hv⟩ := heo
      exact ⟨v, by rw [hbe]; exact hv⟩
    · refine (ok b u q).stay (fun c v hc r => k c v ?_ r) (fun c r => by rw [upd_ne (nown c b r)]; exact r) fun c xs r => by rw [upd_ne (ntup c xs r)]; exact r
      rcases hc with rfl | hc
      · exact hbe
      · rintro rfl
        rcases he with z | z
        · exact nown c b hc z
        · rw [hc] at z; cases z; exact hb rfl
end

structure Un (fs ex : List Addr) (H H' : Hp) (h h' : Heap) : Prop where
  keep : ∀ b o, h.get? b = some o → H b = none → b ∉ fs → b ∉ ex → h'.get? b = some o
  slot : ∀ b o, h.get? b = some o → H b = none → b ∈ fs → b ∉ ex → ∃ sl, h'.get? b = some { o with slots := sl }
  free : ∀ b o, h.get? b = some o → H b = none → b ∉ ex → H' b = none
  there : ∀ b o, h.get? b = some o → b ∉ ex → ∃ o', h'.get? b = some o'
  tups : ∀ b xs, H b = some (.tup xs) → H' b = some (.tup xs)
  frzs : ∀ b o u, H b = some (.frz o u) → H' b = some (.frz o u)
  tbls : ∀ b ps, H b = some (.tbl ps) → ∃ more, H' b = some (.tbl (ps ++ more))
section
variable {fs fs' ex ex' : List Addr} {H H1 H2 : Hp} {h h1 h2 h' : Heap} {a x e : Addr} {o : HO}
theorem Un.any (u : Un fs ex H H1 h h1) {b : Addr} {ob : Obj} (q : h.get? b = some ob) (n : H b = none) (hx : b ∉ ex) : ∃ sl, h1.get? b = some { ob with slots := sl } := by
  by_cases hb : b ∈ fs
  · exact u.slot b ob q n hb hx
  · exact ⟨ob.slots, u.keep b ob q n hb hx⟩
theorem Un.trans (a : Un fs ex H H1 h h1) (b : Un fs ex H1 H2 h1 h2) : Un fs ex H H2 h h2 where
  keep := fun c ob q n hc hx => b.keep c ob (a.keep c ob q n hc hx) (a.free c ob q n hx) hc hx
  slot := fun c ob q n hc hx => by
    obtain ⟨sl, e1⟩ := a.slot c ob q n hc hx
    obtain ⟨sl', e2⟩ := b.slot c _ e1 (a.free c ob q n hx) hc hx
    exact ⟨sl', e2⟩
  free := fun c ob q n hx => by
    obtain ⟨o', e1⟩ := a.there c ob q hx
    exact b.free c o' e1 (a.free c ob q n hx) hx
  there := fun c ob q hx => by
    obtain ⟨o', e1⟩ := a.there c ob q hx
    exact b.there c o' e1 hx
  tups := fun c xs q => b.tups c xs (a.tups c xs q)
  frzs := fun c ob xs q => b.frzs c ob xs (a.frzs c ob xs q)
  tbls := fun c ps q => by
    obtain ⟨m1, e1⟩ := a.tbls c ps q
    obtain ⟨m2, e2⟩ := b.tbls c _ e1
    exact ⟨m1 ++ m2, by rw [e2, Array.append_assoc]⟩
theorem Un.kept (k : ∀ b u, h.get? b = some u → h'.get? b = some u) : Un fs ex H H h h' :=
  ⟨fun b ob q _ _ _ => k b ob q, fun b ob q _ _ _ => ⟨ob.slots, k b ob q⟩, fun _ _ _ n _ => n, fun b ob q _ => ⟨ob, k b ob q⟩, fun _ _ q => q, fun _ _ _ q => q, fun _ ps q => ⟨#[], by rw [q]; simp⟩⟩
theorem Un.refl : Un fs ex H H h h := Un.kept fun _ _ q => q
theorem Un.laid (k : ∀ b u, h.get? b = some u → h'.get? b = some u) (hp : h.objs.size ≤ a) (hn : H a = none) : Un fs ex H (upd H a o) h h' where
  keep := fun b u q _ _ _ => k b u q
  slot := fun b u q _ _ _ => ⟨u.slots, k b u q⟩
  free := fun b u q n _ => by rw [upd_ne (Nat.ne_of_lt (Nat.lt_of_lt_of_le (Heap.lt_size q) hp))]; exact n
  there := fun b u q _ => ⟨u, k b u q⟩
  tups := fun b xs q => by rw [upd_ne (ne_of_none q hn)]; exact q
  frzs := fun b u xs q => by rw [upd_ne (ne_of_none q hn)]; exact q
  tbls := fun b ps q => ⟨#[], by rw [upd_ne (ne_of_none q hn), q]; simp⟩
theorem Un.write (mu : Mut (H x)) (he : e = x ∨ H e = some (.own x)) (k : ∀ b u, b ≠ e → h.get? b = some u → h'.get? b = some u) (heo : ∃ u, h'.get? e = some u) : Un fs ex H (upd H x o) h h' := by
  have hx : ∀ b, H b = none → b ≠ x := fun b n z => by subst z; rw [n] at mu; exact mu
  have hb : ∀ b, H b = none → b ≠ e := fun b n z => by
    subst z
    rcases he with r | r
    · exact hx b n r
    · rw [n] at r; cases r
  have hm : ∀ b u, H b = some u → ¬ Mut (some u) → b ≠ x := fun b u q nm z => by subst z; rw [q] at mu; exact nm mu
  refine ⟨fun b u q n _ _ => k b u (hb b n) q, fun b u q n _ _ => ⟨u.slots, k b u (hb b n) q⟩, fun b u q n _ => by rw [upd_ne (hx b n)]; exact n, fun b u q _ => ?_,
    fun b xs q => by rw [upd_ne (hm b _ q fun z => z)]; exact q, fun b u xs q => by rw [upd_ne (hm b _ q fun z => z)]; exact q, fun b ps q => ⟨#[], by rw [upd_ne (hm b _ q fun z => z), q]; simp⟩⟩
  by_cases hbe : b = e
  · subst hbe; exact heo
  · exact ⟨u, k b u hbe q⟩
theorem Un.mono (u : Un fs ex H H1 h h1) (hs : ∀ b ∈ fs, b ∈ fs') (hx : ∀ b ∈ ex, b ∈ ex') : Un fs' ex' H H1 h h1 :=
  ⟨fun b ob q n hb he => u.keep b ob q n (fun z => hb (hs b z)) fun z => he (hx b z), fun _ _ q n _ he => u.any q n fun z => he (hx _ z), fun b ob q n he => u.free b ob q n fun z => he (hx b z), fun b ob q he => u.there b ob q fun z => he (hx b z), u.tups, u.frzs, u.tbls⟩
end

def trk (h : Heap) (H : Hp) : List Addr := (List.range h.objs.size).filter fun a => (H a).isSome
def hidT (h : Heap) (H : Hp) : Heap := PySem.W.hideAll h (trk h H)
theorem hidT_size (h : Heap) (H : Hp) : (hidT h H).objs.size = h.objs.size := PySem.W.hideAll_size _ _
theorem hidT_get {h : Heap} {H : Hp} {b : Addr} {o : Obj} (e : h.get? b = some o) (n : H b = none) : (hidT h H).get? b = some o :=
  PySem.W.hideAll_get _ e fun hm => by
    have q : (H b).isSome = true := (List.mem_filter.mp hm).2
    rw [n] at q; simp at q
theorem of_hidT {h : Heap} {H : Hp} {b : Addr} {o : Obj} (e : (hidT h H).get? b = some o) : h.get? b = some o ∧ H b = none := by
  have e' : h.get? b = some o := PySem.W.of_hideAll (trk h H) e
  refine ⟨e', ?_⟩
  cases q : H b with
  | none => rfl
  | some x =>
    have hm : b ∈ trk h H := List.mem_filter.mpr ⟨List.mem_range.mpr (Heap.lt_size e'), by simp [q]⟩
    have z : (hidT h H).get? b = none := PySem.W.hideAll_none (trk h H) hm
    rw [z] at e; cases e

def allNews (g h : Heap) (L : Addr) : List (Addr × Obj) := (List.range h.objs.size).filterMap fun a => if a = L ∨ (g.get? a).isSome = true then none else (h.get? a).map fun o => (a, o)
def rest (g h : Heap) (L d : Addr) : List (Addr × Obj) := (allNews g h L).filter fun p => decide (p.1 ≠ d)
end L2

namespace L2
open PySem PySem.Spec PyProof.Rows

/-- the module's facts, over the base: the heap at the law's entry without what is tracked there -/
structure Mod (K : PySem.W.Frag) (mg : Str → Option Value) (base : Heap) : Prop where
  kin : K.In base
  glob : base.Ns mainGlobals mg
  blt : ∃ mb, base.Ns builtinsNs mb ∧ ∀ x : Str, x ≠ "__name__" → mb x = bootBuiltins x
  nolimit : base.NoLimit

/-- the context: a def's body (or a comprehension's block) running. base: fixed through the whole law; s₀, H₀: the entry; outer: the frames whose slots others may change (a def's callers); stack: all frames that run;
   ex: iterators that were made ahead of the entry and are walked here (a comprehension's); fn: the names whose cells were made at the entry (a def: all; a comprehension's block: its own); calm: not within an except suite; pn: pins that every state bears; xe: what is wanted of an exception that leaves the code -/
structure Cx where
  prog : Program
  w : World
  K : PySem.W.Frag
  mg : Str → Option Value
  base : Heap
  A : Around
  N : List Str
  s₀ : Shared
  H₀ : Hp
  env : Env
  outer : List Env
  stack : List Env
  ex : List Addr
  fn : Str → Bool
  calm : Bool
  pn : List (Addr × Obj)
  xe : Value → Shared → Prop
/-- the callers' frames -/
def frs (l : List Env) : List Addr := l.filterMap (·.frame)
abbrev Cx.fs (X : Cx) : List Addr := frs X.outer

def Vis (sc : Scope) (x : Str) : Prop := sc.names.lookup x = some .local ∨ sc.names.lookup x = some .cell ∨ sc.names.lookup x = some .free
def Loc (sc : Scope) (x : Str) : Prop := sc.names.lookup x = some .local ∨ sc.names.lookup x = some .cell
def Look (env : Env) (h : Heap) (m : Str → Option Value) (x : Str) (u : Value) : Prop :=
  (env.kindOf x = some .local ∧ m x = some u) ∨ ((env.kindOf x = some .cell ∨ env.kindOf x = some .free) ∧ ∃ c, env.cells.lookup x = some c ∧ h.IsCell c (some u))

structure Cx.Ok (X : Cx) : Prop where
  mod : Mod X.K X.mg X.base
  kind : X.env.scope.kind = .function
  glob : X.env.globals = mainGlobals
  blt : X.env.builtins = builtinsNs
  above : X.s₀.heap.objs.size ≤ X.env.locals
  inj : ∀ x y c, X.env.cells.lookup x = some c → X.env.cells.lookup y = some c → x = y
  has : ∀ x, (X.env.kindOf x = some .cell ∨ X.env.kindOf x = some .free) → ∃ c, X.env.cells.lookup x = some c
  cab : ∀ x c, X.fn x = true → X.env.cells.lookup x = some c → X.s₀.heap.objs.size ≤ c
  hd : X.calm = true → X.A.handled = none
  frames : X.A.frames = some X.stack
  stk : X.stack = X.outer ∨ (X.stack = X.env :: X.outer ∧ X.env.frame = some X.env.locals)
  exf : ∀ b ∈ X.ex, b ≠ X.env.locals ∧ ∀ x c, X.env.cells.lookup x = some c → c ≠ b
  bs : ∀ b o, X.base.get? b = some o → X.s₀.heap.get? b = some o ∧ X.H₀ b = none
  bsz : X.base.objs.size ≤ X.s₀.heap.objs.size
  noex : ∀ b o, X.base.get? b = some o → b ∉ X.ex
  exfs : ∀ b ∈ X.ex, b ∉ X.fs
  funs : X.s₀.heap.FunFrames X.base X.outer
  frf : ∀ b ∈ X.fs, X.H₀ b = none

structure Inv (X : Cx) (pins : List (Addr × Obj)) (σ : List (Option V)) (H : Hp) (s : Shared) : Prop where
  ok : X.Ok
  os : s.os = X.s₀.os
  bare : AllBare s.gens
  base : Un X.fs X.ex X.H₀ H X.s₀.heap s.heap
  loc : ∃ m, s.heap.Ns X.env.locals m ∧ ∀ (i : Nat) (x : Str) (v : V), X.N[i]? = some x → σ[i]? = some (some v) → Vis X.env.scope x → ∃ u, RelV v u ∧ Look X.env s.heap m x u
  cell : ∀ x c, X.env.cells.lookup x = some c → ∃ v, s.heap.IsCell c v
  free : H X.env.locals = none
  freeC : ∀ x c, X.env.cells.lookup x = some c → H c = none
  pin : ∀ p ∈ X.pn ++ pins, s.heap.get? p.1 = some p.2 ∧ H p.1 = none ∧ p.1 ≠ X.env.locals ∧ p.1 ∉ X.fs ∧ ∀ v, p.2.data ≠ .cell v
  hok : HOk X.prog X.w H s.heap
  len : σ.length = X.N.length

section
variable {X : Cx} {pins : List (Addr × Obj)} {σ : List (Option V)} {H H' : Hp} {s : Shared} {h' : Heap}

theorem Cx.Ok.nofr (ok : X.Ok) {b : Addr} {o : Obj} (e : X.base.get? b = some o) : b ∉ X.fs := fun hb => by
  have := (ok.funs.mem hb).1
  rw [e] at this; cases this
theorem Inv.bs (I : Inv X pins σ H s) : ∀ b o, X.base.get? b = some o → s.heap.get? b = some o ∧ H b = none := fun b o e =>
  ⟨I.base.keep b o (I.ok.bs b o e).1 (I.ok.bs b o e).2 (I.ok.nofr e) (I.ok.noex b o e), I.base.free b o (I.ok.bs b o e).1 (I.ok.bs b o e).2 (I.ok.noex b o e)⟩
theorem Inv.bk (I : Inv X pins σ H s) : ∀ b o, X.base.get? b = some o → s.heap.get? b = some o := fun b o e => (I.bs b o e).1
theorem Inv.mod (I : Inv X pins σ H s) : Mod X.K X.mg X.base := I.ok.mod
theorem Inv.kIn (I : Inv X pins σ H s) : X.K.In s.heap := I.ok.mod.kin.keeps I.bk
theorem Inv.nolimit (I : Inv X pins σ H s) : s.heap.NoLimit := I.ok.mod.nolimit.keeps I.bk
/-- the frame over the base: for OpenK's rules (K.In X.base is I.mod.kin) -/
theorem Inv.fr (I : Inv X pins σ H s) : ∃ m, Fr X.base X.env.locals s.heap m :=
  let ⟨m, hn, _⟩ := I.loc
  ⟨m, hn, I.bk, Nat.le_trans I.ok.bsz I.ok.above⟩
theorem Inv.lt (I : Inv X pins σ H s) : X.env.locals < s.heap.objs.size := let ⟨_, hn, _⟩ := I.loc; hn.lt
theorem Inv.sz (I : Inv X pins σ H s) : X.s₀.heap.objs.size ≤ s.heap.objs.size := Nat.le_trans I.ok.above (Nat.le_of_lt I.lt)
theorem Inv.nofs (I : Inv X pins σ H s) {a : Addr} (h : s.heap.objs.size ≤ a) : a ∉ X.fs := fun hb => by
  obtain ⟨_, o, ho, _⟩ := I.ok.funs.mem hb
  exact absurd (Nat.lt_of_lt_of_le (Heap.lt_size ho) (Nat.le_trans I.sz h)) (Nat.lt_irrefl _)
theorem Inv.cne (I : Inv X pins σ H s) : ∀ x c, X.env.cells.lookup x = some c → c ≠ X.env.locals := fun x c e z => by
  obtain ⟨v, o, ho, hd⟩ := I.cell x c e
  obtain ⟨m, ⟨o', es, ep, ho', hd', _⟩, _⟩ := I.loc
  rw [z, ho'] at ho; cases ho; rw [hd'] at hd; cases hd
theorem Inv.funs (I : Inv X pins σ H s) : s.heap.FunFrames X.base X.outer := by
  have all : ∀ (l : List Env), (∀ b ∈ frs l, b ∈ X.fs) → X.s₀.heap.FunFrames X.base l → s.heap.FunFrames X.base l := by
    intro l
    induction l with
    | nil => intro _ _; trivial
    | cons env r ih =>
      intro hs hl
      obtain ⟨hk, ⟨L, o, hf, hn, ho, hd⟩, hr⟩ := hl
      have hL : L ∈ X.fs := hs L (by unfold frs; rw [List.filterMap_cons, hf]; exact List.mem_cons_self)
      obtain ⟨sl, e⟩ := I.base.slot L o ho (I.ok.frf L hL) hL fun z => I.ok.exfs L z hL
      exact ⟨hk, ⟨L, _, hf, hn, e, hd⟩, ih (fun b hb => hs b (by unfold frs; rw [List.filterMap_cons, hf]; exact List.mem_cons_of_mem _ hb)) hr⟩
  exact all X.outer (fun _ hb => hb) I.ok.funs

/-- the frames that run, for a call -/
theorem Inv.stack (I : Inv X pins σ H s) : s.heap.FunFrames X.base X.stack := by
  rcases I.ok.stk with e | ⟨e, hf⟩
  · rw [e]; exact I.funs
  · rw [e]
    obtain ⟨m, hn, _⟩ := I.loc
    refine .cons (by rw [I.ok.kind]; decide) hf hn ?_ I.funs
    exact Heap.get?_none_of_le (Nat.le_trans I.ok.bsz I.ok.above)
theorem Inv.stkSub (I : Inv X pins σ H s) : ∀ b ∈ frs X.stack, b ∈ X.env.locals :: X.fs := fun b hb => by
  rcases I.ok.stk with e | ⟨e, hf⟩
  · rw [e] at hb; exact List.mem_cons_of_mem _ hb
  · rw [e] at hb
    unfold frs at hb
    rw [List.filterMap_cons, hf] at hb
    exact hb
theorem Inv.stkFree (I : Inv X pins σ H s) : ∀ b ∈ frs X.stack, H b = none := fun b hb => by
  rcases List.mem_cons.mp (I.stkSub b hb) with e | hb
  · rw [e]; exact I.free
  · obtain ⟨_, o, ho, _⟩ := I.ok.funs.mem hb
    exact I.base.free b o ho (I.ok.frf b hb) fun z => I.ok.exfs b z hb

/-- THE STEP: the untracked objects but the frame and the records at ch are kept (the callers' frames up to slots), the frame's map is kept, the new abstract heap is held -/
theorem Inv.step {g' : Array GenState} {t' : Nat} {d' : Drawn} {ch : List Addr} (I : Inv X pins σ H s)
    (hch : ∀ b ∈ ch, (b ∈ X.ex ∨ X.s₀.heap.objs.size ≤ b) ∧ b ≠ X.env.locals ∧ (∀ x c, X.env.cells.lookup x = some c → c ≠ b) ∧ ∀ p ∈ X.pn ++ pins, p.1 ≠ b)
    (keep : ∀ b o, b ≠ X.env.locals → b ∉ X.fs → b ∉ ch → s.heap.get? b = some o → H b = none → h'.get? b = some o)
    (slot : ∀ b o, b ≠ X.env.locals → b ∈ X.fs → b ∉ ch → s.heap.get? b = some o → H b = none → ∃ sl, h'.get? b = some { o with slots := sl }) (free : ∀ b o, b ∉ ch → s.heap.get? b = some o → H b = none → H' b = none)
    (there : ∀ b o, b ∉ ch → s.heap.get? b = some o → ∃ o', h'.get? b = some o')
    (tups : ∀ b xs, H b = some (.tup xs) → H' b = some (.tup xs)) (frzs : ∀ b o u, H b = some (.frz o u) → H' b = some (.frz o u)) (tbls : ∀ b ps, H b = some (.tbl ps) → ∃ more, H' b = some (.tbl (ps ++ more)))
    (ns : ∀ m, s.heap.Ns X.env.locals m → h'.Ns X.env.locals m) (hok : HOk X.prog X.w H' h') (hg : AllBare g') :
    Inv X pins σ H' { s with heap := h', gens := g', drawn := d', toks := t' } := by
  have neL : ∀ b o, X.s₀.heap.get? b = some o → b ≠ X.env.locals := fun b o e => Nat.ne_of_lt (Nat.lt_of_lt_of_le (Heap.lt_size e) I.ok.above)
  have neC : ∀ b o, X.s₀.heap.get? b = some o → b ∉ X.ex → b ∉ ch := fun b o e hx hb => by
    rcases (hch b hb).1 with z | z
    · exact hx z
    · exact absurd (Nat.lt_of_lt_of_le (Heap.lt_size e) z) (Nat.lt_irrefl _)
  have cellK : ∀ x c, X.env.cells.lookup x = some c → ∀ v, s.heap.IsCell c v → h'.IsCell c v := fun x c e v ⟨o, ho, hd⟩ => by
    have nch : c ∉ ch := fun z => (hch c z).2.2.1 x c e rfl
    by_cases hc : c ∈ X.fs
    · obtain ⟨sl, q⟩ := slot c o (I.cne x c e) hc nch ho (I.freeC x c e)
      exact ⟨_, q, hd⟩
    · exact ⟨o, keep c o (I.cne x c e) hc nch ho (I.freeC x c e), hd⟩
  refine ⟨I.ok, I.os, hg, ⟨fun b o e n hb hx => ?_, fun b o e n hb hx => ?_, fun b o e n hx => ?_, fun b o e hx => ?_, fun b xs e => tups b xs (I.base.tups b xs e), fun b o xs e => frzs b o xs (I.base.frzs b o xs e), fun b ps e => ?_⟩, ?_, fun x c e => ?_, ?_, fun x c e => ?_, fun p hp => ?_, hok, I.len⟩
  · exact keep b o (neL b o e) hb (neC b o e hx) (I.base.keep b o e n hb hx) (I.base.free b o e n hx)
  · obtain ⟨sl, e1⟩ := I.base.slot b o e n hb hx
    obtain ⟨sl', e2⟩ := slot b _ (neL b o e) hb (neC b o e hx) e1 (I.base.free b o e n hx)
    exact ⟨sl', e2⟩
  · obtain ⟨o', e1⟩ := I.base.there b o e hx
    exact free b o' (neC b o e hx) e1 (I.base.free b o e n hx)
  · obtain ⟨o', e1⟩ := I.base.there b o e hx
    exact there b o' (neC b o e hx) e1
  · obtain ⟨m1, e1⟩ := I.base.tbls b ps e
    obtain ⟨m2, e2⟩ := tbls b _ e1
    exact ⟨m1 ++ m2, by rw [e2, Array.append_assoc]⟩
  · obtain ⟨m, hn, hl⟩ := I.loc
    refine ⟨m, ns m hn, fun i x v e1 e2 e3 => ?_⟩
    obtain ⟨u, r, l⟩ := hl i x v e1 e2 e3
    refine ⟨u, r, ?_⟩
    rcases l with l | ⟨k, c, e, z⟩
    · exact .inl l
    · exact .inr ⟨k, c, e, cellK x c e _ z⟩
  · obtain ⟨v, z⟩ := I.cell x c e
    exact ⟨v, cellK x c e v z⟩
  · obtain ⟨m, ⟨o, _, _, ho, _⟩, _⟩ := I.loc
    exact free _ o (fun z => (hch _ z).2.1 rfl) ho I.free
  · obtain ⟨v, o, ho, hd⟩ := I.cell x c e
    exact free c o (fun z => (hch c z).2.2.1 x c e rfl) ho (I.freeC x c e)
  · obtain ⟨e, n, ne, nf, d⟩ := I.pin p hp
    have nch : p.1 ∉ ch := fun z => (hch p.1 z).2.2.2 p hp rfl
    exact ⟨keep p.1 p.2 ne nf nch e n, free p.1 p.2 nch e n, ne, nf, d⟩
/-- .. where the frame's own object is kept too -/
theorem Inv.un {t' : Nat} (I : Inv X pins σ H s) (u : Un X.fs [] H H' s.heap h') (hok : HOk X.prog X.w H' h') : Inv X pins σ H' { s with heap := h', toks := t' } := by
  obtain ⟨m, ⟨o, es, ep, ho, r⟩, _⟩ := id I.loc
  obtain ⟨sl, hL⟩ := u.any ho I.free (by simp)
  exact I.step (g' := s.gens) (d' := s.drawn) (ch := []) (fun _ z => nomatch z) (fun b o _ hb _ e n => u.keep b o e n hb (by simp)) (fun b o _ hb _ e n => u.slot b o e n hb (by simp)) (fun b o _ e n => u.free b o e n (by simp)) (fun b o _ e => u.there b o e (by simp)) u.tups u.frzs u.tbls (fun m' hm => by
    obtain ⟨o', es', ep', ho', r'⟩ := hm
    rw [ho] at ho'; cases ho'
    exact ⟨_, es', ep', hL, r'⟩) hok I.bare
/-- behind a call (or a comprehension's block): the slots of this frame may have changed too, the records at ch may have turned -/
theorem Inv.call {g' : Array GenState} {t' : Nat} {d' : Drawn} {ch : List Addr} (I : Inv X pins σ H s) (u : Un (frs X.stack) ch H H' s.heap h') (hok : HOk X.prog X.w H' h') (hg : AllBare g')
    (hch : ∀ b ∈ ch, (b ∈ X.ex ∨ X.s₀.heap.objs.size ≤ b) ∧ b ≠ X.env.locals ∧ (∀ x c, X.env.cells.lookup x = some c → c ≠ b) ∧ ∀ p ∈ X.pn ++ pins, p.1 ≠ b) :
    Inv X pins σ H' { s with heap := h', gens := g', drawn := d', toks := t' } := by
  obtain ⟨m, ⟨o, es, ep, ho, r⟩, _⟩ := id I.loc
  obtain ⟨sl, hL⟩ := u.any ho I.free fun z => (hch _ z).2.1 rfl
  exact I.step (ch := ch) hch (fun b o hL hb hc e n => u.keep b o e n (fun z => (List.mem_cons.mp (I.stkSub b z)).elim hL hb) hc) (fun b o _ _ hc e n => u.any e n hc) (fun b o hc e n => u.free b o e n hc) (fun b o hc e => u.there b o e hc) u.tups u.frzs u.tbls (fun m' hm => by
    obtain ⟨o', es', ep', ho', r'⟩ := hm
    rw [ho] at ho'; cases ho'
    exact ⟨_, es', ep', hL, r'⟩) hok hg
/-- an untracked record of ours (an iterator) has turned -/
theorem Inv.turned {t' : Nat} {it : Addr} (I : Inv X pins σ H s) (k : ∀ b o, b ≠ it → s.heap.get? b = some o → h'.get? b = some o) (hn : H it = none) (hL : it ≠ X.env.locals)
    (h1 : it ∈ X.ex ∨ X.s₀.heap.objs.size ≤ it) (h2 : ∀ x c, X.env.cells.lookup x = some c → c ≠ it) (h3 : ∀ p ∈ X.pn ++ pins, p.1 ≠ it) : Inv X pins σ H { s with heap := h', toks := t' } := by
  have nit : ∀ b u, H b = some u → b ≠ it := fun b u e z => by rw [z, hn] at e; cases e
  refine I.step (g' := s.gens) (d' := s.drawn) (ch := [it]) (fun b hb => ?_) (fun b o _ _ hc e _ => k b o (fun z => hc (by simp [z])) e) (fun b o _ _ hc e _ => ⟨o.slots, k b o (fun z => hc (by simp [z])) e⟩) (fun _ _ _ _ n => n)
    (fun b o hc e => ⟨o, k b o (fun z => hc (by simp [z])) e⟩) (fun _ _ e => e) (fun _ _ _ e => e) (fun b ps e => ⟨#[], by rw [e]; simp⟩) (fun m hm => ?_) (fun b u e => ?_) I.bare
  · have e : b = it := by simpa using hb
    subst e
    exact ⟨h1, hL, h2, h3⟩
  · obtain ⟨o, es, ep, ho, r⟩ := hm
    exact ⟨o, es, ep, k _ o (Ne.symm hL) ho, r⟩
  · refine (I.hok b u e).stay (fun c v hc q => k c v ?_ q) (fun _ q => q) fun _ _ q => q
    rcases hc with z | z
    · rw [z]; exact nit b u e
    · exact nit c _ z
theorem Inv.tok (I : Inv X pins σ H s) (t : Nat) : Inv X pins σ H { s with toks := t } := I.un (h' := s.heap) (t' := t) Un.refl I.hok
/-- all objects kept -/
theorem Inv.kept {t' : Nat} (I : Inv X pins σ H s) (k : ∀ b u, s.heap.get? b = some u → h'.get? b = some u) : Inv X pins σ H { s with heap := h', toks := t' } := I.un (Un.kept k) (I.hok.kept k)
/-- a new object laid and tracked -/
theorem Inv.laid {a : Addr} {o : HO} {t' : Nat} (I : Inv X pins σ H s) (k : ∀ b u, s.heap.get? b = some u → h'.get? b = some u) (hp : s.heap.objs.size ≤ a) (new : ObjOk X.prog X.w (upd H a o) h' a o) :
    Inv X pins σ (upd H a o) { s with heap := h', toks := t' } := I.un (Un.laid k hp (I.hok.fresh hp)) (I.hok.laid k hp new)
/-- an object written -/
theorem Inv.write {x e : Addr} {o : HO} {t' : Nat} (I : Inv X pins σ H s) (mu : Mut (H x)) (he : e = x ∨ H e = some (.own x)) (k : ∀ b u, b ≠ e → s.heap.get? b = some u → h'.get? b = some u) (heo : ∃ u, h'.get? e = some u)
    (new : ObjOk X.prog X.w (upd H x o) h' x o) : Inv X pins σ (upd H x o) { s with heap := h', toks := t' } := I.un (Un.write mu he k heo) (I.hok.write mu he k heo new)
/-- forgetting slots, pins -/
theorem Inv.weak {σ' : List (Option V)} (I : Inv X pins σ H s) (hl : σ'.length = σ.length) (w : ∀ (i : Nat) v, σ'[i]? = some (some v) → σ[i]? = some (some v)) : Inv X pins σ' H s :=
  ⟨I.ok, I.os, I.bare, I.base, let ⟨m, hn, hl'⟩ := I.loc; ⟨m, hn, fun i x v e1 e2 e3 => hl' i x v e1 (w i v e2) e3⟩, I.cell, I.free, I.freeC, I.pin, I.hok, hl.trans I.len⟩
theorem Inv.pins_of {pins' : List (Addr × Obj)} (I : Inv X pins σ H s) (h : ∀ p ∈ pins', s.heap.get? p.1 = some p.2 ∧ H p.1 = none ∧ p.1 ≠ X.env.locals ∧ p.1 ∉ X.fs ∧ ∀ v, p.2.data ≠ .cell v) : Inv X pins' σ H s :=
  ⟨I.ok, I.os, I.bare, I.base, I.loc, I.cell, I.free, I.freeC, fun p hp => (List.mem_append.mp hp).elim (fun z => I.pin p (List.mem_append_left _ z)) (h p), I.hok, I.len⟩

theorem nodup_ix {N : List Str} (hN : N.Nodup) {i j : Nat} {x : Str} (a : N[i]? = some x) (b : N[j]? = some x) : i = j := by
  obtain ⟨h1, e1⟩ := List.getElem?_eq_some_iff.mp a
  obtain ⟨h2, e2⟩ := List.getElem?_eq_some_iff.mp b
  exact (List.getElem_inj hN).mp (e1.trans e2.symm)

/-- a name is stored; what changed -/
theorem store_ok2 {M : Model} {A : Around} {E : Value → Shared → Prop} {i : Nat} {x : Str} {v : V} {u : Value} {Q : Unit → Shared → Prop} (I : Inv X pins σ H s) (hN : X.N.Nodup) (hi : X.N[i]? = some x) (hx : Loc X.env.scope x) (r : RelV v u)
    (h : ∀ s', Inv X pins (σ.set i (some v)) H s' → (∃ a, Heap.SameBut a s.heap s'.heap ∧ (a = X.env.locals ∨ X.env.cells.lookup x = some a)) → Q () s') (hf : X.fn x = true ∨ X.env.scope.names.lookup x = some .local := by first | exact .inl rfl | exact .inr rfl | assumption) : wpAny M A (storeName X.env x u) Q E s := by
  obtain ⟨m, hn, hl⟩ := id I.loc
  have hcls : (X.env.scope.kind == .class || (X.env.scope.kind == .module && X.env.locals != X.env.globals)) = false := by rw [I.ok.kind]; rfl
  have hiσ : i < σ.length := by rw [I.len]; exact (List.getElem?_eq_some_iff.mp hi).1
  have cne := I.cne
  have tracked : ∀ {a : Addr} {h' : Heap}, (∃ o, s.heap.get? a = some o ∧ H a = none) → Heap.SameBut a s.heap h' → HOk X.prog X.w H h' := fun {a h'} ha hs b ob e => by
    obtain ⟨_, _, hfree⟩ := ha
    refine (I.hok b ob e).stay (fun c w' hc q => (hs.2 c ?_).trans q) (fun _ q => q) fun _ _ q => q
    rintro rfl
    rcases hc with rfl | hc
    · rw [hfree] at e; cases e
    · rw [hfree] at hc; cases hc
  rcases hx with hk | hk
  · refine wpAny_storeName_local hk hn (fun h' hn' hs => ?_) hcls
    obtain ⟨oL, _, _, hoL, _⟩ := id hn
    refine h _ ⟨I.ok, I.os, I.bare, ⟨fun b o e n hb hx => ?_, fun b o e n hb hx => ?_, I.base.free, fun b o e hx => ?_, I.base.tups, I.base.frzs, I.base.tbls⟩, ⟨_, hn', fun j y v' e1 e2 e3 => ?_⟩, fun y c e => ?_, I.free, I.freeC, fun p hp => ?_, tracked ⟨oL, hoL, I.free⟩ hs, by simpa using I.len⟩ ⟨_, hs, .inl rfl⟩
    · exact (hs.2 b (Nat.ne_of_lt (Nat.lt_of_lt_of_le (Heap.lt_size e) I.ok.above))).trans (I.base.keep b o e n hb hx)
    · obtain ⟨sl, e1⟩ := I.base.slot b o e n hb hx
      exact ⟨sl, (hs.2 b (Nat.ne_of_lt (Nat.lt_of_lt_of_le (Heap.lt_size e) I.ok.above))).trans e1⟩
    · obtain ⟨o', e1⟩ := I.base.there b o e hx
      exact ⟨o', (hs.2 b (Nat.ne_of_lt (Nat.lt_of_lt_of_le (Heap.lt_size e) I.ok.above))).trans e1⟩
    · by_cases hj : j = i
      · subst hj
        rw [hi] at e1; cases e1
        rw [List.getElem?_set_self hiσ] at e2
        cases e2
        exact ⟨u, r, .inl ⟨hk, by simp⟩⟩
      · rw [List.getElem?_set_ne (Ne.symm hj)] at e2
        obtain ⟨u', r', q⟩ := hl j y v' e1 e2 e3
        refine ⟨u', r', ?_⟩
        rcases q with ⟨k, e⟩ | ⟨k, c, e, z⟩
        · refine .inl ⟨k, ?_⟩
          have : y ≠ x := fun e => hj (nodup_ix hN e1 (e ▸ hi))
          simp [this, e]
        · exact .inr ⟨k, c, e, z.sameBut hs (cne y c e)⟩
    · obtain ⟨w', z⟩ := I.cell y c e
      exact ⟨w', z.sameBut hs (cne y c e)⟩
    · obtain ⟨e, n, ne, nf, d⟩ := I.pin p hp
      exact ⟨(hs.2 p.1 ne).trans e, n, ne, nf, d⟩
  · have hfn : X.fn x = true := by
      rcases hf with z | z
      · exact z
      · rw [z] at hk; cases hk
    obtain ⟨c, hc⟩ := I.ok.has x (.inl hk)
    obtain ⟨w', z⟩ := I.cell x c hc
    refine wpAny_storeName_cell I.ok.kind hk hc z (fun h' hc' hs => ?_)
    obtain ⟨oc, hoc, hocd⟩ := id z
    refine h { s with heap := h' } ⟨I.ok, I.os, I.bare, ⟨fun b o e n hb hx => ?_, fun b o e n hb hx => ?_, I.base.free, fun b o e hx => ?_, I.base.tups, I.base.frzs, I.base.tbls⟩, ⟨m, hn.sameBut hs (Ne.symm (cne x c hc)), fun j y v' e1 e2 e3 => ?_⟩, fun y c' e => ?_, I.free, I.freeC, fun p hp => ?_, tracked ⟨oc, hoc, I.freeC x c hc⟩ hs, by simpa using I.len⟩ ⟨c, hs, .inr hc⟩
    · exact (hs.2 b (Nat.ne_of_lt (Nat.lt_of_lt_of_le (Heap.lt_size e) (I.ok.cab x c hfn hc)))).trans (I.base.keep b o e n hb hx)
    · obtain ⟨sl, e1⟩ := I.base.slot b o e n hb hx
      exact ⟨sl, (hs.2 b (Nat.ne_of_lt (Nat.lt_of_lt_of_le (Heap.lt_size e) (I.ok.cab x c hfn hc)))).trans e1⟩
    · obtain ⟨o', e1⟩ := I.base.there b o e hx
      exact ⟨o', (hs.2 b (Nat.ne_of_lt (Nat.lt_of_lt_of_le (Heap.lt_size e) (I.ok.cab x c hfn hc)))).trans e1⟩
    · by_cases hj : j = i
      · subst hj
        rw [hi] at e1; cases e1
        rw [List.getElem?_set_self hiσ] at e2
        cases e2
        exact ⟨u, r, .inr ⟨.inl hk, c, hc, hc'⟩⟩
      · rw [List.getElem?_set_ne (Ne.symm hj)] at e2
        obtain ⟨u', r', q⟩ := hl j y v' e1 e2 e3
        refine ⟨u', r', ?_⟩
        rcases q with q | ⟨k, c', e, z'⟩
        · exact .inl q
        · refine .inr ⟨k, c', e, z'.sameBut hs ?_⟩
          rintro rfl
          exact hj (nodup_ix hN e1 (I.ok.inj _ _ _ e hc ▸ hi))
    · by_cases hcc : c' = c
      · subst hcc; exact ⟨_, hc'⟩
      · obtain ⟨w2, z2⟩ := I.cell y c' e
        exact ⟨w2, z2.sameBut hs hcc⟩
    · obtain ⟨e, n, ne, nf, d⟩ := I.pin p hp
      refine ⟨(hs.2 p.1 ?_).trans e, n, ne, nf, d⟩
      intro q
      rw [q, hoc] at e
      have q' : oc = p.2 := Option.some.inj e
      exact d w' (by rw [← q']; exact hocd)
theorem store_ok {M : Model} {A : Around} {E : Value → Shared → Prop} {i : Nat} {x : Str} {v : V} {u : Value} {Q : Unit → Shared → Prop} (I : Inv X pins σ H s) (hN : X.N.Nodup) (hi : X.N[i]? = some x) (hx : Loc X.env.scope x) (r : RelV v u)
    (h : ∀ s', Inv X pins (σ.set i (some v)) H s' → Q () s') (hf : X.fn x = true ∨ X.env.scope.names.lookup x = some .local := by first | exact .inl rfl | exact .inr rfl | assumption) : wpAny M A (storeName X.env x u) Q E s :=
  store_ok2 I hN hi hx r (fun s' I' _ => h s' I') hf
/-- behind a call or a block, the state as it is -/
theorem Inv.call' {s' : Shared} {ch : List Addr} (I : Inv X pins σ H s) (ho : s'.os = s.os) (u : Un (frs X.stack) ch H H' s.heap s'.heap) (hok : HOk X.prog X.w H' s'.heap) (hg : AllBare s'.gens)
    (hch : ∀ b ∈ ch, (b ∈ X.ex ∨ X.s₀.heap.objs.size ≤ b) ∧ b ≠ X.env.locals ∧ (∀ x c, X.env.cells.lookup x = some c → c ≠ b) ∧ ∀ p ∈ X.pn ++ pins, p.1 ≠ b) : Inv X pins σ H' s' := by
  obtain ⟨h', g', d', t', o'⟩ := s'
  have e : o' = s.os := ho
  subst e
  exact I.call (g' := g') (t' := t') (d' := d') u hok hg hch
end

/-- an exception: its class, its own dict's address (where it has one), the abstract heap behind it -/
abbrev XK := Value → Option Addr → Hp → Prop
abbrev St := List (Option V)
abbrev VK := V → Hp → Prop
/-- an expression's reading; a test's; an argument list's -/
abbrev TE := St → Hp → VK → Prop
abbrev TT := St → Hp → (Bool → Hp → Prop) → Prop
abbrev TA := St → Hp → (List V → Hp → Prop) → Prop
/-- what is wanted behind a statement -/
structure Ends where
  nx : St → Hp → Prop
  rt : VK
  bk : St → Hp → Prop := fun _ _ => False
  ct : St → Hp → Prop := fun _ _ => False
abbrev TS := Ends → St → Hp → Prop

def EP (X : Cx) (pins : List (Addr × Obj)) (σ : St) (Q : VK) (u : Value) (s' : Shared) : Prop := ∃ v H', Inv X pins σ H' s' ∧ RelV v u ∧ Q v H'
def TP (X : Cx) (pins : List (Addr × Obj)) (σ : St) (Q : Bool → Hp → Prop) (b : Bool) (s' : Shared) : Prop := ∃ H', Inv X pins σ H' s' ∧ Q b H'
def AP (X : Cx) (pins : List (Addr × Obj)) (σ : St) (Q : List V → Hp → Prop) (us : List Value) (s' : Shared) : Prop := ∃ vs H', Inv X pins σ H' s' ∧ Vals vs us ∧ Q vs H'
def SP (X : Cx) (pins : List (Addr × Obj)) (D : Ends) (f : Flow) (s' : Shared) : Prop :=
  match f with
  | .next => ∃ σ' H', Inv X pins σ' H' s' ∧ D.nx σ' H'
  | .brk => ∃ σ' H', Inv X pins σ' H' s' ∧ D.bk σ' H'
  | .cont => ∃ σ' H', Inv X pins σ' H' s' ∧ D.ct σ' H'
  | .ret u => ∃ v σ' H', Inv X pins σ' H' s' ∧ RelV v u ∧ D.rt v H'

def PE (X : Cx) (e : Expr) (t : TE) : Prop :=
  ∀ (pins : List (Addr × Obj)) (s : Shared) (σ : St) (H : Hp) (Q : VK), Inv X pins σ H s → t σ H Q → wpAny (model X.prog X.w) X.A (eval e X.env) (EP X pins σ Q) X.xe s
def PT (X : Cx) (e : Expr) (t : TT) : Prop :=
  ∀ (pins : List (Addr × Obj)) (s : Shared) (σ : St) (H : Hp) (Q : Bool → Hp → Prop), Inv X pins σ H s → t σ H Q → wpAny (model X.prog X.w) X.A (isTrue e X.env (eval e X.env)) (TP X pins σ Q) X.xe s
/-- a test whatever its 'whole' is (and, or) -/
def PW (X : Cx) (e : Expr) (t : TT) : Prop :=
  ∀ (whole : Sem Value) (pins : List (Addr × Obj)) (s : Shared) (σ : St) (H : Hp) (Q : Bool → Hp → Prop), Inv X pins σ H s → t σ H Q → wpAny (model X.prog X.w) X.A (isTrue e X.env whole) (TP X pins σ Q) X.xe s
theorem PW.pt {X : Cx} {e : Expr} {t : TT} (h : PW X e t) : PT X e t := h _
/-- an argument list (no star), from the left -/
def PA (X : Cx) (es : List Expr) (t : TA) : Prop :=
  ∀ (pos : Pos) (pins : List (Addr × Obj)) (s : Shared) (σ : St) (H : Hp) (Q : List V → Hp → Prop), Inv X pins σ H s → t σ H Q → wpAny (model X.prog X.w) X.A (spliced (backTo pos (starEach es X.env))) (AP X pins σ Q) X.xe s
def PS (X : Cx) (st : Stmt) (t : TS) : Prop :=
  ∀ (pins : List (Addr × Obj)) (s : Shared) (σ : St) (H : Hp) (D : Ends), Inv X pins σ H s → t D σ H → wpAny (model X.prog X.w) X.A (exec st X.env) (SP X pins D) X.xe s
def PSs (X : Cx) (st : List Stmt) (t : TS) : Prop :=
  ∀ (pins : List (Addr × Obj)) (s : Shared) (σ : St) (H : Hp) (D : Ends), Inv X pins σ H s → t D σ H → wpAny (model X.prog X.w) X.A (execs st X.env) (SP X pins D) X.xe s
/-- weaken the end -/
theorem thn {α : Type} {t : Sem α} {Q Q' : α → Shared → Prop} {M : Model} {A : Around} {E : Value → Shared → Prop} {s : Shared} (h : wpAny M A t Q E s) (hQ : ∀ a s, Q a s → Q' a s) : wpAny M A t Q' E s := wpAny_mono h hQ fun _ _ x => x
end L2

namespace L2
open PySem PySem.Spec PyProof.Rows
section
variable {X : Cx}

def tVar (i : Nat) : TE := fun σ H Q => ∃ v, σ[i]? = some (some v) ∧ Q v H
def tC (v : V) : TE := fun _ H Q => Q v H
theorem pe_var {i : Nat} {x : Str} {pos : Pos} (hN : X.N[i]? = some x) (hv : Vis X.env.scope x) (hd : (x == ("__debug__" : Str)) = false := by decide) (hcd : (x == ("__classdict__" : Str)) = false := by decide) : PE X (.Name x pos) (tVar i) := by
  intro pins s σ H Q I h
  obtain ⟨v, e, h⟩ := h
  obtain ⟨m, hn, hl⟩ := I.loc
  obtain ⟨u, r, l⟩ := hl i x v hN e hv
  have fin : EP X pins σ Q u s := ⟨v, H, I, r, h⟩
  rcases l with ⟨hk, hm⟩ | ⟨hk, c, hc, hcell⟩
  · exact wpAny_Name (wpAny_loadName_local I.ok.kind hk hn hm fin) hd
  · rcases hk with hk | hk
    · exact wpAny_Name (wpAny_loadName_cell I.ok.kind hk hc hcell fin) hd
    · exact wpAny_Name (wpAny_loadName_free I.ok.kind hk hc hcell fin hcd) hd
theorem pe_int {i j pos} : PE X (.Constant (.int i) j pos) (tC (.int i)) := fun _ _ _ H _ I h => wpAny_Constant_int ⟨.int i, H, I.tok _, ⟨_, rfl⟩, h⟩
theorem pe_bl {b j pos} : PE X (.Constant (.bool b) j pos) (tC (.bl b)) := fun _ _ _ H _ I h => Constant_bool ⟨.bl b, H, I, rfl, h⟩
theorem pe_non {j pos} : PE X (.Constant .none j pos) (tC .non) := fun _ _ _ H _ I h => Constant_none ⟨.non, H, I, rfl, h⟩
theorem pe_str {x j pos} : PE X (.Constant (.str x) j pos) (tC (.str x)) := fun _ _ _ H _ I h => Calls.Constant_str ⟨.str x, H, I.tok _, ⟨_, rfl⟩, h⟩

/-- a global name of the def -/
def Gl (X : Cx) (x : Str) : Prop := X.env.kindOf x = some .globalImplicit
theorem ld_glob {E : Value → Shared → Prop} {pins : List (Addr × Obj)} {s : Shared} {σ : St} {H : Hp} {x : Str} {u : Value} {pos : Pos} {Q : Value → Shared → Prop} (I : Inv X pins σ H s) (hg : Gl X x) (hm : X.mg x = some u) (h : Q u s)
    (hd : (x == ("__debug__" : Str)) = false := by decide) : wpAny (model X.prog X.w) X.A (eval (.Name x pos) X.env) Q E s :=
  Calls.Name_function_global I.ok.kind hg (Calls.loadGlobal_global (by rw [I.ok.glob]; exact I.mod.glob.keeps I.bk) hm h) hd
theorem ld_blt {E : Value → Shared → Prop} {pins : List (Addr × Obj)} {s : Shared} {σ : St} {H : Hp} {x : Str} {u : Value} {pos : Pos} {Q : Value → Shared → Prop} (I : Inv X pins σ H s) (hg : Gl X x) (hm : X.mg x = none) (hv : bootBuiltins x = some u) (h : Q u s)
    (hn : x ≠ "__name__" := by decide) (hd : (x == ("__debug__" : Str)) = false := by decide) : wpAny (model X.prog X.w) X.A (eval (.Name x pos) X.env) Q E s := by
  obtain ⟨mb, h1, h2⟩ := I.mod.blt
  exact Calls.Name_function_global I.ok.kind hg (Calls.loadGlobal_builtin (by rw [I.ok.glob]; exact I.mod.glob.keeps I.bk) hm (by rw [I.ok.blt]; exact h1.keeps I.bk) ((h2 x hn).trans hv) h) hd
theorem pe_bltn {x : Str} {v : V} {u : Value} {pos : Pos} (hg : Gl X x) (hm : X.mg x = none) (hv : bootBuiltins x = some u) (r : RelV v u) (hn : x ≠ "__name__" := by decide) (hd : (x == ("__debug__" : Str)) = false := by decide) : PE X (.Name x pos) (tC v) :=
  fun _ _ _ H _ I h => ld_blt I hg hm hv ⟨v, H, I, r, h⟩ hn hd

variable {a b : Expr} {ta tb : TE} {pos : Pos}
def PC (X : Cx) (op : CmpOp) (a b : Expr) (t : TE) : Prop :=
  ∀ (pins : List (Addr × Obj)) (s : Shared) (σ : St) (H : Hp) (Q : VK), Inv X pins σ H s → t σ H Q →
    wpAny (model X.prog X.w) X.A (eval a X.env) (fun v s₁ => wpAny (model X.prog X.w) X.A (eval b X.env) (fun u s₂ => wpAny (model X.prog X.w) X.A (compareOp op v u) (EP X pins σ Q) X.xe s₂) X.xe s₁) X.xe s
theorem nobehind (b : Expr) {op : CmpOp} (h : op ≠ .In) (h2 : op ≠ .NotIn) : behindInMarks op b = false := by
  have e1 : (op == CmpOp.In) = false := by cases op <;> first | rfl | exact absurd rfl h
  have e2 : (op == CmpOp.NotIn) = false := by cases op <;> first | rfl | exact absurd rfl h2
  cases b <;> simp [behindInMarks, e1, e2]
/-- is None -/
def tIsN (ta : TE) : TE := fun σ H Q => ta σ H fun x H1 => Q (.bl (decide (x = .non))) H1
def tNotN (ta : TE) : TE := fun σ H Q => ta σ H fun x H1 => Q (.bl (!decide (x = .non))) H1
theorem RelV.none_iff {x : V} {v : Value} (r : RelV x v) : (v == Value.none) = decide (x = .non) := by
  cases x with
  | non => cases r; rfl
  | bl _ => cases r; rfl
  | int _ => obtain ⟨t, rfl⟩ := r; rfl
  | str _ => obtain ⟨t, rfl⟩ := r; rfl
  | byt _ => obtain ⟨t, rfl⟩ := r; rfl
  | flt _ => obtain ⟨t, rfl⟩ := r; rfl
  | ref _ => cases r; rfl
  | ty _ => cases r; rfl
theorem pc_notN {j pos'} (ha : PE X a ta) : PC X .IsNot a (.Constant .none j pos') (tNotN ta) := by
  intro pins s σ H Q I h
  refine thn (ha pins s σ H _ I h) fun v s1 ⟨x, H1, I1, r1, q1⟩ => ?_
  exact Constant_none (isnot_none_gen ⟨.bl _, H1, I1, by rw [r1.none_iff]; rfl, q1⟩)
/-- a comparison as a value, as a test -/
def tB (t : TE) : TT := fun σ H Q => t σ H fun x H1 => ∃ c, x = .bl c ∧ Q c H1
theorem pt_cmp {op : CmpOp} {t : TE} (h : PC X op a b t) (h1 : behindInMarks op b = false := by first | exact nobehind _ (by decide) (by decide) | rfl) : PT X (.Compare a [op] [b] pos) (tB t) := by
  intro pins s σ H Q I hw
  refine wpAny_isTrue_Compare1 (thn (h pins s σ H _ I hw) fun v s1 h1 => thn h1 fun u s2 h2 => thn h2 fun c s3 ⟨x, H1, I1, r1, q1⟩ => ?_) h1
  obtain ⟨d, rfl, q⟩ := q1
  cases r1
  exact wpAny_truthy_bool ⟨H1, I1, q⟩
/-- an expression whose value is a bool, as a test -/
theorem pt_val {e : Expr} {t : TE} (h : PE X e t) (he : ∀ whole, isTrue e X.env whole = (do let v ← whole; standAt e.pos; holding [v] (truthy v)) := by intro _; rfl) : PT X e (tB t) := by
  intro pins s σ H Q I hw
  refine isTrue_plain (thn (h pins s σ H _ I hw) fun v s1 ⟨x, H1, I1, r1, q1⟩ => ?_) (he _)
  obtain ⟨d, rfl, q⟩ := q1
  cases r1
  exact wpAny_truthy_bool ⟨H1, I1, q⟩

variable {tA tB' : TT} {rest : List Expr}
def tAnd (t u : TT) : TT := fun σ H Q => t σ H fun c H1 => if c = true then u σ H1 Q else Q false H1
def tOr (t u : TT) : TT := fun σ H Q => t σ H fun c H1 => if c = true then Q true H1 else u σ H1 Q
def tNot (t : TT) : TT := fun σ H Q => t σ H fun c H1 => Q (!c) H1
theorem pw_and1 (ha : PT X a tA) : PW X (.BoolOp .And [a] pos) tA := by
  intro wh pins s σ H Q I h
  refine isTrue_and (thn (ha pins s σ H Q I h) fun c s1 e => ?_)
  cases c with
  | true => exact isTrue_and_nil e
  | false => exact e
theorem pw_or1 (ha : PT X a tA) : PW X (.BoolOp .Or [a] pos) tA := by
  intro wh pins s σ H Q I h
  refine isTrue_or (thn (ha pins s σ H Q I h) fun c s1 e => ?_)
  cases c with
  | false => exact isTrue_or_nil e
  | true => exact e
theorem pw_and (ha : PT X a tA) (hb : PW X (.BoolOp .And (b :: rest) pos) tB') : PW X (.BoolOp .And (a :: b :: rest) pos) (tAnd tA tB') := by
  intro wh pins s σ H Q I h
  refine isTrue_and (thn (ha pins s σ H _ I h) fun c s1 ⟨H1, I1, q1⟩ => ?_)
  cases c with
  | true => exact hb wh pins s1 σ H1 Q I1 q1
  | false => exact ⟨H1, I1, q1⟩
theorem pw_or (ha : PT X a tA) (hb : PW X (.BoolOp .Or (b :: rest) pos) tB') : PW X (.BoolOp .Or (a :: b :: rest) pos) (tOr tA tB') := by
  intro wh pins s σ H Q I h
  refine isTrue_or (thn (ha pins s σ H _ I h) fun c s1 ⟨H1, I1, q1⟩ => ?_)
  cases c with
  | true => exact ⟨H1, I1, q1⟩
  | false => exact hb wh pins s1 σ H1 Q I1 q1
theorem pt_not (ha : PT X a tA) : PT X (.UnaryOp .Not a pos) (tNot tA) := by
  intro pins s σ H Q I h
  exact isTrue_not (ha pins s σ H (fun c H1 => Q (!c) H1) I h)
/-- .. as values (bools) -/
def tAndV (ta tb : TE) : TE := fun σ H Q => ta σ H fun x H1 => ∃ c, x = .bl c ∧ if c = true then tb σ H1 Q else Q (.bl false) H1
def tOrV (ta tb : TE) : TE := fun σ H Q => ta σ H fun x H1 => ∃ c, x = .bl c ∧ if c = true then Q (.bl true) H1 else tb σ H1 Q
def tNotV (ta : TE) : TE := fun σ H Q => ta σ H fun x H1 => ∃ c, x = .bl c ∧ Q (.bl (!c)) H1
/-- a if t else b -/
def tIf (t : TT) (ta tb : TE) : TE := fun σ H Q => t σ H fun c H1 => if c = true then ta σ H1 Q else tb σ H1 Q
end
end L2

namespace L2
open PySem PySem.Spec PyProof.Rows

def SqL (K : PySem.W.Frag) (H : Hp) (a : Addr) (xs : List V) : Prop :=
  Rd H a (.lst xs) ∨
    ∃ (o : Obj) (its : Array Value) (n : Nat), K.lookup a = some o ∧ o.cls = .type "list" ∧ o.dict = none ∧ o.data = .seq its n ∧ its.size ≤ sizeLine ∧ Vals xs its.toList
def SqT (K : PySem.W.Frag) (H : Hp) (a : Addr) (xs : List V) : Prop :=
  Rd H a (.tup xs) ∨
    ∃ (o : Obj) (its : Array Value) (n : Nat), K.lookup a = some o ∧ o.cls = .type "tuple" ∧ o.data = .seq its n ∧ its.size ≤ sizeLine ∧ Vals xs its.toList
def absV : Value → Option V
  | .none => some .non
  | .bool b => some (.bl b)
  | .int i _ => some (.int i)
  | .str x _ => some (.str x)
  | .bytes b _ => some (.byt b)
  | .float b _ => some (.flt b)
  | .ref a => some (.ref a)
  | .type n => some (.ty n)
  | _ => none
theorem RelV.abs {x : V} {u : Value} (r : RelV x u) : absV u = some x := by
  cases x with
  | non => cases r; rfl
  | bl _ => cases r; rfl
  | int _ => obtain ⟨t, rfl⟩ := r; rfl
  | str _ => obtain ⟨t, rfl⟩ := r; rfl
  | byt _ => obtain ⟨t, rfl⟩ := r; rfl
  | flt _ => obtain ⟨t, rfl⟩ := r; rfl
  | ref _ => cases r; rfl
  | ty _ => cases r; rfl
theorem RelV.inj {x y : V} {u : Value} (r : RelV x u) (q : RelV y u) : x = y := Option.some.inj (r.abs.symm.trans q.abs)
theorem Vals.inj : ∀ {xs ys : List V} {us : List Value}, Vals xs us → Vals ys us → xs = ys
  | _, _, _, .nil, .nil => rfl
  | _, _, _, .cons r t, .cons r' t' => by rw [r.inj r', Vals.inj t t']
section
variable {X : Cx} {pins : List (Addr × Obj)} {σ : St} {H : Hp} {s : Shared} {a : Addr} {xs ys : List V}
theorem SqL.of {K : PySem.W.Frag} (h : H a = some (.lst xs)) : SqL K H a xs := .inl (.inl h)
theorem SqT.of {K : PySem.W.Frag} (h : H a = some (.tup xs)) : SqT K H a xs := .inl (.inl h)
theorem Inv.list (I : Inv X pins σ H s) (h : SqL X.K H a xs) : ∃ its : List Value, Vals xs its ∧ PlainL s.heap a its.toArray ∧ xs.length ≤ sizeLine := by
  rcases h with h | ⟨o, its, n, hk, hc, hd, hs, hz, r⟩
  · obtain ⟨z, its, n, r, e⟩ := h.ok I.hok
    exact ⟨its, r, ⟨_, n, e, rfl, rfl, rfl⟩, z⟩
  · refine ⟨its.toList, r, ⟨o, n, I.kIn a o hk, hc, hd, by simpa using hs⟩, ?_⟩
    have e := r.length
    simp only [Array.length_toList] at e
    omega
theorem Inv.tuple (I : Inv X pins σ H s) (h : SqT X.K H a xs) : ∃ its : List Value, Vals xs its ∧ IsTup s.heap a its.toArray ∧ xs.length ≤ sizeLine := by
  rcases h with h | ⟨o, its, n, hk, hc, hs, hz, r⟩
  · obtain ⟨z, its, r, p⟩ := h.ok I.hok
    exact ⟨its, r, p, z⟩
  · refine ⟨its.toList, r, ⟨o, I.kIn a o hk, hc, n, by simpa using hs⟩, ?_⟩
    have e := r.length
    simp only [Array.length_toList] at e
    omega
theorem Inv.list_inj (I : Inv X pins σ H s) (h : SqL X.K H a xs) (h' : SqL X.K H a ys) : xs = ys := by
  obtain ⟨its, r, ⟨o, n, e, _, _, d⟩, _⟩ := I.list h
  obtain ⟨its', r', ⟨o', n', e', _, _, d'⟩, _⟩ := I.list h'
  rw [e] at e'; cases e'
  rw [d] at d'
  injection d' with d1 _
  have : its = its' := by simpa using congrArg Array.toList d1
  subst this
  exact r.inj r'
end

abbrev Cx.wish (X : Cx) (E : Value → Shared → Prop) : Cx := { X with xe := E }
/-- no exception leaves -/
abbrev Cx.nox (X : Cx) : Cx := X.wish fun _ _ => False
theorem Cx.Ok.wish {X : Cx} (ok : X.Ok) (E : Value → Shared → Prop) : (X.wish E).Ok :=
  ⟨ok.mod, ok.kind, ok.glob, ok.blt, ok.above, ok.inj, ok.has, ok.cab, ok.hd, ok.frames, ok.stk, ok.exf, ok.bs, ok.bsz, ok.noex, ok.exfs, ok.funs, ok.frf⟩
theorem Cx.Ok.unwish {X : Cx} {E : Value → Shared → Prop} (ok : (X.wish E).Ok) : X.Ok :=
  ⟨ok.mod, ok.kind, ok.glob, ok.blt, ok.above, ok.inj, ok.has, ok.cab, ok.hd, ok.frames, ok.stk, ok.exf, ok.bs, ok.bsz, ok.noex, ok.exfs, ok.funs, ok.frf⟩
section
variable {X : Cx} {pins : List (Addr × Obj)} {σ : St} {H : Hp} {s : Shared} {E : Value → Shared → Prop}
theorem Inv.wish (I : Inv X pins σ H s) (E : Value → Shared → Prop) : Inv (X.wish E) pins σ H s := ⟨I.ok.wish E, I.os, I.bare, I.base, I.loc, I.cell, I.free, I.freeC, I.pin, I.hok, I.len⟩
theorem Inv.unwish (I : Inv (X.wish E) pins σ H s) : Inv X pins σ H s := ⟨I.ok.unwish, I.os, I.bare, I.base, I.loc, I.cell, I.free, I.freeC, I.pin, I.hok, I.len⟩
theorem SP.unwish {D : Ends} {f : Flow} {s' : Shared} (h : SP (X.wish E) pins D f s') : SP X pins D f s' := by
  cases f with
  | next => obtain ⟨σ', H', I, q⟩ := h; exact ⟨σ', H', I.unwish, q⟩
  | brk => obtain ⟨σ', H', I, q⟩ := h; exact ⟨σ', H', I.unwish, q⟩
  | cont => obtain ⟨σ', H', I, q⟩ := h; exact ⟨σ', H', I.unwish, q⟩
  | ret u => obtain ⟨v, σ', H', I, r, q⟩ := h; exact ⟨v, σ', H', I.unwish, r, q⟩
theorem PE.nox {e : Expr} {t : TE} (h : PE X.nox e t) : PE X e t := fun pins s σ H Q I hw =>
  wpAny_mono (h pins s σ H Q (I.wish _) hw) (fun _ _ ⟨v, H', I', r, q⟩ => ⟨v, H', I'.unwish, r, q⟩) fun _ _ z => False.elim z
theorem PT.nox {e : Expr} {t : TT} (h : PT X.nox e t) : PT X e t := fun pins s σ H Q I hw =>
  wpAny_mono (h pins s σ H Q (I.wish _) hw) (fun _ _ ⟨H', I', q⟩ => ⟨H', I'.unwish, q⟩) fun _ _ z => False.elim z
theorem PSs.nox {st : List Stmt} {t : TS} (h : PSs X.nox st t) : PSs X st t := fun pins s σ H D I hw =>
  wpAny_mono (h pins s σ H D (I.wish _) hw) (fun _ _ q => q.unwish) fun _ _ z => False.elim z
end

section
variable {X : Cx} {st : Stmt} {rest : List Stmt} {t u : TS} {e : Expr} {te : TE} {pos : Pos}
def tNext : TS := fun D σ H => D.nx σ H
def tSeq (t u : TS) : TS := fun D σ H => t { D with nx := u D } σ H
theorem pss_nil : PSs X [] tNext := fun _ _ σ H _ I h => wpAny_execs_nil ⟨σ, H, I, h⟩
theorem pss_cons (h1 : PS X st t) (h2 : PSs X rest u) : PSs X (st :: rest) (tSeq t u) := by
  intro pins s σ H D I h
  refine wpAny_execs_cons (thn (h1 pins s σ H { D with nx := u D } I h) fun f s1 q => ?_)
  cases f with
  | next =>
    obtain ⟨σ', H', I', q⟩ := q
    exact h2 pins s1 σ' H' D I' q
  | ret v => exact q
  | brk => exact q
  | cont => exact q
theorem pss_one (h1 : PS X st t) : PSs X [st] t := by
  intro pins s σ H D I h
  refine wpAny_execs_cons (thn (h1 pins s σ H D I h) fun f s1 q => ?_)
  cases f with
  | next => exact wpAny_execs_nil q
  | ret v => exact q
  | brk => exact q
  | cont => exact q
/-- in a def's body nothing is shown -/
theorem Inv.quiet {pins : List (Addr × Obj)} {σ : St} {H : Hp} {s : Shared} (I : Inv X pins σ H s) : interactive X.env = false := by simp [interactive, I.ok.kind]
/-- an expression whose value is dropped -/
def tDrop (te : TE) : TS := fun D σ H => te σ H fun _ H1 => D.nx σ H1
theorem ps_expr (he : PE X e te) (hs : swapsWith e none pos.line X.env = pure false := by rfl) : PS X (.Expr e pos) (tDrop te) := by
  intro pins s σ H D I h
  exact wpAny_Expr_any (thn (he pins s σ H _ I h) fun v s1 ⟨x, H1, I1, r1, q1⟩ => ⟨σ, H1, I1, q1⟩) I.quiet hs
def tRet (te : TE) : TS := fun D σ H => te σ H D.rt
theorem ps_ret (he : PE X e te) : PS X (.Return (some e) pos) (tRet te) := by
  intro pins s σ H D I h
  exact wpAny_Return_some (thn (he pins s σ H _ I h) fun v s1 ⟨x, H1, I1, r1, q1⟩ => ⟨x, σ, H1, I1, r1, q1⟩)
def tRetN : TS := fun D _ H => D.rt .non H
def tIfS (c : TT) (t u : TS) : TS := fun D σ H => c σ H fun b H1 => if b = true then t D σ H1 else u D σ H1
theorem ps_if {c : Expr} {a b : List Stmt} {tc : TT} (hc : PT X c tc) (ha : PSs X a t) (hb : PSs X b u) : PS X (.If c a b pos) (tIfS tc t u) := by
  intro pins s σ H D I h
  refine wpAny_If (thn (hc pins s σ H _ I h) fun d s1 ⟨H1, I1, q1⟩ => ?_)
  cases d with
  | true => exact ha pins s1 σ H1 D I1 q1
  | false => exact hb pins s1 σ H1 D I1 q1
end

abbrev TG := V → St → Hp → (St → Hp → Prop) → Prop
abbrev TGs := List V → St → Hp → (St → Hp → Prop) → Prop
def PG (X : Cx) (target : Expr) (t : TG) : Prop :=
  ∀ (pins : List (Addr × Obj)) (s : Shared) (σ : St) (H : Hp) (v : V) (u : Value) (Q : St → Hp → Prop), Inv X pins σ H s → RelV v u → t v σ H Q →
    wpAny (model X.prog X.w) X.A (assign target X.env u) (fun _ s' => ∃ σ' H', Inv X pins σ' H' s' ∧ Q σ' H') X.xe s
/-- several targets, one after another -/
def PGs (X : Cx) (ts : List Expr) (t : TGs) : Prop :=
  ∀ (pins : List (Addr × Obj)) (s : Shared) (σ : St) (H : Hp) (vs : List V) (us : List Value) (Q : St → Hp → Prop), Inv X pins σ H s → Vals vs us → t vs σ H Q →
    wpAny (model X.prog X.w) X.A (assignInOrder ((assignEach ts X.env).map (·.2)) us) (fun _ s' => ∃ σ' H', Inv X pins σ' H' s' ∧ Q σ' H') X.xe s
/-- o[i] = v, by values -/
abbrev TSet := V → V → V → Hp → (Hp → Prop) → Prop
def PSet (X : Cx) (t : TSet) : Prop :=
  ∀ (pins : List (Addr × Obj)) (s : Shared) (σ : St) (H : Hp) (o i v : V) (ov iv u : Value) (Q : Hp → Prop), Inv X pins σ H s → RelV o ov → RelV i iv → RelV v u → t o i v H Q →
    wpAny (model X.prog X.w) X.A (setItem ov iv u) (fun _ s' => ∃ H', Inv X pins σ H' s' ∧ Q H') X.xe s
/-- a op= b, by values -/
abbrev TIp := V → V → Hp → VK → Prop
section
variable {X : Cx} {pos : Pos}
def gName (i : Nat) : TG := fun v σ H Q => Q (σ.set i (some v)) H
theorem pg_name {i : Nat} {x : Str} (hN : X.N.Nodup) (hi : X.N[i]? = some x) (hx : Loc X.env.scope x) (hf : X.fn x = true ∨ X.env.scope.names.lookup x = some .local := by first | exact .inl rfl | exact .inr rfl | assumption) : PG X (.Name x pos) (gName i) := by
  intro pins s σ H v u Q I r h
  exact wpAny_assign_Name (store_ok I hN hi hx r (fun s' I' => ⟨_, H, I', h⟩) hf)
def gNil : TGs := fun vs σ H Q => vs = [] ∧ Q σ H
def gCons (t : TG) (u : TGs) : TGs := fun vs σ H Q => ∃ v r, vs = v :: r ∧ t v σ H fun σ' H' => u r σ' H' Q
theorem pgs_nil : PGs X [] gNil := by
  intro pins s σ H vs us Q I r h
  obtain ⟨e, h⟩ := h
  subst e
  cases r
  exact assignInOrder_nil ⟨σ, H, I, h⟩
theorem pgs_cons {e : Expr} {es : List Expr} {t : TG} {u : TGs} (h1 : PG X e t) (h2 : PGs X es u)
    (hs : (assignEach (e :: es) X.env).map (·.2) = assign e X.env :: (assignEach es X.env).map (·.2) := by rfl) : PGs X (e :: es) (gCons t u) := by
  intro pins s σ H vs us Q I r h
  obtain ⟨v, vr, e1, h⟩ := h
  subst e1
  cases r with
  | cons r rr =>
    rw [hs]
    refine assignInOrder_cons (thn (h1 pins s σ H _ _ _ I r h) fun _ s1 ⟨σ1, H1, I1, q1⟩ => ?_)
    exact h2 pins s1 σ1 H1 _ _ Q I1 rr q1
/-- (a, b, ..) = a tuple of that length -/
def gTup (K : PySem.W.Frag) (n : Nat) (t : TGs) : TG := fun v σ H Q => ∃ a xs, v = .ref a ∧ SqT K H a xs ∧ xs.length = n ∧ t xs σ H Q
theorem pg_tup {es : List Expr} {k : Nat} {t : TGs} {n : Nat} (hc : X.calm = true) (h : PGs X es t)
    (hn : (assignEach es X.env).length = n := by rfl) (hst : (assignEach es X.env).findIdx? (·.1) = none := by rfl) : PG X (.Tuple es k pos) (gTup X.K n t) := by
  intro pins s σ H v u Q I r hw
  obtain ⟨a, xs, e1, hq, hl, hw⟩ := hw
  subst e1
  cases r
  obtain ⟨its, rv, ht, hz⟩ := I.tuple hq
  refine assign_Tuple_tuple (I.ok.hd hc) ht (by simp [hn, ← hl, rv.length]) hst fun h' hx => ?_
  have I1 : Inv X pins σ H { s with heap := h' } := I.kept (t' := s.toks) fun b o e => hx b o (Nat.ne_of_lt (Heap.lt_size e)) e
  exact h pins _ σ H xs _ Q I1 (by simpa using rv) hw
/-- o[i] = .. -/
def gSub (to ti : TE) (t : TSet) : TG := fun v σ H Q => to σ H fun o H1 => ti σ H1 fun i H2 => t o i v H2 fun H3 => Q σ H3
theorem pg_sub {o i : Expr} {to ti : TE} {t : TSet} (ho : PE X o to) (hi : PE X i ti) (hs : PSet X t)
    (ha : ∀ v, assign (.Subscript o i pos) X.env v = (do
      let ov ← holding [v] (eval o X.env)
      let iv ← holding [v, ov] (eval i X.env)
      standAt pos
      holding [v, ov, iv] (setItem ov iv v)
      release [v, ov, iv] []) := by intro _; rfl) : PG X (.Subscript o i pos) (gSub to ti t) := by
  intro pins s σ H v u Q I r h
  rw [ha]
  refine wpAny_bind (wpAny_holding (thn (ho pins s σ H _ I h) fun ov s1 ⟨x, H1, I1, r1, q1⟩ => ?_))
  refine wpAny_bind (wpAny_holding (thn (hi pins s1 σ H1 _ I1 q1) fun iv s2 ⟨y, H2, I2, r2, q2⟩ => ?_))
  refine wpAny_bind (wpAny_standAt (wpAny_bind (wpAny_holding (thn (hs pins s2 σ H2 x y v ov iv u _ I2 r1 r2 r q2) fun _ s3 ⟨H3, I3, q3⟩ => ?_))))
  exact wpAny_release ⟨σ, H3, I3, q3⟩
/-- target = value -/
def tAsg (te : TE) (g : TG) : TS := fun D σ H => te σ H fun x H1 => g x σ H1 D.nx
theorem ps_asg {tg e : Expr} {te : TE} {g : TG} (he : PE X e te) (hg : PG X tg g) (hs : swapsWithSole [tg] e pos.line X.env = pure false := by rfl) (hw : swappedStores [tg] e X.env = pure none := by rfl)
    (h1 : (assignEach [tg] X.env).map (·.2) = [assign tg X.env] := by rfl) : PS X (.Assign [tg] e pos) (tAsg te g) := by
  intro pins s σ H D I h
  refine wpAny_Assign_stores (thn (he pins s σ H _ I h) fun v s1 ⟨x, H1, I1, r1, q1⟩ => ?_) hs hw
  rw [h1]
  exact thn (hg pins s1 σ H1 x v _ I1 r1 q1) fun _ s2 q => q
/-- name = value -/
theorem ps_set {i : Nat} {x : Str} {e : Expr} {te : TE} {pos' : Pos} (hN : X.N.Nodup) (hi : X.N[i]? = some x) (hx : Loc X.env.scope x) (he : PE X e te) (hs : swapsWith e (some (.Name x pos')) pos.line X.env = pure false := by rfl) (hf : X.fn x = true ∨ X.env.scope.names.lookup x = some .local := by first | exact .inl rfl | exact .inr rfl | assumption) :
    PS X (.Assign [.Name x pos'] e pos) (tAsg te (gName i)) := by
  intro pins s σ H D I h
  refine wpAny_Assign_Name (thn (he pins s σ H _ I h) fun v s1 ⟨y, H1, I1, r1, q1⟩ => ?_) hs
  exact store_ok I1 hN hi hx r1 (fun s2 I2 => ⟨_, H1, I2, q1⟩) hf
/-- name op= e -/
def tAug (i : Nat) (te : TE) (ti : TIp) : TS := fun D σ H => ∃ x, σ[i]? = some (some x) ∧ te σ H fun y H1 => ti x y H1 fun z H2 => D.nx (σ.set i (some z)) H2
/-- ints -/
def ipI (f : Int → Int → Int) : TIp := fun x y H Q => ∃ i j, x = .int i ∧ y = .int j ∧ Q (.int (f i j)) H
end

section
variable {X : Cx} {pos : Pos}
/-- the invariant W with its measure -/
def tWhile (c : TT) (tb : TS) : TS := fun D σ H => ∃ W : Nat → St → Hp → Prop, (∃ m, W m σ H) ∧ ∀ m σ H, W m σ H →
  c σ H fun b H1 => if b = true then ∃ N : St → Hp → Prop, (∀ σ' H', N σ' H' → ∃ m', m' < m ∧ W m' σ' H') ∧ tb { D with nx := N, ct := N, bk := D.nx } σ H1 else D.nx σ H1
theorem ps_while {c : Expr} {body : List Stmt} {tc : TT} {tb : TS} (hp : PassesOwn (model X.prog X.w) X.A X.env X.xe) (hc : PT X c tc) (hb : PSs X body tb) : PS X (.While c body [] pos) (tWhile tc tb) := by
  intro pins s σ H D I h
  obtain ⟨W, ⟨m0, w0⟩, turn⟩ := h
  refine wpAny_While (codeAny_whileLoop (fun n s' => ∃ σ' H', Inv X pins σ' H' s' ∧ W n σ' H') ?_ m0 ⟨σ, H, I, w0⟩)
  rintro n s1 ⟨σ1, H1, I1, w1⟩
  refine wpAny_passesOwn hp (thn (hc pins s1 σ1 H1 _ I1 (turn n σ1 H1 w1)) fun b s2 ⟨H2, I2, q2⟩ => ?_)
  cases b with
  | true =>
    obtain ⟨N, hN, q2⟩ := q2
    rw [if_pos rfl]
    refine wpAny_passesOwn hp (thn (hb pins s2 σ1 H2 _ I2 q2) fun f s3 q3 => ?_)
    cases f with
    | next =>
      obtain ⟨σ3, H3, I3, n3⟩ := q3
      obtain ⟨m', hm, w3⟩ := hN σ3 H3 n3
      exact ⟨m', hm, σ3, H3, I3, w3⟩
    | cont =>
      obtain ⟨σ3, H3, I3, n3⟩ := q3
      obtain ⟨m', hm, w3⟩ := hN σ3 H3 n3
      exact ⟨m', hm, σ3, H3, I3, w3⟩
    | brk => exact q3
    | ret v => exact q3
  | false =>
    rw [if_neg Bool.false_ne_true]
    exact wpAny_execs_nil ⟨σ1, H2, I2, q2⟩
end

/-- at turn i: it yields x (the heap may grow), or it stops -/
structure It where
  go : Nat → Hp → Prop
  yld : Nat → Hp → V → Hp → Prop
  stop : Nat → Hp → Prop
/-- the iterator's own objects may turn: they are not the frame's, not pinned, younger than the entry (or a comprehension's own) -/
def FpOk (X : Cx) (pins : List (Addr × Obj)) (H : Hp) (b : Addr) : Prop :=
  H b = none ∧ b ≠ X.env.locals ∧ b ∉ X.fs ∧ (b ∈ X.ex ∨ X.s₀.heap.objs.size ≤ b) ∧ (∀ x c, X.env.cells.lookup x = some c → c ≠ b) ∧ ∀ p ∈ X.pn ++ pins, p.1 ≠ b
theorem Inv.fpOk {X : Cx} {pins : List (Addr × Obj)} {σ : St} {H H' : Hp} {s : Shared} {b : Addr} (I : Inv X pins σ H s) (hb : s.heap.objs.size ≤ b) (hn : H' b = none) : FpOk X pins H' b := by
  refine ⟨hn, Nat.ne_of_gt (Nat.lt_of_lt_of_le I.lt hb), I.nofs hb, .inr (Nat.le_trans I.sz hb), fun x c e z => ?_, fun p hp z => ?_⟩
  · obtain ⟨v, q⟩ := I.cell x c e
    exact absurd (Nat.lt_of_lt_of_le q.lt (by rw [z]; exact hb)) (Nat.lt_irrefl _)
  · exact absurd (Nat.lt_of_lt_of_le (Heap.lt_size (I.pin p hp).1) (by rw [z]; exact hb)) (Nat.lt_irrefl _)
structure Turn (P : Program) (w : World) (K : PySem.W.Frag) (tg : Expr) (J : It) (fp : List Addr) (it : Addr) (tn : Nat → Heap → Prop) : Prop where
  mem : it ∈ fp
  obj : ∀ i h, tn i h → ∀ b ∈ fp, ∃ o, h.get? b = some o ∧ ∀ v, o.data ≠ .cell v
  keep : ∀ i h h', tn i h → (∀ b ∈ fp, ∀ o, h.get? b = some o → h'.get? b = some o) → tn i h'
  item : ∀ (X : Cx), X.prog = P → X.w = w → X.K = K → X.calm = true → ∀ (i : Nat) (pins : List (Addr × Obj)) (s : Shared) (σ : St) (H : Hp) (E : Value → Shared → Prop), Inv X pins σ H s → (∀ b ∈ fp, FpOk X pins H b) → tn i s.heap → J.go i H →
    wpAny (model P w) X.A (pyNext (.ref it)) (fun r s1 => ∃ u, r = some u ∧
      wpAny (model P w) X.A (letOwnedTupleGo tg (.ref it) u) (fun _ s2 => ∃ x H', Inv X pins σ H' s2 ∧ RelV x u ∧ J.yld i H x H' ∧ tn (i + 1) s2.heap ∧ ∀ b ∈ fp, H' b = none) E s1) E s
  done : ∀ (X : Cx), X.prog = P → X.w = w → X.K = K → X.calm = true → ∀ (i : Nat) (pins : List (Addr × Obj)) (s : Shared) (σ : St) (H : Hp) (E : Value → Shared → Prop), Inv X pins σ H s → (∀ b ∈ fp, FpOk X pins H b) → tn i s.heap → J.stop i H →
    wpAny (model P w) X.A (pyNext (.ref it)) (fun r s1 => r = none ∧ Inv X pins σ H s1) E s
  self : ∀ (A : Around) (i : Nat) (s : Shared) (Q : Value → Shared → Prop) (E : Value → Shared → Prop), tn i s.heap → Q (.ref it) s → wpAny (model P w) A (pyIter (.ref it)) Q E s
abbrev TI := St → Hp → (It → Hp → Prop) → Prop
/-- an iterator has come -/
def PIE (X : Cx) (pins : List (Addr × Obj)) (σ : St) (tg : Expr) (R : It → Hp → Prop) (itv : Value) (s2 : Shared) : Prop :=
  ∃ (it : Addr) (fp : List Addr) (tn : Nat → Heap → Prop) (J : It) (H' : Hp), itv = .ref it ∧ Inv X pins σ H' s2 ∧ Turn X.prog X.w X.K tg J fp it tn ∧ tn 0 s2.heap ∧ (∀ b ∈ fp, FpOk X pins H' b) ∧ R J H'
def PI (X : Cx) (tg iter : Expr) (wi : TI) : Prop :=
  ∀ (pins : List (Addr × Obj)) (s : Shared) (σ : St) (H : Hp) (R : It → Hp → Prop), Inv X pins σ H s → wi σ H R →
    wpAny (model X.prog X.w) X.A (eval iter X.env) (fun v s1 => wpAny (model X.prog X.w) X.A (pyIter v) (PIE X pins σ tg R) X.xe s1) X.xe s

/-- the step ahead of the store is nothing for an iterator that keeps no tuple -/
theorem go_of {M : Model} {A : Around} {E : Value → Shared → Prop} {s : Shared} {tg : Expr} {it : Addr} {u : Value} {o : Obj} {n : String} {vs : Array Value} {Q : Unit → Shared → Prop} (ho : s.heap.get? it = some o) (hc : o.cls = .type n) (hd : o.data = .fields vs)
    (hn : ["enumerate", "zip", "dict_itemiterator", "dict_reverseitemiterator", "odict_iterator", "itertools.zip_longest", "itertools.pairwise"].contains n = false) (hQ : Q () s) : wpAny M A (letOwnedTupleGo tg (.ref it) u) Q E s := by
  unfold letOwnedTupleGo
  cases tg <;> first
    | exact wpAny_pure hQ
    | (cases u <;> first
        | exact wpAny_pure hQ
        | (refine wpAny_bind (wpAny_load ho ?_)
           rw [hc, hd]
           show wpAny M A (if (["enumerate", "zip", "dict_itemiterator", "dict_reverseitemiterator", "odict_iterator", "itertools.zip_longest", "itertools.pairwise"].contains n && vs[0]? == some (rawInt _)) = true then _ else _) Q E s
           rw [if_neg (by intro h; rw [hn, Bool.false_and] at h; cases h)]
           exact wpAny_pure hQ))

/-- the list at a, as it stands at each turn (a loop may append to it) -/
def Itl (K : PySem.W.Frag) (a : Addr) : It :=
  ⟨fun i H => ∃ xs x, SqL K H a xs ∧ xs[i]? = some x, fun i H x H' => H' = H ∧ ∀ xs, SqL K H a xs → xs[i]? = some x, fun i H => ∃ xs, SqL K H a xs ∧ xs.length ≤ i⟩
/-- lo, lo + 1, .. (n of them) -/
def Itr (lo : Int) (n : Nat) : It := ⟨fun i _ => i < n, fun i H x H' => H' = H ∧ x = .int (lo + i), fun i _ => n ≤ i⟩
theorem turn_list {P : Program} {w : World} {K : PySem.W.Frag} {tg : Expr} (a it : Addr) : Turn P w K tg (Itl K a) [it] it (fun i h => h.IsListIter it a i) where
  mem := by simp
  obj := fun i h st b hb => by
    have e : b = it := by simpa using hb
    subst e
    obtain ⟨o, e, c, d⟩ := st
    exact ⟨o, e, fun v z => by rw [d] at z; cases z⟩
  keep := fun i h h' st k => st.at fun o e => k it (by simp) o e
  item := by
    intro X hP hw hK hc i pins s σ H E I hf st hg
    subst hP hw hK
    obtain ⟨xs, x, hq, hx⟩ := hg
    obtain ⟨its, rv, p, hz⟩ := I.list hq
    obtain ⟨u, hu, ru⟩ := rv.get hx
    obtain ⟨f0, f1, f2, f3, f4, f5⟩ := hf it (by simp)
    refine wpAny_pyNext_list_item st p.isList (x := u) (by simpa using hu) fun h' st' sb => ?_
    have I1 : Inv X pins σ H { s with heap := h' } := I.turned (t' := s.toks) (fun b o hb e => (sb.2 b hb).trans e) f0 f1 f3 f4 f5
    obtain ⟨o, e, c, d⟩ := id st'
    exact ⟨u, rfl, go_of (s := { s with heap := h' }) e c d (by decide) ⟨x, H, I1, ru, ⟨rfl, fun ys hy => by rw [I.list_inj hy hq]; exact hx⟩, st', fun b hb => (hf b hb).1⟩⟩
  done := by
    intro X hP hw hK hc i pins s σ H E I hf st hg
    subst hP hw hK
    obtain ⟨xs, hq, hx⟩ := hg
    obtain ⟨its, rv, p, hz⟩ := I.list hq
    obtain ⟨f0, f1, f2, f3, f4, f5⟩ := hf it (by simp)
    have hl := rv.length
    exact wpAny_pyNext_list_end (I.ok.hd hc) st p.isList (by simp; omega) fun h' eb => ⟨rfl, I.turned (t' := s.toks) (fun b o hb e => eb b o hb e) f0 f1 f3 f4 f5⟩
  self := fun _ _ _ _ _ st h => wpAny_pyIter_listiter st h
theorem turn_range {P : Program} {w : World} {K : PySem.W.Frag} {tg : Expr} (it : Addr) (lo : Int) (n : Nat) : Turn P w K tg (Itr lo n) [it] it (fun i h => IsRangeIter h it (lo + (i : Nat) * 1) ((n : Int) - (i : Nat)) 1) where
  mem := by simp
  obj := fun i h st b hb => by
    have e : b = it := by simpa using hb
    subst e
    exact ⟨_, st, fun v z => by
      have z' : Data.fields _ = Data.cell v := z
      cases z'⟩
  keep := fun i h h' st k => k it (by simp) _ st
  item := by
    intro X hP hw hK hc i pins s σ H E I hf st hg
    subst hP hw hK
    obtain ⟨f0, f1, f2, f3, f4, f5⟩ := hf it (by simp)
    have W := Walks.range (prog := X.prog) (w := X.w) (I.ok.hd hc) it lo 1 n
    refine W.item i s _ _ hg st fun v h' tk hv st' kk => ?_
    obtain ⟨t, rfl⟩ := hv
    have I1 : Inv X pins σ H { s with heap := h', toks := tk } := I.turned (fun b o hb e => kk b o (by simpa using hb) e) f0 f1 f3 f4 f5
    refine ⟨_, rfl, go_of (s := { s with heap := h', toks := tk }) (n := "range_iterator") st' rfl rfl (by decide) ⟨.int (lo + i), H, I1, ⟨t, ?_⟩, ⟨rfl, rfl⟩, st', fun b hb => (hf b hb).1⟩⟩
    rw [Int.mul_one]
  done := by
    intro X hP hw hK hc i pins s σ H E I hf st hg
    subst hP hw hK
    obtain ⟨f0, f1, f2, f3, f4, f5⟩ := hf it (by simp)
    exact wpAny_pyNext_range_end (I.ok.hd hc) st (by have : n ≤ i := hg; omega) fun h' eb => ⟨rfl, I.turned (t' := s.toks) (fun b o hb e => eb b o hb e) f0 f1 f3 f4 f5⟩
  self := fun _ _ _ _ _ st h => wpAny_pyIter_rangeiter st h
end L2

namespace L2
open PySem PySem.Spec PyProof.Rows
section
variable {X : Cx} {tg : Expr}
def iList (K : PySem.W.Frag) (tl : TE) : TI := fun σ H R => tl σ H fun x H1 => ∃ a, x = .ref a ∧ (∃ xs, SqL K H1 a xs) ∧ R (Itl K a) H1
theorem pi_list {l : Expr} {tl : TE} (hl : PE X l tl) : PI X tg l (iList X.K tl) := by
  intro pins s σ H R I h
  refine thn (hl pins s σ H _ I h) fun v s1 ⟨x, H1, I1, r1, q1⟩ => ?_
  obtain ⟨a, e, ⟨xs, hq⟩, q⟩ := q1
  subst e
  cases r1
  obtain ⟨its, rv, p, hz⟩ := I1.list hq
  refine wpAny_pyIter_list p.isList ?_
  refine ⟨s1.heap.objs.size, [s1.heap.objs.size], _, _, H1, rfl, I1.kept (t' := s1.toks) fun b o e => Heap.get?_push_of_some _ e, turn_list a _, ⟨_, Heap.get?_push_size _ rfl, rfl, rfl⟩, fun b hb => ?_, q⟩
  have e : b = s1.heap.objs.size := by simpa using hb
  subst e
  exact I1.fpOk (Nat.le_refl _) (I1.hok.fresh (Nat.le_refl _))
/-- a range object just made, walked -/
theorem range_it {pins : List (Addr × Obj)} {σ : St} {H : Hp} {s : Shared} {R : It → Hp → Prop} {E : Value → Shared → Prop} {lo hi : Int} {t u v : Tok} {tk : Nat} (I : Inv X pins σ H s) (h1 : -(2 ^ 62) ≤ lo) (h2 : lo < 2 ^ 62) (h3 : -(2 ^ 62) ≤ hi) (h4 : hi < 2 ^ 62)
    (q : R (Itr lo (hi - lo).toNat) H) : wpAny (model X.prog X.w) X.A (pyIter (.ref s.heap.objs.size)) (PIE X pins σ tg R) E { s with heap := s.heap.push { cls := .type "range", data := .fields #[.int lo t, .int hi u, .int 1 v] }, toks := tk } := by
  refine wpAny_pyIter_range (IsRange.new ..) (small_one h1 h2 h3 h4) ?_
  have I1 : Inv X pins σ H { s with heap := s.heap.push { cls := .type "range", data := .fields #[.int lo t, .int hi u, .int 1 v] }, toks := tk } := I.kept fun b o e => Heap.get?_push_of_some _ e
  refine ⟨(s.heap.push { cls := .type "range", data := .fields #[.int lo t, .int hi u, .int 1 v] }).objs.size, [(s.heap.push { cls := .type "range", data := .fields #[.int lo t, .int hi u, .int 1 v] }).objs.size], _, _, H, rfl,
    I1.kept (t' := tk) fun b o e => Heap.get?_push_of_some _ e, turn_range _ lo (hi - lo).toNat, ?_, fun b hb => ?_, q⟩
  · have e1 : lo + ((0 : Nat) : Int) * 1 = lo := by simp
    have e2 : (((hi - lo).toNat : Nat) : Int) - ((0 : Nat) : Int) = Builtin.Range.rangeSize lo hi 1 := by rw [rangeSize_one]; split <;> omega
    show IsRangeIter _ _ (lo + ((0 : Nat) : Int) * 1) ((((hi - lo).toNat : Nat) : Int) - ((0 : Nat) : Int)) 1
    rw [e1, e2]
    exact Heap.get?_push_size _ rfl
  · have e : b = (s.heap.push { cls := .type "range", data := .fields #[.int lo t, .int hi u, .int 1 v] }).objs.size := by simpa using hb
    subst e
    exact I1.fpOk (Nat.le_refl _) (I1.hok.fresh (Nat.le_refl _))
def iRng1 (ta : TA) : TI := fun σ H R => ta σ H fun vs H1 => ∃ j : Int, vs = [.int j] ∧ -(2 ^ 62) ≤ j ∧ j < 2 ^ 62 ∧ R (Itr 0 j.toNat) H1
theorem pi_range1 {a : Expr} {ta : TA} {p pos : Pos} (hg : Gl X "range") (hm : X.mg "range" = none) (ha : PA X [a] ta) (hs : starEach [a] X.env = [(false, eval a X.env)] := by rfl) : PI X tg (.Call (.Name "range" p) [a] [] pos) (iRng1 ta) := by
  intro pins s σ H R I h
  refine Call_ (ld_blt I hg hm boot_range (PyProof.Rows.callWith_type1 (thn (ha pos pins s σ H _ I h) fun us s1 ⟨vs, H1, I1, r1, q1⟩ => ?_) hs rfl))
  obtain ⟨j, e, q1, q2, q⟩ := q1
  subst e
  cases r1 with
  | cons r rr =>
    cases rr
    obtain ⟨t, rfl⟩ := r
    exact call_range_1 (range_it I1 (by omega) (by omega) q1 q2 (by simpa using q))
/-- W: the invariant by the turn and a measure; N: what the body is to reach -/
def tFor (wi : TI) (g : TG) (tb : TS) : TS := fun D σ H => wi σ H fun J H1 => ∃ W : Nat → Nat → St → Hp → Prop, (∃ m, W 0 m σ H1) ∧ ∀ i m σ H, W i m σ H →
  (J.stop i H ∧ D.nx σ H) ∨ (J.go i H ∧ ∃ N : St → Hp → Prop, (∀ σ' H', N σ' H' → ∃ m', m' < m ∧ W (i + 1) m' σ' H') ∧ ∀ x H', J.yld i H x H' → g x σ H' fun σ2 H2 => tb { D with nx := N, ct := N, bk := D.nx } σ2 H2)
/-- the records at fp as they stand -/
def pinsAt (fp : List Addr) (h : Heap) : List (Addr × Obj) := fp.filterMap fun b => (h.get? b).map fun o => (b, o)
theorem mem_pinsAt {fp : List Addr} {h : Heap} {b : Addr} {o : Obj} (hb : b ∈ fp) (e : h.get? b = some o) : (b, o) ∈ pinsAt fp h := List.mem_filterMap.mpr ⟨b, hb, by rw [e]; rfl⟩
theorem of_pinsAt {fp : List Addr} {h : Heap} {p : Addr × Obj} (hp : p ∈ pinsAt fp h) : p.1 ∈ fp ∧ h.get? p.1 = some p.2 := by
  obtain ⟨b, hb, e⟩ := List.mem_filterMap.mp hp
  cases q : h.get? b with
  | none => rw [q] at e; cases e
  | some o =>
    rw [q] at e
    have e' : (b, o) = p := Option.some.inj e
    subst e'
    exact ⟨hb, q⟩
theorem Inv.pinned {pins : List (Addr × Obj)} {σ : St} {H : Hp} {s : Shared} {fp : List Addr} (I : Inv X pins σ H s) (hf : ∀ b ∈ fp, FpOk X pins H b) (ho : ∀ b ∈ fp, ∃ o, s.heap.get? b = some o ∧ ∀ v, o.data ≠ .cell v) : Inv X (pins ++ pinsAt fp s.heap) σ H s :=
  I.pins_of fun p hp => (List.mem_append.mp hp).elim (fun z => I.pin p (List.mem_append_right _ z)) fun z => by
    obtain ⟨hb, e⟩ := of_pinsAt z
    obtain ⟨f0, f1, f2, _⟩ := hf p.1 hb
    obtain ⟨o, e', d⟩ := ho p.1 hb
    rw [e] at e'; cases e'
    exact ⟨e, f0, f1, f2, d⟩
theorem Inv.unpinned {pins pl : List (Addr × Obj)} {σ : St} {H : Hp} {s : Shared} (I : Inv X (pins ++ pl) σ H s) : Inv X pins σ H s := I.pins_of fun p hp => I.pin p (List.mem_append_right _ (List.mem_append_left _ hp))
theorem ps_for {iter : Expr} {body : List Stmt} {wi : TI} {g : TG} {tb : TS} {pos : Pos} (hp : PassesOwn (model X.prog X.w) X.A X.env X.xe) (hc : X.calm = true) (hi : PI X tg iter wi) (hg : PG X tg g) (hb : PSs X body tb)
    (hs : ∀ x, foldedSetIterable iter X.env x = pure x := by intro _; rfl) : PS X (.For tg iter body [] pos) (tFor wi g tb) := by
  intro pins s σ H D I h
  refine wpAny_For (thn (hi pins s σ H _ I h) fun v s1 h1 => thn h1 fun itv s2 h2 => ?_) hs
  obtain ⟨it, fp, tn, J, H2, e, I2, T, st2, f2, W, ⟨m0, w0⟩, turn⟩ := h2
  subst e
  have stat : ∀ {H' : Hp}, (∀ b ∈ fp, H' b = none) → ∀ b ∈ fp, FpOk X pins H' b := fun hn b hb => ⟨hn b hb, (f2 b hb).2⟩
  refine codeAny_forLoop_any (fun n s' => ∃ i σ' H', Inv X pins σ' H' s' ∧ tn i s'.heap ∧ (∀ b ∈ fp, H' b = none) ∧ W i n σ' H') ?_ m0 ⟨0, σ, H2, I2, st2, fun b hb => (f2 b hb).1, w0⟩
  rintro n s3 ⟨i, σ3, H3, I3, st3, fr3, w3⟩
  rcases turn i n σ3 H3 w3 with ⟨stop, qn⟩ | ⟨go, N, hN, step⟩
  · refine wpAny_passesOwn hp (thn (T.done X rfl rfl rfl hc i pins s3 σ3 H3 X.xe I3 (stat fr3) st3 stop) fun r s4 ⟨hr, I4⟩ => ?_)
    subst hr
    exact wpAny_execs_nil ⟨σ3, H3, I4, qn⟩
  · refine wpAny_passesOwn hp (thn (T.item X rfl rfl rfl hc i pins s3 σ3 H3 X.xe I3 (stat fr3) st3 go) fun r s4 ⟨u, hr, h4⟩ => ?_)
    subst hr
    refine wpAny_passesOwn hp (thn h4 fun _ s5 ⟨x, H5, I5, r5, y5, st5, fr5⟩ => ?_)
    have I5' := I5.pinned (stat fr5) (T.obj _ _ st5)
    refine wpAny_passesOwn hp (thn (hg _ s5 σ3 H5 x u _ I5' r5 (step x H5 y5)) fun _ s6 ⟨σ6, H6, I6, q6⟩ => ?_)
    refine wpAny_passesOwn hp (thn (hb _ s6 σ6 H6 _ I6 q6) fun f s7 q7 => ?_)
    have again : ∀ {σ7 : St} {H7 : Hp}, Inv X (pins ++ pinsAt fp s5.heap) σ7 H7 s7 → N σ7 H7 → ∃ m, m < n ∧ ∃ i σ' H', Inv X pins σ' H' s7 ∧ tn i s7.heap ∧ (∀ b ∈ fp, H' b = none) ∧ W i m σ' H' := fun {σ7 H7} I7 n7 => by
      obtain ⟨m', hm, w7⟩ := hN σ7 H7 n7
      refine ⟨m', hm, i + 1, σ7, H7, I7.unpinned, T.keep _ _ _ st5 fun b hb o e => (I7.pin (b, o) (List.mem_append_right _ (List.mem_append_right _ (mem_pinsAt hb e)))).1, fun b hb => ?_, w7⟩
      obtain ⟨o, e, d⟩ := T.obj _ _ st5 b hb
      exact (I7.pin (b, o) (List.mem_append_right _ (List.mem_append_right _ (mem_pinsAt hb e)))).2.1
    cases f with
    | next => obtain ⟨σ7, H7, I7, n7⟩ := q7; exact again I7 n7
    | cont => obtain ⟨σ7, H7, I7, n7⟩ := q7; exact again I7 n7
    | brk => obtain ⟨σ7, H7, I7, q7⟩ := q7; exact ⟨σ7, H7, I7.unpinned, q7⟩
    | ret v => obtain ⟨x7, σ7, H7, I7, r7, q7⟩ := q7; exact ⟨x7, σ7, H7, I7.unpinned, r7, q7⟩
end

/-- over a list that the body leaves as it is -/
theorem for_list {K : PySem.W.Frag} {a : Addr} {xs : List V} {g : TG} {tb : TS} {D : Ends} {σ : St} {H : Hp} (Pv : Nat → St → Hp → Prop) (h0 : Pv 0 σ H) (hl : ∀ i σ H, i ≤ xs.length → Pv i σ H → SqL K H a xs)
    (hs : ∀ i x σ H, xs[i]? = some x → Pv i σ H → g x σ H fun σ2 H2 => tb { D with nx := Pv (i + 1), ct := Pv (i + 1), bk := D.nx } σ2 H2) (hd : ∀ σ H, Pv xs.length σ H → D.nx σ H) :
    ∃ W : Nat → Nat → St → Hp → Prop, (∃ m, W 0 m σ H) ∧ ∀ i m σ H, W i m σ H →
      ((Itl K a).stop i H ∧ D.nx σ H) ∨ ((Itl K a).go i H ∧ ∃ N : St → Hp → Prop, (∀ σ' H', N σ' H' → ∃ m', m' < m ∧ W (i + 1) m' σ' H') ∧ ∀ x H', (Itl K a).yld i H x H' → g x σ H' fun σ2 H2 => tb { D with nx := N, ct := N, bk := D.nx } σ2 H2) := by
  refine ⟨fun i m σ H => m = xs.length - i ∧ i ≤ xs.length ∧ Pv i σ H, ⟨xs.length, by simp, Nat.zero_le _, h0⟩, ?_⟩
  rintro i m σ H ⟨rfl, hi, p⟩
  have q := hl i σ H hi p
  by_cases hlt : i < xs.length
  · refine .inr ⟨⟨xs, xs[i], q, by simp [hlt]⟩, Pv (i + 1), fun σ' H' p' => ⟨xs.length - (i + 1), by omega, rfl, hlt, p'⟩, fun x H' y => ?_⟩
    obtain ⟨e, y⟩ := y
    subst e
    exact hs i x σ _ (y xs q) p
  · have e : i = xs.length := by omega
    subst e
    exact .inl ⟨⟨xs, q, Nat.le_refl _⟩, hd σ H p⟩
theorem for_range {lo : Int} {n : Nat} {g : TG} {tb : TS} {D : Ends} {σ : St} {H : Hp} (Pv : Nat → St → Hp → Prop) (h0 : Pv 0 σ H)
    (hs : ∀ i σ H, i < n → Pv i σ H → g (.int (lo + i)) σ H fun σ2 H2 => tb { D with nx := Pv (i + 1), ct := Pv (i + 1), bk := D.nx } σ2 H2) (hd : ∀ σ H, Pv n σ H → D.nx σ H) :
    ∃ W : Nat → Nat → St → Hp → Prop, (∃ m, W 0 m σ H) ∧ ∀ i m σ H, W i m σ H →
      ((Itr lo n).stop i H ∧ D.nx σ H) ∨ ((Itr lo n).go i H ∧ ∃ N : St → Hp → Prop, (∀ σ' H', N σ' H' → ∃ m', m' < m ∧ W (i + 1) m' σ' H') ∧ ∀ x H', (Itr lo n).yld i H x H' → g x σ H' fun σ2 H2 => tb { D with nx := N, ct := N, bk := D.nx } σ2 H2) := by
  refine ⟨fun i m σ H => m = n - i ∧ i ≤ n ∧ Pv i σ H, ⟨n, by simp, Nat.zero_le _, h0⟩, ?_⟩
  rintro i m σ H ⟨rfl, hi, p⟩
  by_cases hlt : i < n
  · refine .inr ⟨hlt, Pv (i + 1), fun σ' H' p' => ⟨n - (i + 1), by omega, rfl, hlt, p'⟩, fun x H' y => ?_⟩
    obtain ⟨e, y⟩ := y
    subst e y
    exact hs i σ _ hlt p
  · have e : i = n := by omega
    subst e
    exact .inl ⟨Nat.le_refl _, hd σ H p⟩
end L2

namespace L2
open PySem PySem.Spec PyProof.Rows

abbrev R2 := V → V → Hp → VK → Prop
/-- a two-place operation on values: f is binaryOp op, inplaceOp op or compareOp op -/
def OpR (X : Cx) (f : Value → Value → Sem Value) (r : R2) : Prop :=
  ∀ (pins : List (Addr × Obj)) (s : Shared) (σ : St) (H : Hp) (x y : V) (v u : Value) (Q : VK), Inv X pins σ H s → RelV x v → RelV y u → r x y H Q →
    wpAny (model X.prog X.w) X.A (f v u) (EP X pins σ Q) X.xe s
/-- a one-place operation -/
def UnR (X : Cx) (f : Value → Sem Value) (r : V → Hp → VK → Prop) : Prop :=
  ∀ (pins : List (Addr × Obj)) (s : Shared) (σ : St) (H : Hp) (x : V) (v : Value) (Q : VK), Inv X pins σ H s → RelV x v → r x H Q →
    wpAny (model X.prog X.w) X.A (f v) (EP X pins σ Q) X.xe s
/-- a call of a value that is known (a builtin, a type) with values -/
def CallR (X : Cx) (f : Value) (r : List V → Hp → VK → Prop) : Prop :=
  ∀ (pins : List (Addr × Obj)) (s : Shared) (σ : St) (H : Hp) (xs : List V) (us : List Value) (Q : VK), Inv X pins σ H s → Vals xs us → r xs H Q →
    wpAny (model X.prog X.w) X.A (call f us) (EP X pins σ Q) X.xe s
/-- a value's truth -/
def TruR (X : Cx) (r : V → Hp → (Bool → Hp → Prop) → Prop) : Prop :=
  ∀ (pins : List (Addr × Obj)) (s : Shared) (σ : St) (H : Hp) (x : V) (v : Value) (Q : Bool → Hp → Prop), Inv X pins σ H s → RelV x v → r x H Q →
    wpAny (model X.prog X.w) X.A (truthy v) (TP X pins σ Q) X.xe s

def tOp (r : R2) (ta tb : TE) : TE := fun σ H Q => ta σ H fun x H1 => tb σ H1 fun y H2 => r x y H2 Q
def tUn (r : V → Hp → VK → Prop) (ta : TE) : TE := fun σ H Q => ta σ H fun x H1 => r x H1 Q
/-- ints in, under C, and a value out -/
def rI (C : Int → Int → Prop) (g : Int → Int → V) : R2 := fun x y H Q => ∃ i j, x = .int i ∧ y = .int j ∧ C i j ∧ Q (g i j) H
def rI0 (g : Int → Int → V) : R2 := fun x y H Q => ∃ i j, x = .int i ∧ y = .int j ∧ Q (g i j) H
def rU (g : Int → V) : V → Hp → VK → Prop := fun x H Q => ∃ i, x = .int i ∧ Q (g i) H

section
variable {X : Cx} {a b c : Expr} {ta tb tc : TE} {pos : Pos}

theorem binT (ha : PE X a ta) (hb : PE X b tb) {pins : List (Addr × Obj)} {s : Shared} {σ : St} {H : Hp} {R : V → V → Hp → Prop} (I : Inv X pins σ H s)
    (h : ta σ H fun x H1 => tb σ H1 fun y H2 => R x y H2) {Q : Value → Shared → Prop} {f : Value → Value → Sem Value}
    (hf : ∀ v u s2 x y H2, Inv X pins σ H2 s2 → RelV x v → RelV y u → R x y H2 → wpAny (model X.prog X.w) X.A (f v u) Q X.xe s2) :
    wpAny (model X.prog X.w) X.A (eval a X.env) (fun v s₁ => wpAny (model X.prog X.w) X.A (eval b X.env) (fun u s₂ => wpAny (model X.prog X.w) X.A (f v u) Q X.xe s₂) X.xe s₁) X.xe s := by
  refine thn (ha pins s σ H _ I h) fun v s1 ⟨x, H1, I1, r1, q1⟩ => ?_
  refine thn (hb pins s1 σ H1 _ I1 q1) fun u s2 ⟨y, H2, I2, r2, q2⟩ => ?_
  exact hf v u s2 x y H2 I2 r1 r2 q2

theorem pe_op {op : Operator} {r : R2} (ho : OpR X (binaryOp op) r) (ha : PE X a ta) (hb : PE X b tb) : PE X (.BinOp a op b pos) (tOp r ta tb) := by
  intro pins s σ H Q I h
  exact wpAny_BinOp (binT ha hb I h fun v u s2 x y H2 I2 rx ry q => ho pins s2 σ H2 x y v u Q I2 rx ry q)
theorem pe_un {op : UnaryOp} {r : V → Hp → VK → Prop} (ho : UnR X (unaryOp op) r) (ha : PE X a ta) : PE X (.UnaryOp op a pos) (tUn r ta) := by
  intro pins s σ H Q I h
  exact UnaryOp_ (thn (ha pins s σ H _ I h) fun v s1 ⟨x, H1, I1, r1, q1⟩ => ho pins s1 σ H1 x v Q I1 r1 q1)
theorem opI {f : Value → Value → Sem Value} {C : Int → Int → Prop} {g : Int → Int → Int}
    (rule : ∀ (i j : Int) (t u : Tok) (s : Shared) (Q : Value → Shared → Prop) (E : Value → Shared → Prop), C i j → Q (.int (g i j) s.toks) { s with toks := s.toks + 1 } → wpAny (model X.prog X.w) X.A (f (.int i t) (.int j u)) Q E s) :
    OpR X f (rI C fun i j => .int (g i j)) := by
  intro pins s σ H x y v u Q I rx ry h
  obtain ⟨i, j, rfl, rfl, hc, q⟩ := h
  obtain ⟨t, rfl⟩ := rx
  obtain ⟨t', rfl⟩ := ry
  exact rule i j t t' s _ _ hc ⟨.int (g i j), H, I.tok _, ⟨_, rfl⟩, q⟩
theorem opI0 {f : Value → Value → Sem Value} {g : Int → Int → Int}
    (rule : ∀ (i j : Int) (t u : Tok) (s : Shared) (Q : Value → Shared → Prop) (E : Value → Shared → Prop), Q (.int (g i j) s.toks) { s with toks := s.toks + 1 } → wpAny (model X.prog X.w) X.A (f (.int i t) (.int j u)) Q E s) :
    OpR X f (rI0 fun i j => .int (g i j)) := by
  intro pins s σ H x y v u Q I rx ry h
  obtain ⟨i, j, rfl, rfl, q⟩ := h
  obtain ⟨t, rfl⟩ := rx
  obtain ⟨t', rfl⟩ := ry
  exact rule i j t t' s _ _ ⟨.int (g i j), H, I.tok _, ⟨_, rfl⟩, q⟩
theorem opB0 {f : Value → Value → Sem Value} {g : Int → Int → Bool}
    (rule : ∀ (i j : Int) (t u : Tok) (s : Shared) (Q : Value → Shared → Prop) (E : Value → Shared → Prop), Q (.bool (g i j)) s → wpAny (model X.prog X.w) X.A (f (.int i t) (.int j u)) Q E s) :
    OpR X f (rI0 fun i j => .bl (g i j)) := by
  intro pins s σ H x y v u Q I rx ry h
  obtain ⟨i, j, rfl, rfl, q⟩ := h
  obtain ⟨t, rfl⟩ := rx
  obtain ⟨t', rfl⟩ := ry
  exact rule i j t t' s _ _ ⟨.bl (g i j), H, I, rfl, q⟩

def CPow (i j : Int) : Prop := 0 ≤ j ∧ j ≤ 1000000 ∧ i.natAbs < 2 ^ 64
def CMul (i j : Int) : Prop := (-(2 ^ 64) < i ∧ i < 2 ^ 64) ∨ (-(2 ^ 64) < j ∧ j < 2 ^ 64)
theorem CMul.ok {i j : Int} (h : CMul i j) : IntMulOk i j := by
  rcases h with ⟨h1, h2⟩ | ⟨h1, h2⟩
  · exact .of_left (intBits_le_64 h1 h2)
  · exact .of_right (intBits_le_64 h1 h2)
theorem op_add : OpR X (binaryOp .Add) (rI0 fun i j => .int (i + j)) := opI0 fun _ _ _ _ _ _ _ q => add_int q
theorem op_sub : OpR X (binaryOp .Sub) (rI0 fun i j => .int (i - j)) := opI0 fun _ _ _ _ _ _ _ q => sub_int q
theorem op_mul : OpR X (binaryOp .Mult) (rI CMul fun i j => .int (i * j)) := opI fun _ _ _ _ _ _ _ hc q => mul_int q hc.ok
/-- % by a positive divisor of any size -/
theorem op_mod : OpR X (binaryOp .Mod) (rI (fun _ j => 0 < j) fun i j => .int (i % j)) := opI fun i j _ _ _ _ _ hc q => by
  have h1 : (0 : Int) < j := hc
  exact mod_int' (by omega) (by rw [Int.fmod_eq_emod_of_nonneg i (by omega)]; exact q)
theorem op_pow : OpR X (binaryOp .Pow) (rI CPow fun i j => .int (i ^ j.toNat)) := opI fun _ _ _ _ _ _ _ hc q => pow_int_small hc.1 hc.2.1 hc.2.2 q
theorem unI {f : Value → Sem Value} {g : Int → Int}
    (rule : ∀ (i : Int) (t : Tok) (s : Shared) (Q : Value → Shared → Prop) (E : Value → Shared → Prop), Q (.int (g i) s.toks) { s with toks := s.toks + 1 } → wpAny (model X.prog X.w) X.A (f (.int i t)) Q E s) :
    UnR X f (rU fun i => .int (g i)) := by
  intro pins s σ H x v Q I rx h
  obtain ⟨i, rfl, q⟩ := h
  obtain ⟨t, rfl⟩ := rx
  exact rule i t s _ _ ⟨.int (g i), H, I.tok _, ⟨_, rfl⟩, q⟩
theorem un_neg : UnR X (unaryOp .USub) (rU fun i => .int (-i)) := unI fun _ _ _ _ _ q => neg_int q
end

/-- the scalars that == tells apart as data does -/
def scal : V → V → Bool
  | .non, .non => true | .non, .int _ => true | .int _, .non => true | .non, .bl _ => true | .bl _, .non => true | .non, .str _ => true | .str _, .non => true
  | .int _, .int _ => true | .bl _, .bl _ => true | .str _, .str _ => true | .byt _, .byt _ => true
  | .int _, .str _ => true | .str _, .int _ => true | .bl _, .str _ => true | .str _, .bl _ => true
  | _, _ => false
def rEq : R2 := fun x y H Q => scal x y = true ∧ Q (.bl (decide (x = y))) H
def rNe : R2 := fun x y H Q => scal x y = true ∧ Q (.bl (!decide (x = y))) H

theorem dec_int {i j : Int} : decide (V.int i = V.int j) = (i == j) := by
  rw [Bool.eq_iff_iff]
  simp
theorem dec_bl {i j : Bool} : decide (V.bl i = V.bl j) = (i == j) := by
  rw [Bool.eq_iff_iff]
  simp
theorem dec_str {i j : Str} : decide (V.str i = V.str j) = (i == j) := by
  rw [Bool.eq_iff_iff]
  simp
theorem dec_byt {i j : Array UInt8} : decide (V.byt i = V.byt j) = (i.toList == j.toList) := by
  rw [Bool.eq_iff_iff]
  cases i
  cases j
  simp

section
variable {X : Cx} {a b c : Expr} {ta tb tc : TE} {pos : Pos}
theorem fin_bl {pins : List (Addr × Obj)} {σ : St} {H : Hp} {s : Shared} {Q : VK} {k k' : Bool} (I : Inv X pins σ H s) (q : Q (.bl k) H) (e : k = k') : EP X pins σ Q (.bool k') s := by
  subst e
  exact ⟨.bl k, H, I, rfl, q⟩
theorem op_eq : OpR X (compareOp .Eq) rEq := by
  intro pins s σ H x y v u Q I rx ry h
  obtain ⟨hs, q⟩ := h
  cases x with
  | non =>
    cases rx
    cases y with
    | non => cases ry; exact PySem.EqNone.eq_none_none (fin_bl I q (by simp))
    | bl j => cases ry; exact PySem.EqNone.eq_none_bool (fin_bl I q (by simp))
    | int j => obtain ⟨t', rfl⟩ := ry; exact PySem.EqNone.eq_none_int (fin_bl I q (by simp))
    | str j => obtain ⟨t', rfl⟩ := ry; exact PySem.EqNone.eq_none_str (fin_bl I q (by simp))
    | _ => exact absurd (show false = true from hs) Bool.false_ne_true
  | bl i =>
    cases rx
    cases y with
    | non => cases ry; exact PySem.EqNone.eq_bool_none (fin_bl I q (by simp))
    | bl j => cases ry; exact eq_bool (fin_bl I q dec_bl)
    | str j => obtain ⟨t', rfl⟩ := ry; exact PySem.EqMixed.eq_bool_str (fin_bl I q (by simp))
    | _ => exact absurd (show false = true from hs) Bool.false_ne_true
  | int i =>
    obtain ⟨t, rfl⟩ := rx
    cases y with
    | non => cases ry; exact PySem.EqNone.eq_int_none (fin_bl I q (by simp))
    | int j => obtain ⟨t', rfl⟩ := ry; exact eq_int (fin_bl I q dec_int)
    | str j => obtain ⟨t', rfl⟩ := ry; exact PySem.EqMixed.eq_int_str (fin_bl I q (by simp))
    | _ => exact absurd (show false = true from hs) Bool.false_ne_true
  | str i =>
    obtain ⟨t, rfl⟩ := rx
    cases y with
    | non => cases ry; exact PySem.EqNone.eq_str_none (fin_bl I q (by simp))
    | bl j => cases ry; exact PySem.EqMixed.eq_str_bool (fin_bl I q (by simp))
    | int j => obtain ⟨t', rfl⟩ := ry; exact PySem.EqMixed.eq_str_int (fin_bl I q (by simp))
    | str j => obtain ⟨t', rfl⟩ := ry; exact eq_str (fin_bl I q dec_str)
    | _ => exact absurd (show false = true from hs) Bool.false_ne_true
  | byt i =>
    obtain ⟨t, rfl⟩ := rx
    cases y with
    | byt j => obtain ⟨t', rfl⟩ := ry; exact PySem.W.eq_bytes (fin_bl I q dec_byt)
    | _ => exact absurd (show false = true from hs) Bool.false_ne_true
  | _ => cases y <;> exact absurd (show false = true from hs) Bool.false_ne_true
theorem op_ne : OpR X (compareOp .NotEq) rNe := by
  intro pins s σ H x y v u Q I rx ry h
  obtain ⟨hs, q⟩ := h
  cases x with
  | non =>
    cases rx
    cases y with
    | non => cases ry; exact PySem.EqNone.ne_none_none (fin_bl I q (by simp))
    | bl j => cases ry; exact PySem.EqNone.ne_none_bool (fin_bl I q (by simp))
    | int j => obtain ⟨t', rfl⟩ := ry; exact PySem.EqNone.ne_none_int (fin_bl I q (by simp))
    | str j => obtain ⟨t', rfl⟩ := ry; exact PySem.EqNone.ne_none_str (fin_bl I q (by simp))
    | _ => exact absurd (show false = true from hs) Bool.false_ne_true
  | bl i =>
    cases rx
    cases y with
    | non => cases ry; exact PySem.EqNone.ne_bool_none (fin_bl I q (by simp))
    | bl j => cases ry; exact ne_bool (fin_bl I q (congrArg not dec_bl))
    | str j => obtain ⟨t', rfl⟩ := ry; exact PySem.EqMixed.ne_bool_str (fin_bl I q (by simp))
    | _ => exact absurd (show false = true from hs) Bool.false_ne_true
  | int i =>
    obtain ⟨t, rfl⟩ := rx
    cases y with
    | non => cases ry; exact PySem.EqNone.ne_int_none (fin_bl I q (by simp))
    | int j => obtain ⟨t', rfl⟩ := ry; exact ne_int (fin_bl I q (congrArg not dec_int))
    | str j => obtain ⟨t', rfl⟩ := ry; exact PySem.EqMixed.ne_int_str (fin_bl I q (by simp))
    | _ => exact absurd (show false = true from hs) Bool.false_ne_true
  | str i =>
    obtain ⟨t, rfl⟩ := rx
    cases y with
    | non => cases ry; exact PySem.EqNone.ne_str_none (fin_bl I q (by simp))
    | bl j => cases ry; exact PySem.EqMixed.ne_str_bool (fin_bl I q (by simp))
    | int j => obtain ⟨t', rfl⟩ := ry; exact PySem.EqMixed.ne_str_int (fin_bl I q (by simp))
    | str j => obtain ⟨t', rfl⟩ := ry; exact ne_str (fin_bl I q (congrArg not dec_str))
    | _ => exact absurd (show false = true from hs) Bool.false_ne_true
  | byt i =>
    obtain ⟨t, rfl⟩ := rx
    cases y with
    | byt j => obtain ⟨t', rfl⟩ := ry; exact PySem.W.ne_bytes (fin_bl I q (congrArg not dec_byt))
    | _ => exact absurd (show false = true from hs) Bool.false_ne_true
  | _ => cases y <;> exact absurd (show false = true from hs) Bool.false_ne_true

theorem op_lt : OpR X (compareOp .Lt) (rI0 fun i j => .bl (decide (i < j))) := opB0 fun _ _ _ _ _ _ _ q => lt_int q
theorem op_le : OpR X (compareOp .LtE) (rI0 fun i j => .bl (decide (i ≤ j))) := opB0 fun _ _ _ _ _ _ _ q => le_int q
theorem op_gt : OpR X (compareOp .Gt) (rI0 fun i j => .bl (decide (j < i))) := opB0 fun _ _ _ _ _ _ _ q => gt_int q
theorem op_ge : OpR X (compareOp .GtE) (rI0 fun i j => .bl (decide (j ≤ i))) := opB0 fun _ _ _ _ _ _ _ q => ge_int q
/-- two rules for one operation: by cases -/
theorem OpR.or {f : Value → Value → Sem Value} {r r' : R2} (h : OpR X f r) (h' : OpR X f r') : OpR X f (fun x y H Q => r x y H Q ∨ r' x y H Q) := by
  intro pins s σ H x y v u Q I rx ry q
  rcases q with q | q
  · exact h pins s σ H x y v u Q I rx ry q
  · exact h' pins s σ H x y v u Q I rx ry q

theorem nomark (b : Expr) {op : CmpOp} (h : op ≠ .In := by decide) (h2 : op ≠ .NotIn := by decide) : behindInMarks op b = false := by
  have e1 : (op == CmpOp.In) = false := by cases op <;> first | rfl | exact absurd rfl h
  have e2 : (op == CmpOp.NotIn) = false := by cases op <;> first | rfl | exact absurd rfl h2
  cases b <;> simp [behindInMarks, e1, e2]
/-- a comparison as a value; hm: nomark b, or (for in, not in) by with_unfolding_all rfl -/
theorem pe_cmpR {op : CmpOp} {r : R2} (ho : OpR X (compareOp op) r) (ha : PE X a ta) (hb : PE X b tb) (hm : behindInMarks op b = false) : PE X (.Compare a [op] [b] pos) (tOp r ta tb) := by
  intro pins s σ H Q I h
  exact wpAny_Compare1 (binT ha hb I h fun v u s2 x y H2 I2 rx ry q => ho pins s2 σ H2 x y v u Q I2 rx ry q) hm
/-- a reading of a value as a test -/
def tTest (t : TE) : TT := fun σ H Q => t σ H fun x H' => ∃ k, x = .bl k ∧ Q k H'
theorem pt_cmpR {op : CmpOp} {r : R2} (ho : OpR X (compareOp op) r) (ha : PE X a ta) (hb : PE X b tb) (hm : behindInMarks op b = false) : PT X (.Compare a [op] [b] pos) (tTest (tOp r ta tb)) := by
  intro pins s σ H Q I h
  refine wpAny_isTrue_Compare1 (thn (ha pins s σ H _ I h) fun v s1 ⟨x, H1, I1, r1, q1⟩ => thn (hb pins s1 σ H1 _ I1 q1) fun u s2 ⟨y, H2, I2, r2, q2⟩ =>
    thn (ho pins s2 σ H2 x y v u _ I2 r1 r2 q2) fun c s3 ⟨z, H3, I3, r3, k, e, q3⟩ => ?_) hm
  subst e
  cases r3
  exact wpAny_truthy_bool ⟨H3, I3, q3⟩
/-- a op1 b op2 c -/
def tChain (r r' : R2) (ta tb tc : TE) : TE := fun σ H Q => ta σ H fun x H1 => tb σ H1 fun y H2 => r x y H2 fun z H3 => ∃ k, z = .bl k ∧
  (if k = true then tc σ H3 fun w' H4 => r' y w' H4 Q else Q (.bl false) H3)
/-- a value's truth by the abstract heap -/
def TruV (K : PySem.W.Frag) (x : V) (H : Hp) (k : Bool) : Prop :=
  match x with
  | .non => k = false
  | .bl b => k = b
  | .int i => k = (i != 0)
  | .str y => y.length ≤ sizeLine ∧ k = ((y.length : Int) != 0)
  | .byt y => y.size ≤ sizeLine ∧ k = ((y.size : Int) != 0)
  | .ref p => (∃ xs, SqL K H p xs ∧ k = !xs.isEmpty) ∨ (∃ xs, SqT K H p xs ∧ k = !xs.isEmpty) ∨ ∃ kvs, H p = some (.dK kvs) ∧ k = !kvs.isEmpty
  | _ => False
theorem isEmpty_kv {κ : Type} {kvs : List (κ × V)} {vs : List (κ × Value)} (r : KV kvs vs) : (!vs.isEmpty) = !kvs.isEmpty := by
  cases r <;> rfl
theorem isEmpty_of {xs : List V} {its : List Value} (r : Vals xs its) : (!its.toArray.isEmpty) = !xs.isEmpty := by
  cases r <;> simp
theorem line63 : (sizeLine : Nat) < 2 ^ 63 := by rw [sizeLine_eq]; decide
theorem tru_ok : TruR X (fun x H Q => ∃ k, TruV X.K x H k ∧ Q k H) := by
  intro pins s σ H x v Q I rx h
  obtain ⟨k, e, q⟩ := h
  have hl := line63
  have hs : sizeLine = 16777216 := sizeLine_eq
  cases x with
  | non =>
    cases rx
    have e' : k = false := e
    subst e'
    exact truthy_none ⟨H, I, q⟩
  | bl b =>
    cases rx
    have e' : k = b := e
    subst e'
    exact wpAny_truthy_bool ⟨H, I, q⟩
  | int i =>
    obtain ⟨t, rfl⟩ := rx
    have e' : k = (i != 0) := e
    subst e'
    exact PySem.P.truthy_int ⟨H, I, q⟩
  | str y =>
    obtain ⟨t, rfl⟩ := rx
    obtain ⟨hy, e'⟩ : y.length ≤ sizeLine ∧ k = ((y.length : Int) != 0) := e
    subst e'
    exact PySem.P.truthy_str (by omega) ⟨H, I.tok _, q⟩
  | byt y =>
    obtain ⟨t, rfl⟩ := rx
    obtain ⟨hy, e'⟩ : y.size ≤ sizeLine ∧ k = ((y.size : Int) != 0) := e
    subst e'
    exact PySem.W.truthy_bytes (by omega) ⟨H, I.tok _, q⟩
  | ref p =>
    cases rx
    have e' : (∃ xs, SqL X.K H p xs ∧ k = !xs.isEmpty) ∨ (∃ xs, SqT X.K H p xs ∧ k = !xs.isEmpty) ∨ ∃ kvs, H p = some (.dK kvs) ∧ k = !kvs.isEmpty := e
    rcases e' with ⟨xs, hx, e'⟩ | ⟨xs, hx, e'⟩ | ⟨kvs, hx, e'⟩
    · subst e'
      obtain ⟨its, r, pl, hz⟩ := I.list hx
      have hlen := r.length
      exact wpAny_truthy_list pl.isList (by simp only [List.size_toArray]; omega) ⟨H, I.tok _, by rw [isEmpty_of r]; exact q⟩
    · subst e'
      obtain ⟨its, r, pl, hz⟩ := I.tuple hx
      have hlen := r.length
      exact truthy_tuple pl (by simp only [List.size_toArray]; omega) ⟨H, I.tok _, by rw [isEmpty_of r]; exact q⟩
    · subst e'
      obtain ⟨hz, hS, vs, r, m⟩ : kvs.length ≤ sizeLine ∧ (p == sysModules) = false ∧ ∃ vs, KV kvs vs ∧ s.heap.DictOf (mixKind X.prog X.w) p vs := I.hok p _ hx
      have hlen : kvs.length = vs.length := Paired.length r
      exact wpAny_truthy_dict hS m (by omega) ⟨H, I.tok _, by rw [isEmpty_kv r]; exact q⟩
  | _ => exact (show False from e).elim
/-- any expression whose test is its value's truth (a name, a call, a subscript, a field ..: he by fun _ => rfl) -/
theorem pt_truth (ha : PE X a ta) (he : ∀ whole, isTrue a X.env whole = (do let v ← whole; standAt a.pos; holding [v] (truthy v))) :
    PT X a (fun σ H Q => ta σ H fun x H' => ∃ k, TruV X.K x H' k ∧ Q k H') := by
  intro pins s σ H Q I h
  exact isTrue_plain (thn (ha pins s σ H _ I h) fun v s1 ⟨x, H1, I1, r1, q1⟩ => tru_ok pins s1 σ H1 x v Q I1 r1 q1) (he _)

theorem vals1 {x : V} {us : List Value} (r : Vals [x] us) : ∃ u, us = [u] ∧ RelV x u := by
  cases r with
  | cons r1 r2 => cases r2; exact ⟨_, rfl, r1⟩
theorem vals2 {x y : V} {us : List Value} (r : Vals [x, y] us) : ∃ u w', us = [u, w'] ∧ RelV x u ∧ RelV y w' := by
  cases r with
  | cons r1 r2 =>
    cases r2 with
    | cons r3 r4 => cases r4; exact ⟨_, _, rfl, r1, r3⟩
theorem call_abs : CallR X (.builtin "abs") (fun xs H Q => ∃ i, xs = [.int i] ∧ Q (.int (if i < 0 then -i else i)) H) := by
  intro pins s σ H xs us Q I r h
  obtain ⟨i, rfl, q⟩ := h
  obtain ⟨u, rfl, t, rfl⟩ := vals1 r
  exact call_abs_int fun u tk => ⟨.int (if i < 0 then -i else i), H, I.tok _, ⟨_, rfl⟩, q⟩
theorem call_max2 (hc : X.calm = true) : CallR X (.builtin "max") (fun xs H Q => ∃ i j, xs = [.int i, .int j] ∧ Q (.int (if j > i then j else i)) H) := by
  intro pins s σ H xs us Q I r h
  obtain ⟨i, j, rfl, q⟩ := h
  obtain ⟨u, w', rfl, ⟨t, rfl⟩, ⟨t', rfl⟩⟩ := vals2 r
  refine max_two_ints (I.ok.hd hc) fun h' tk k => ⟨_, H, I.kept k, ?_, q⟩
  by_cases hj : j > i
  · rw [if_pos hj, if_pos hj]; exact ⟨_, rfl⟩
  · rw [if_neg hj, if_neg hj]; exact ⟨_, rfl⟩
theorem call_min2 (hc : X.calm = true) : CallR X (.builtin "min") (fun xs H Q => ∃ i j, xs = [.int i, .int j] ∧ Q (.int (if j < i then j else i)) H) := by
  intro pins s σ H xs us Q I r h
  obtain ⟨i, j, rfl, q⟩ := h
  obtain ⟨u, w', rfl, ⟨t, rfl⟩, ⟨t', rfl⟩⟩ := vals2 r
  refine min_two_ints (I.ok.hd hc) fun h' tk k => ⟨_, H, I.kept k, ?_, q⟩
  by_cases hj : j < i
  · rw [if_pos hj, if_pos hj]; exact ⟨_, rfl⟩
  · rw [if_neg hj, if_neg hj]; exact ⟨_, rfl⟩
/-- len of a str, a bytes, a list, a tuple -/
def LenV (K : PySem.W.Frag) (x : V) (H : Hp) (n : Nat) : Prop :=
  match x with
  | .str y => y.length ≤ sizeLine ∧ n = y.length
  | .byt y => y.size ≤ sizeLine ∧ n = y.size
  | .ref p => (∃ xs, SqL K H p xs ∧ n = xs.length) ∨ ∃ xs, SqT K H p xs ∧ n = xs.length
  | _ => False
theorem call_len : CallR X (.builtin "len") (fun xs H Q => ∃ x n, xs = [x] ∧ LenV X.K x H n ∧ Q (.int n) H) := by
  intro pins s σ H xs us Q I r h
  obtain ⟨x, n, rfl, e, q⟩ := h
  obtain ⟨u, rfl, rx⟩ := vals1 r
  have hl := line63
  have hs : sizeLine = 16777216 := sizeLine_eq
  cases x with
  | str y =>
    obtain ⟨t, rfl⟩ := rx
    obtain ⟨hy, e'⟩ : y.length ≤ sizeLine ∧ n = y.length := e
    subst e'
    exact len_str (by omega) ⟨.int _, H, I.tok _, ⟨_, rfl⟩, q⟩
  | byt y =>
    obtain ⟨t, rfl⟩ := rx
    obtain ⟨hy, e'⟩ : y.size ≤ sizeLine ∧ n = y.size := e
    subst e'
    exact PySem.W.len_bytes (by omega) ⟨.int _, H, I.tok _, ⟨_, rfl⟩, q⟩
  | ref p =>
    cases rx
    have e' : (∃ xs, SqL X.K H p xs ∧ n = xs.length) ∨ ∃ xs, SqT X.K H p xs ∧ n = xs.length := e
    rcases e' with ⟨xs, hx, e'⟩ | ⟨xs, hx, e'⟩
    · subst e'
      obtain ⟨its, r', pl, hz⟩ := I.list hx
      have hlen := r'.length
      exact Calls.call_len_list pl.isList (by simp only [List.size_toArray]; omega) ⟨.int xs.length, H, I.tok _, ⟨_, by simp only [List.size_toArray]; rw [hlen]⟩, q⟩
    · subst e'
      obtain ⟨its, r', pl, hz⟩ := I.tuple hx
      have hlen := r'.length
      exact len_tuple pl (by simp only [List.size_toArray]; omega) ⟨.int xs.length, H, I.tok _, ⟨_, by simp only [List.size_toArray]; rw [hlen]⟩, q⟩
  | _ => exact (show False from e).elim
end
end L2

namespace L2
open PySem PySem.Spec PyProof.Rows

structure ObjM (h : Heap) (x dx C : Addr) (mA : Str → Option Value) : Prop where
  obj : h.get? x = some (PySem.W.instObj C dx)
  ns : h.Ns1 dx mA
  ne : dx ≠ x

theorem lookIn_ns {h : Heap} {dx : Addr} {mA : Str → Option Value} (n : h.Ns1 dx mA) : ∃ od, h.get? dx = some od ∧ ∀ name, PySem.W.lookIn name od = some (mA name) := by
  obtain ⟨o, es, ep, ho, hd, hk, _, hm⟩ := n
  refine ⟨o, ho, fun name => ?_⟩
  have e := hm name
  unfold nsFind findBy at e
  rw [← Array.find?_toList] at e
  unfold PySem.W.lookIn
  rw [hd]
  dsimp only
  split
  · rename_i y q
    rw [q] at e
    exact congrArg some e
  · rename_i q
    rw [q] at e
    have a : es.toList.any (·.refKey) = false := by
      rw [List.any_eq_false]
      intro y hy
      obtain ⟨z, t, hkey⟩ := hk y (Array.mem_toList_iff.mp hy)
      simp [DictEntry.refKey, hkey]
    have a' : ¬ es.toList.any (·.refKey) = true := by rw [a]; exact Bool.false_ne_true
    rw [if_neg a']
    exact congrArg some e

theorem ObjM.look {h : Heap} {x dx C : Addr} {mA : Str → Option Value} (I : ObjM h x dx C mA) : ∃ od, PySem.W.InstAt h x (PySem.W.instObj C dx) C (some od) ∧ ∀ name, PySem.W.lookIn name od = some (mA name) :=
  let ⟨od, ho, hl⟩ := lookIn_ns I.ns
  ⟨od, ⟨I.obj, rfl, rfl, ho⟩, hl⟩

section
variable {prog : Program} {w : World} {A : Around} {E : Value → Shared → Prop} {s : Shared} {K : PySem.W.Frag} {x dx C f : Addr} {mA : Str → Option Value} {name : Str} {v : Value}

end

def putF (f : Str) (v : V) : List (Str × V) → List (Str × V)
  | [] => [(f, v)]
  | (g, x) :: r => if g = f then (g, v) :: r else (g, x) :: putF f v r
section
variable {P : Program} {w : World} {H H' : Hp} {h h' : Heap} {a C dx : Addr} {fs fs' : List (Str × V)}
theorem ins_get (hok : HOk P w H h) (e : H a = some (.ins C dx fs)) : ∃ mA, ObjM h a dx C mA ∧ (∀ f, RelO (fs.lookup f) (mA f)) ∧ PySem.Within mA (fs.map (·.1)) ∧ fs.length ≤ 1000 ∧ H dx = some (.own a) := by
  obtain ⟨d, z, ne, ob, mA, n, r, q⟩ := (show ObjOk P w H h a (.ins C dx fs) from hok a _ e)
  exact ⟨mA, ⟨ob, n, ne⟩, r, q, z, d⟩
end

structure Cls (K : PySem.W.Frag) (C : Addr) : Prop where
  pg : PySem.W.plainGet K C Str.empty = true
  hd : PySem.W.hasDictIn K C = true
  po : PySem.W.plainOver K C = true
  sa : PySem.W.findIn K (.ref C) "__setattr__" = some (some (.builtin "object.__setattr__"))
theorem Cls.get {K : PySem.W.Frag} {C : Addr} (c : Cls K C) (f : Str) : PySem.W.plainGet K C f = true := c.pg
/-- no class of it has the name -/
def NoAttr (K : PySem.W.Frag) (C : Addr) (f : Str) : Prop := PySem.W.findIn K (.ref C) f = some none
section
variable {X : Cx} {pins : List (Addr × Obj)} {σ : St} {H : Hp} {s : Shared} {a C dx : Addr} {fs : List (Str × V)} {f : Str} {v : V} {A : Around} {E : Value → Shared → Prop}

/-- a new instance, tracked, without attributes -/
theorem Inv.made (I : Inv X pins σ H s) : Inv X pins σ (upd (upd H s.heap.objs.size (.own (s.heap.objs.size + 1))) (s.heap.objs.size + 1) (.ins C s.heap.objs.size []))
    { s with heap := (s.heap.push PySem.W.emptyDict).push (PySem.W.instObj C s.heap.objs.size) } := by
  have e1 : (s.heap.push PySem.W.emptyDict).get? s.heap.objs.size = some PySem.W.emptyDict := Heap.get?_push_size s.heap rfl
  have e2 : ((s.heap.push PySem.W.emptyDict).push (PySem.W.instObj C s.heap.objs.size)).get? (s.heap.objs.size + 1) = some (PySem.W.instObj C s.heap.objs.size) := by
    have := Heap.get?_push_size (s.heap.push PySem.W.emptyDict) (o := PySem.W.instObj C s.heap.objs.size) rfl
    rwa [Heap.size_push] at this
  have e3 : (s.heap.push PySem.W.emptyDict).Ns s.heap.objs.size (fun _ => none) := ⟨PySem.W.emptyDict, #[], _, e1, rfl, (fun e he => absurd he (by simp)), fun _ => rfl⟩
  have I1 := I.laid (a := s.heap.objs.size) (o := .own (s.heap.objs.size + 1)) (h' := s.heap.push PySem.W.emptyDict) (t' := s.toks) (fun b u q => Heap.get?_push_of_some _ q) (Nat.le_refl _) ⟨_, e1⟩
  refine I1.laid (a := s.heap.objs.size + 1) (o := .ins C s.heap.objs.size []) (t' := s.toks) (fun b u q => Heap.get?_push_of_some _ q) (Nat.le_of_eq (Heap.size_push _ _)) ?_
  have ne : s.heap.objs.size ≠ s.heap.objs.size + 1 := Nat.ne_of_lt (Nat.lt_succ_self _)
  refine ⟨by rw [upd_ne ne, upd_same], Nat.zero_le _, ne, e2, fun _ => none, (Heap.Ns1.of_empty e3).at fun o q => Heap.get?_push_of_some _ q, fun _ => True.intro, fun y hy => absurd rfl hy⟩

end

/-- e.f, an attribute of the instance -/
def tFld (K : PySem.W.Frag) (ta : TE) (f : Str) : TE := fun σ H Q => ta σ H fun x H1 => ∃ a C dx fs v, x = .ref a ∧ H1 a = some (.ins C dx fs) ∧ Cls K C ∧ NoAttr K C f ∧ fs.lookup f = some v ∧ Q v H1
/-- e.f = value -/
def sFld (K : PySem.W.Frag) (ta tv : TE) (f : Str) : TS := fun D σ H => tv σ H fun y H1 => ta σ H1 fun x H2 => ∃ a C dx fs, x = .ref a ∧ H2 a = some (.ins C dx fs) ∧ Cls K C ∧ NoAttr K C f ∧ fs.length < 1000 ∧
  D.nx σ (upd H2 a (.ins C dx (putF f y fs)))
section
variable {X : Cx} {o e value : Expr} {f : Str} {pos pos' tpos : Pos} {ta tv : TE}
end

section
variable {X : Cx} {pins : List (Addr × Obj)} {σ : St} {H : Hp} {s : Shared} {A : Around} {E : Value → Shared → Prop} {Q : Value → Shared → Prop} {c : Value} {b : Bool}
/-- the type of a value, as the fragment's deciders take it; for an instance its class -/
inductive TyOf (K : PySem.W.Frag) (H : Hp) : V → Value → Prop where
  | non : TyOf K H .non (.type "NoneType")
  | bl (x : Bool) : TyOf K H (.bl x) (.type "bool")
  | int (i : Int) : TyOf K H (.int i) (.type "int")
  | str (x : Str) : TyOf K H (.str x) (.type "str")
  | flt (x : UInt64) : TyOf K H (.flt x) (.type "float")
  | lst {a : Addr} {xs : List V} (e : H a = some (.lst xs)) : TyOf K H (.ref a) (.type "list")
  | frz {a : Addr} {o : Obj} {xs : List V} (e : H a = some (.frz o (.lst xs))) : TyOf K H (.ref a) (.type "list")
  | tup {a : Addr} {xs : List V} (e : H a = some (.tup xs)) : TyOf K H (.ref a) (.type "tuple")
  | dK {a : Addr} {kvs : List (Key × V)} (e : H a = some (.dK kvs)) : TyOf K H (.ref a) (.type "dict")
  | dT {a : Addr} {kvs : List (List Key × V)} (e : H a = some (.dT kvs)) : TyOf K H (.ref a) (.type "dict")
  | ins {a C dx : Addr} {fs : List (Str × V)} (e : H a = some (.ins C dx fs)) (cl : Cls K C) (ha : PySem.W.findIn K (.ref C) "__class__" = some (some (.builtin "object.__class__")))
      (hn : PySem.W.specialIn K (.builtin "object.__class__") "__get__" = some (some (.builtin "getset_descriptor.__get__"))) (htk : PySem.W.takesIn K (.builtin "object.__class__") = some true)
      (hm : PySem.W.mroIn K C (.type "object") = some true) : TyOf K H (.ref a) (.ref C)
/-- isinstance(x, c) for one class c, a built-in or an own one: kitOne's answer -/
theorem isinst_ok {x : V} {u t : Value} (I : Inv X pins σ H s) (rx : RelV x u) (ty : TyOf X.K H x t) (e : PySem.W.kitOne X.K t c = some b) (h : ∀ tk, Q (.bool b) { s with toks := tk }) :
    wpAny (model X.prog X.w) A (call (.builtin "isinstance") [u, c]) Q E s := by
  cases ty with
  | non => cases (show u = Value.none from rx); exact PySem.W.kia_one PySem.W.kitx_none I.kIn True.intro e (fun z => nomatch z) h
  | bl y => cases (show u = Value.bool y from rx); exact PySem.W.kia_one PySem.W.kitx_bool I.kIn True.intro e (fun z => nomatch z) h
  | int i => obtain ⟨t, q⟩ := (show ∃ t, u = Value.int i t from rx); cases q; exact PySem.W.kia_one PySem.W.kitx_int I.kIn True.intro e (fun z => nomatch z) h
  | str y => obtain ⟨t, q⟩ := (show ∃ t, u = Value.str y t from rx); cases q; exact PySem.W.kia_one PySem.W.kitx_str I.kIn True.intro e (fun z => nomatch z) h
  | flt y => obtain ⟨t, q⟩ := (show ∃ t, u = Value.float y t from rx); cases q; exact PySem.W.kia_one PySem.W.kitx_float I.kIn True.intro e (fun z => nomatch z) h
  | @lst a xs ea =>
    cases (show u = Value.ref a from rx)
    obtain ⟨_, _, n, _, h1⟩ := (show ObjOk X.prog X.w H s.heap a (.lst xs) from I.hok a _ ea)
    exact PySem.W.kia_one PySem.W.kitx_list I.kIn ⟨_, h1, rfl⟩ e (fun z => nomatch z) h
  | @frz a ob xs ea =>
    cases (show u = Value.ref a from rx)
    obtain ⟨_, _, _, n, _, h1⟩ := (show ObjOk X.prog X.w H s.heap a (.frz ob (.lst xs)) from I.hok a _ ea)
    exact PySem.W.kia_one PySem.W.kitx_list I.kIn ⟨_, h1, rfl⟩ e (fun z => nomatch z) h
  | @tup a xs ea =>
    cases (show u = Value.ref a from rx)
    obtain ⟨_, _, _, p⟩ := (show ObjOk X.prog X.w H s.heap a (.tup xs) from I.hok a _ ea)
    obtain ⟨o, h1, h2, _⟩ := p
    exact PySem.W.kia_one PySem.W.kitx_tuple I.kIn ⟨o, h1, h2⟩ e (fun z => nomatch z) h
  | @dK a kvs ea =>
    cases (show u = Value.ref a from rx)
    obtain ⟨_, _, vs, _, p⟩ := (show ObjOk X.prog X.w H s.heap a (.dK kvs) from I.hok a _ ea)
    obtain ⟨o, es, ep, h1, h2, _⟩ := p
    exact PySem.W.kia_one PySem.W.kitx_dict I.kIn ⟨o, h1, h2.1⟩ e (fun z => nomatch z) h
  | @dT a kvs ea =>
    cases (show u = Value.ref a from rx)
    obtain ⟨_, _, xs, _, o, es, ep, h1, h2, _⟩ := (show ObjOk X.prog X.w H s.heap a (.dT kvs) from I.hok a _ ea)
    exact PySem.W.kia_one PySem.W.kitx_dict I.kIn ⟨o, h1, h2.1⟩ e (fun z => nomatch z) h
  | @ins a C dx fs ea cl ha hn htk hm =>
    cases (show u = Value.ref a from rx)
    obtain ⟨mA, O, _⟩ := ins_get I.hok ea
    obtain ⟨od, J, _⟩ := O.look
    exact PySem.W.kia_one (PySem.W.kitx_own (cl.get _) cl.hd ha hn htk hm) I.kIn J e (fun z => nomatch z) h
end
end L2

namespace L2
open PySem PySem.Spec PyProof.Rows

structure Room (k : Nat) (A : Around) : Prop where
  hd : A.handled = none
  dp : A.depth + 3 * k + 5 < recursionLimit
  un : A.units + 16 * k + 200 < cLine
theorem Room.mono {j k : Nat} {A : Around} (r : Room k A) (h : j ≤ k) : Room j A := ⟨r.hd, by have := r.dp; omega, by have := r.un; omega⟩
theorem Room.deeper {k : Nat} {A : Around} (r : Room (k + 1) A) (env : Env) : Room k (A.deeper env) :=
  ⟨r.hd, by have := r.dp; show A.depth + 1 + 3 * k + 5 < _; omega, by have := r.un; show A.units + 3 + 16 * k + 200 < _; omega⟩
theorem Room.in1 {k : Nat} {A : Around} (r : Room (k + 1) A) : Room k A.in1 :=
  ⟨r.hd, by have := r.dp; show A.depth + 3 * k + 5 < _; omega, by have := r.un; show A.units + 1 + 16 * k + 200 < _; omega⟩
theorem make_depth {A : Around} {C : Addr} {us : List Value} {kw : List (Str × Value)} : (A.under (.builtin "type.__call__" ⟨.ref C :: us, kw⟩)).depth = A.depth + 1 := by
  first | rfl | simp [Around.under, Code.weight, Code.isCreation, Code.isGuard, Code.isCaller, Code.frames, Code.isFrame, guardIds]
theorem make_units {A : Around} {C : Addr} {us : List Value} {kw : List (Str × Value)} : (A.under (.builtin "type.__call__" ⟨.ref C :: us, kw⟩)).units = A.units + 1 := by
  first | rfl | simp [Around.under, Code.cUnits, Code.frames, Code.isFrame]
theorem Room.make {k : Nat} {A : Around} (r : Room (k + 1) A) (C : Addr) (us : List Value) (kw : List (Str × Value)) : Room k (A.under (.builtin "type.__call__" ⟨.ref C :: us, kw⟩)) :=
  ⟨r.hd, by have := r.dp; rw [make_depth]; omega, by have := r.un; rw [make_units]; omega⟩
theorem Room.depth {k : Nat} {A : Around} (r : Room k A) : A.depth < recursionLimit := by have := r.dp; omega
theorem Room.units {k : Nat} {A : Around} (r : Room k A) : A.units + 64 < cLine := by have := r.un; omega
def tNil : TA := fun _ H Q => Q [] H
def tCons (ta : TE) (tr : TA) : TA := fun σ H Q => ta σ H fun x H1 => tr σ H1 fun xs H2 => Q (x :: xs) H2
section
variable {X : Cx} {e : Expr} {es : List Expr} {te : TE} {t : TA} {pos : Pos}
theorem pa_nil : PA X [] tNil := fun _ _ _ _ H Q I h => Calls.spliced_nil ⟨[], H, I, .nil, h⟩
theorem pa_cons (ha : PE X e te) (hr : PA X es t) (hs : starEach (e :: es) X.env = (false, eval e X.env) :: starEach es X.env := by rfl) : PA X (e :: es) (tCons te t) := by
  intro pos pins s σ H Q I h
  rw [hs]
  show wpAny _ _ (spliced ((false, eval e X.env) :: backTo pos (starEach es X.env))) _ _ s
  refine Calls.spliced_cons (thn (ha pins s σ H _ I h) fun u s1 ⟨x, H1, I1, r1, q1⟩ => ?_)
  exact thn (hr pos pins s1 σ H1 _ I1 q1) fun us s2 ⟨xs, H2, I2, r2, q2⟩ => ⟨x :: xs, H2, I2, .cons r1 r2, q2⟩

/-- a tuple, a list of written items -/
def tTup (t : TA) : TE := fun σ H Q => t σ H fun xs H1 => xs.length ≤ sizeLine ∧ ∀ p, H1 p = none → Q (.ref p) (upd H1 p (.tup xs))
def tLst (t : TA) : TE := fun σ H Q => t σ H fun xs H1 => xs.length ≤ sizeLine ∧ ∀ p, H1 p = none → Q (.ref p) (upd H1 p (.lst xs))
theorem pe_tup {x1} (h : PA X es t) : PE X (.Tuple es x1 pos) (tTup t) := by
  intro pins s σ H Q I hq
  refine wpAny_Tuple_spliced (thn (h pos pins s σ H _ I hq) fun us s1 ⟨xs, H1, I1, r, z, q⟩ => ⟨by rw [← r.length]; exact z, ?_⟩)
  have hf : H1 s1.heap.objs.size = none := I1.hok.fresh (Nat.le_refl _)
  refine ⟨.ref s1.heap.objs.size, upd H1 s1.heap.objs.size (.tup xs), I1.laid (t' := s1.toks) (fun b u e => Heap.get?_push_of_some _ e) (Nat.le_refl _) ?_, rfl, q _ hf⟩
  exact ⟨z, us, r, ⟨_, Heap.get?_push_size _ rfl, rfl, _, rfl⟩⟩
theorem pe_lst (h : PA X es t) : PE X (.List es pos) (tLst t) := by
  intro pins s σ H Q I hq
  refine wpAny_List_spliced (thn (h pos pins s σ H _ I hq) fun us s1 ⟨xs, H1, I1, r, z, q⟩ => ⟨by rw [← r.length]; exact z, ?_⟩)
  have hf : H1 s1.heap.objs.size = none := I1.hok.fresh (Nat.le_refl _)
  refine ⟨.ref s1.heap.objs.size, upd H1 s1.heap.objs.size (.lst xs), I1.laid (t' := s1.toks) (fun b u e => Heap.get?_push_of_some _ e) (Nat.le_refl _) ?_, rfl, q _ hf⟩
  exact ⟨z, us, 0, r, Heap.get?_push_size _ rfl⟩
end

/-- a def's promise: the bound arguments in the parameters' order, the heap, the wanted end, the wanted exception -/
abbrev Sp := List V → Hp → VK → XK → Prop
/-- how an exception lies behind a call (file 08 gives it): the callers' frames, abstract heap and state ahead of the call, the wish, the exception, the state -/
abbrev CXT := List Env → Hp → Shared → XK → Value → Shared → Prop

/-- the state at a call -/
structure Env0 (P : Program) (w : World) (K : PySem.W.Frag) (mg : Str → Option Value) (base : Heap) (A : Around) (outer : List Env) (s : Shared) (H : Hp) : Prop where
  frames : A.frames = some outer
  mod : Mod K mg base
  bs : ∀ b o, base.get? b = some o → s.heap.get? b = some o ∧ H b = none
  bsz : base.objs.size ≤ s.heap.objs.size
  funs : s.heap.FunFrames base outer
  frf : ∀ b ∈ frs outer, H b = none
  hok : HOk P w H s.heap
  bare : AllBare s.gens
/-- a call's end -/
def CE (outer : List Env) (P : Program) (w : World) (H : Hp) (s : Shared) (Q : VK) (u : Value) (s' : Shared) : Prop :=
  ∃ v H', s'.os = s.os ∧ AllBare s'.gens ∧ Un (frs outer) [] H H' s.heap s'.heap ∧ HOk P w H' s'.heap ∧ RelV v u ∧ Q v H'
def CR (CX : CXT) (outer : List Env) (P : Program) (w : World) (H : Hp) (s : Shared) (Q : VK) (E : XK) (r : Result) (s' : Shared) : Prop :=
  match r with
  | .ok (.ret u) => CE outer P w H s Q u s'
  | .ok _ => False
  | .error e => CX outer H s E e s'
structure FnOk (P : Program) (w : World) (K : PySem.W.Frag) (mg : Str → Option Value) (base : Heap) (CX : CXT) (k : Nat) (f : Addr) (fd : FuncData) (ps : List Str) (sp : Sp) : Prop where
  len : ∀ vs H Q E, sp vs H Q E → vs.length = ps.length
  run : ∀ (A : Around) (outer : List Env) (s : Shared) (H : Hp) (args : Args) (us : List Value) (vs : List V) (Q : VK) (E : XK), Room k A → Env0 P w K mg base A outer s H → BindsTo s fd args (ps.zip us) → Vals vs us → sp vs H Q E →
    codeAny (model P w) A (.call (.ref f) args) (CR CX outer P w H s Q E) s
theorem FnOk.mono {P : Program} {w : World} {K : PySem.W.Frag} {mg : Str → Option Value} {base : Heap} {CX : CXT} {j k : Nat} {f : Addr} {fd : FuncData} {ps : List Str} {sp : Sp} (F : FnOk P w K mg base CX j f fd ps sp) (h : j ≤ k) :
    FnOk P w K mg base CX k f fd ps sp := ⟨F.len, fun A outer s H args us vs Q E hr => F.run A outer s H args us vs Q E (hr.mono h)⟩
/-- a weaker promise -/
theorem FnOk.imp {P : Program} {w : World} {K : PySem.W.Frag} {mg : Str → Option Value} {base : Heap} {CX : CXT} {k : Nat} {f : Addr} {fd : FuncData} {ps : List Str} {sp sp' : Sp} (F : FnOk P w K mg base CX k f fd ps sp)
    (h : ∀ vs H Q E, sp' vs H Q E → sp vs H Q E) : FnOk P w K mg base CX k f fd ps sp' :=
  ⟨fun vs H Q E q => F.len vs H Q E (h _ _ _ _ q), fun A outer s H args us vs Q E hr he hb hv hs => F.run A outer s H args us vs Q E hr he hb hv (h _ _ _ _ hs)⟩

theorem Env0.make {P : Program} {w : World} {K : PySem.W.Frag} {mg : Str → Option Value} {base : Heap} {A : Around} {outer : List Env} {s : Shared} {H : Hp} (e : Env0 P w K mg base A outer s H) (C : Addr) (us : List Value) (kw : List (Str × Value)) :
    Env0 P w K mg base (A.under (.builtin "type.__call__" ⟨.ref C :: us, kw⟩)) outer s H := ⟨by first | exact e.frames | (simpa [Around.under, Code.envs, Code.isFrame, pushEnvs] using e.frames), e.mod, e.bs, e.bsz, e.funs, e.frf, e.hok, e.bare⟩
theorem Env0.in1 {P : Program} {w : World} {K : PySem.W.Frag} {mg : Str → Option Value} {base : Heap} {A : Around} {outer : List Env} {s : Shared} {H : Hp} (e : Env0 P w K mg base A outer s H) :
    Env0 P w K mg base A.in1 outer s H := ⟨e.frames, e.mod, e.bs, e.bsz, e.funs, e.frf, e.hok, e.bare⟩

section
variable {X : Cx} {pins : List (Addr × Obj)} {σ : St} {H : Hp} {s s' : Shared}
/-- from a body: what a callee wants -/
theorem Inv.env0 (I : Inv X pins σ H s) : Env0 X.prog X.w X.K X.mg X.base X.A X.stack s H :=
  ⟨I.ok.frames, I.ok.mod, I.bs, Nat.le_trans I.ok.bsz I.sz, I.stack, I.stkFree, I.hok, I.bare⟩
/-- behind a call -/
theorem Inv.after {Q : VK} {u : Value} (I : Inv X pins σ H s) (h : CE X.stack X.prog X.w H s Q u s') : EP X pins σ Q u s' := by
  obtain ⟨v, H', os, bare, un, hok, r, q⟩ := h
  obtain ⟨hh, g, d, t, os'⟩ := s'
  obtain rfl : os' = s.os := os
  exact ⟨v, H', I.call (h' := hh) (g' := g) (d' := d) (t' := t) (ch := []) un hok bare (fun b z => absurd z (by simp)), r, q⟩
end

/-- f(..): the written arguments, then the defaults dvs; E: what is wanted of an exception -/
def tCall (sp : Sp) (dvs : List V) (E : XK) (t : TA) : TE := fun σ H Q => t σ H fun vs H1 => sp (vs ++ dvs) H1 Q E
/-- o.m(..) of an instance of the class at C -/
def tMeth (C : Addr) (m : Str) (sp : Sp) (dvs : List V) (E : XK) (ta : TE) (t : TA) : TE := fun σ H Q => ta σ H fun x H1 => ∃ a dx fs, x = .ref a ∧ H1 a = some (.ins C dx fs) ∧ fs.lookup m = none ∧
  t σ H1 fun vs H2 => sp (x :: (vs ++ dvs)) H2 Q E
/-- C(..): a new instance and its dict, then __init__ -/
def tMake (C : Addr) (sp : Sp) (dvs : List V) (E : XK) (t : TA) : TE := fun σ H Q => t σ H fun vs H1 => ∀ x dx, H1 x = none → H1 dx = none → dx ≠ x →
  sp (.ref x :: (vs ++ dvs)) (upd (upd H1 dx (.own x)) x (.ins C dx [])) (fun v H2 => v = .non ∧ Q (.ref x) H2) E

/-- how the parameters are bound: us the positional arguments, kw the keywords' values by name, ds the defaults that fill up -/
def Binds (K : PySem.W.Frag) (fd : FuncData) (ps : List Str) (ds : List Value) : Prop :=
  ∀ (s : Shared) (us : List Value), K.In s.heap → (us ++ ds).length = ps.length → BindsTo s fd ⟨us, []⟩ (ps.zip (us ++ ds))
/-- every parameter is given -/
theorem Binds.all {K : PySem.W.Frag} {fd : FuncData} {ps : List Str} (h : ∀ us : List Value, us.length = ps.length → bindArgs fd ⟨us, []⟩ = pure (ps.zip us)) : Binds K fd ps [] := fun s us _ hl => by
  rw [List.append_nil] at hl ⊢
  exact .of_eq (h us hl)

/-- an exception of a callee reaches what this body wants of exceptions -/
def Passes (CX : CXT) (X : Cx) (E : XK) : Prop := ∀ (pins : List (Addr × Obj)) (σ : St) (H : Hp) (s : Shared) (e : Value) (s' : Shared), Inv X pins σ H s → CX X.stack H s E e s' → X.xe e s'

section
variable {X : Cx} {CX : CXT} {k : Nat} {f C : Addr} {fd : FuncData} {ps : List Str} {sp : Sp} {dvs : List V} {ds : List Value} {E : XK} {x m : Str} {p pos apos : Pos} {e o : Expr} {es : List Expr} {ta : TE} {t : TA}

/-- the callee runs -/
theorem run_fn {pins : List (Addr × Obj)} {σ : St} {H : Hp} {s : Shared} {Q : VK} {us : List Value} {vs : List V} (F : FnOk X.prog X.w X.K X.mg X.base CX k f fd ps sp) (hr : Room k X.A) (hb : Binds X.K fd ps ds) (hd : Vals dvs ds) (hx : Passes CX X E)
    (I : Inv X pins σ H s) (r : Vals vs us) (h : sp (vs ++ dvs) H Q E) : wpAny (model X.prog X.w) X.A (call (.ref f) us) (EP X pins σ Q) X.xe s := by
  have r2 : Vals (vs ++ dvs) (us ++ ds) := r.append hd
  have hl : (us ++ ds).length = ps.length := by rw [← r2.length]; exact F.len _ _ _ _ h
  refine wpAny_call (codeAny_mono (F.run X.A X.stack s H ⟨us, []⟩ (us ++ ds) (vs ++ dvs) Q E hr I.env0 (hb s us I.kIn hl) r2 h) fun r s' hq => ?_)
  cases r with
  | error e => exact hx pins σ H s e s' I hq
  | ok fl =>
    cases fl with
    | ret u => exact I.after hq
    | next => exact False.elim hq
    | brk => exact False.elim hq
    | cont => exact False.elim hq

theorem pe_call (F : FnOk X.prog X.w X.K X.mg X.base CX k f fd ps sp) (hr : Room k X.A) (hg : Gl X x) (hm : X.mg x = some (.ref f)) (hk : PySem.W.keepIn X.K (.ref f) = true) (hb : Binds X.K fd ps ds) (hd : Vals dvs ds) (hx : Passes CX X E)
    (ha : PA X (e :: es) t) (hdb : (x == ("__debug__" : Str)) = false := by decide) (he : starEach (e :: es) X.env = (false, eval e X.env) :: starEach es X.env := by rfl) (hpl : (backTo pos (starEach es X.env)).any (·.1) = false := by rfl) :
    PE X (.Call (.Name x p) (e :: es) [] pos) (tCall sp dvs E t) := by
  intro pins s σ H Q I h
  refine wpAny_Call_Name_kw (ld_glob I hg hm ?_ hdb)
  refine PySem.W.callWith_K (h₀ := X.base) I.ok.mod.kin hk (thn (ha pos pins s σ H _ I h) fun us s1 ⟨vs, H1, I1, r, q⟩ => ⟨I1.kIn, ?_⟩) he hpl
  exact run_fn F hr hb hd hx I1 r q
end

section
variable {X : Cx} {CX : CXT} {k : Nat} {f C : Addr} {fd : FuncData} {ps ks : List Str} {sp : Sp} {E : XK} {x m : Str} {p pos apos kpos : Pos} {e o : Expr} {es : List Expr} {kws : List Keyword} {te ta : TE} {t tk : TA} {nm : Option Str}
variable {g : List Value → List Value → List Value} {gV : List V → List V → List V}
end

/-- names: the parameters first -/
structure FnScope (N P : List Str) (sc : Scope) : Prop where
  kind : sc.kind = .function
  co : sc.isCoroutine = false
  gen : sc.isGenerator = false
  nd : N.Nodup
  pre : N.take P.length = P
  par : ∀ x ∈ P, sc.names.lookup x = some .local ∨ sc.names.lookup x = some .cell
  nofree : ∀ y ∈ sc.names, y.2 ≠ .free

theorem bindL_out {kindOf : Str → Option NameKind} {x : Str} : ∀ {binds : List (Str × Value)} {m : Str → Option Value}, (∀ v, (x, v) ∉ binds) → bindL kindOf binds m x = m x
  | [], _, _ => rfl
  | (n, v) :: r, m, h => by
    unfold bindL
    rw [bindL_out fun w hw => h w (List.mem_cons_of_mem _ hw)]
    split
    · have : x ≠ n := by rintro rfl; exact h v List.mem_cons_self
      simp [this]
    · rfl
theorem bindC_out {kindOf : Str → Option NameKind} {x : Str} : ∀ {binds : List (Str × Value)} {m : Str → Option Value}, (∀ v, (x, v) ∉ binds) → bindC kindOf binds m x = m x
  | [], _, _ => rfl
  | (n, v) :: r, m, h => by
    unfold bindC
    rw [bindC_out fun w hw => h w (List.mem_cons_of_mem _ hw)]
    split
    · rfl
    · have : x ≠ n := by rintro rfl; exact h v List.mem_cons_self
      simp [this]
theorem bindL_get {kindOf : Str → Option NameKind} {x : Str} {v : Value} : ∀ {P : List Str} {vs : List Value} {i : Nat} {m : Str → Option Value}, P.Nodup → P[i]? = some x → vs[i]? = some v → kindOf x = some .local →
    bindL kindOf (P.zip vs) m x = some v
  | [], _, _, _, _, h, _, _ => by simp at h
  | _ :: _, [], _, _, _, _, h, _ => by simp at h
  | p :: P, w :: vs, 0, m, nd, h1, h2, hk => by
    simp at h1 h2; subst h1; subst h2
    show bindL kindOf ((p, w) :: P.zip vs) m p = _
    unfold bindL
    rw [bindL_out fun v hv => (List.nodup_cons.mp nd).1 (List.of_mem_zip hv).1, if_pos hk]
    simp
  | p :: P, w :: vs, i + 1, m, nd, h1, h2, hk => by
    show bindL kindOf ((p, w) :: P.zip vs) m x = _
    unfold bindL
    exact bindL_get (i := i) (List.nodup_cons.mp nd).2 (by simpa using h1) (by simpa using h2) hk
theorem bindC_get {kindOf : Str → Option NameKind} {x : Str} {v : Value} : ∀ {P : List Str} {vs : List Value} {i : Nat} {m : Str → Option Value}, P.Nodup → P[i]? = some x → vs[i]? = some v → kindOf x ≠ some .local →
    bindC kindOf (P.zip vs) m x = some v
  | [], _, _, _, _, h, _, _ => by simp at h
  | _ :: _, [], _, _, _, _, h, _ => by simp at h
  | p :: P, w :: vs, 0, m, nd, h1, h2, hk => by
    simp at h1 h2; subst h1; subst h2
    show bindC kindOf ((p, w) :: P.zip vs) m p = _
    unfold bindC
    rw [bindC_out fun v hv => (List.nodup_cons.mp nd).1 (List.of_mem_zip hv).1, if_neg hk]
    simp
  | p :: P, w :: vs, i + 1, m, nd, h1, h2, hk => by
    show bindC kindOf ((p, w) :: P.zip vs) m x = _
    unfold bindC
    exact bindC_get (i := i) (List.nodup_cons.mp nd).2 (by simpa using h1) (by simpa using h2) hk

/-- the names' values at the entry -/
def start (N : List Str) (vs : List V) : St := vs.map some ++ List.replicate (N.length - vs.length) none

/-- the context of a def's body, at its entry; an exception leaves the frame, then lies as CX says -/
def cxOf (CX : CXT) (P : Program) (w : World) (K : PySem.W.Frag) (mg : Str → Option Value) (base : Heap) (N : List Str) (qual : Str) (scope : Scope) (f : Addr) (cd : Value) (A : Around) (outer : List Env) (s : Shared) (H : Hp) (E : XK) : Cx where
  prog := P
  w := w
  K := K
  mg := mg
  base := base
  A := A.deeper (envOfC qual scope s.heap.objs.size f cd)
  N := N
  s₀ := s
  H₀ := H
  env := envOfC qual scope s.heap.objs.size f cd
  outer := outer
  stack := envOfC qual scope s.heap.objs.size f cd :: outer
  ex := []
  calm := true
  fn := fun _ => true
  pn := []
  xe := fun e s' => wpAny (model P w) (A.deeper (envOfC qual scope s.heap.objs.size f cd)) (leaving (envOfC qual scope s.heap.objs.size f cd) e) (fun _ s'' => CX outer H s E e s'') (fun e' s'' => CX outer H s E e' s'') s'

theorem cell_has {sc : Scope} {n : Nat} {x : Str} (h : sc.names.lookup x = some .cell) : ∃ c, (cellsFrom n sc.names []).lookup x = some c := by
  have q := PySem.W.cellsFrom_some sc.names n [] (.inl h)
  exact Option.isSome_iff_exists.mp q

theorem inv_start {CX : CXT} {P : Program} {w : World} {K : PySem.W.Frag} {mg : Str → Option Value} {base : Heap} {N ps : List Str} {qual : Str} {scope : Scope} {f : Addr} {cd : Value} {A : Around} {outer : List Env} {s s1 : Shared} {H : Hp} {E : XK} {us : List Value} {vs : List V}
    (S : FnScope N ps scope) (hd : A.handled = none) (e0 : Env0 P w K mg base A outer s H) (hl : vs.length = ps.length) (r : Vals vs us)
    (x : InCallC s s.heap.objs.size (bindL (envOfC qual scope s.heap.objs.size f cd).kindOf (ps.zip us) fun _ => none) (cellsFrom (s.heap.objs.size + 1) scope.names []) (bindC (envOfC qual scope s.heap.objs.size f cd).kindOf (ps.zip us) fun _ => none) s1) :
    Inv (cxOf CX P w K mg base N qual scope f cd A outer s H E) [] (start N vs) H s1 := by
  have hpl : ps.length ≤ N.length := by have := congrArg List.length S.pre; rw [List.length_take] at this; omega
  obtain ⟨h1, tk, rfl, hk⟩ := x.done
  have noA : ∀ b : Addr, b ∉ (cxOf CX P w K mg base N qual scope f cd A outer s H E).ex := fun b z => absurd (show b ∈ ([] : List Addr) from z) (by simp)
  refine ⟨⟨e0.mod, S.kind, rfl, rfl, Nat.le_refl _, fun y z c h1 h2 => ?_, fun y hy => ?_, fun y c _ h => ?_, fun _ => hd, Around.frames_deeper e0.frames, .inr ⟨rfl, rfl⟩, fun b z => absurd z (noA b), e0.bs, e0.bsz, fun b _ _ => noA b, fun b z => absurd z (noA b), e0.funs, e0.frf⟩,
    rfl, e0.bare, Un.kept hk, ⟨_, x.toInCall.ns, fun i y v h1 h2 h3 => ?_⟩, fun y c h => ⟨_, x.cell y c h⟩, e0.hok.fresh (Nat.le_refl _), fun y c h => ?_, fun p hp => absurd (show p ∈ ([] : List (Addr × Obj)) from hp) (by simp), e0.hok.kept hk, ?_⟩
  · exact name_of_addr x.apart (PySem.mem_of_lookup h1) (PySem.mem_of_lookup h2)
  · have hy : scope.names.lookup y = some .cell ∨ scope.names.lookup y = some .free := hy
    rcases hy with hy | hy
    · exact cell_has hy
    · exact absurd rfl (S.nofree _ (PySem.mem_of_lookup hy))
  · exact Nat.le_of_lt (x.above y c (PySem.mem_of_lookup h))
  · have hi : i < vs.length := by
      unfold start at h2
      by_cases hi : i < vs.length
      · exact hi
      · rw [List.getElem?_append_right (by simpa using hi)] at h2
        rw [List.getElem?_replicate] at h2
        split at h2 <;> cases h2
    have ha : vs[i]? = some v := by
      unfold start at h2
      rw [List.getElem?_append_left (by simpa using hi), List.getElem?_map] at h2
      cases e : vs[i]? with
      | none => rw [e] at h2; cases h2
      | some a => rw [e] at h2; cases h2; rfl
    obtain ⟨u, hu, rv⟩ := r.get ha
    have hp : ps[i]? = some y := by
      rw [← S.pre, List.getElem?_take_of_lt (by omega)]; exact h1
    have ndP : ps.Nodup := by rw [← S.pre]; exact S.nd.sublist (List.take_sublist _ _)
    refine ⟨u, rv, ?_⟩
    rcases S.par y (List.mem_of_getElem? hp) with k | k
    · exact .inl ⟨k, bindL_get ndP hp hu k⟩
    · obtain ⟨c, e⟩ := cell_has (n := s.heap.objs.size + 1) k
      refine .inr ⟨.inl k, c, e, ?_⟩
      have q := x.cell y c e
      rw [bindC_get ndP hp hu (by show scope.names.lookup y ≠ _; rw [k]; decide)] at q
      exact q
  · exact e0.hok.fresh (Nat.le_of_lt (x.above y c (PySem.mem_of_lookup h)))
  · unfold start
    show _ = N.length
    rw [List.length_append, List.length_map, List.length_replicate]
    omega

/-- THE RULE: a def (or a method) of the text, by its body. The body's reading t is chosen for each entry; it is run at the parameters' values -/
theorem fn_of {CX : CXT} {P : Program} {w : World} {K : PySem.W.Frag} {mg : Str → Option Value} {base : Heap} {k : Nat} {f : Addr} {name qual : Str} {params : Arguments} {body : List Stmt} {scope : Scope} {dV kV doc pm cdv ct oc : Value} {an od : Option Addr}
    {osl : Array (Option Value)} {N ps : List Str} {sp : Sp} (lk : K.lookup f = some ⟨oc, od, .func (PySem.W.fnOf name qual params body scope dV kV doc pm an cdv ct), osl⟩) (hcd : PySem.W.codeIn K cdv qual = true) (S : FnScope N ps scope)
    (len : ∀ vs H Q E, sp vs H Q E → vs.length = ps.length)
    (hbody : ∀ (A : Around) (outer : List Env) (s : Shared) (H : Hp) (vs : List V) (Q : VK) (E : XK), Room k (A.deeper (envOfC qual scope s.heap.objs.size f cdv)) → sp vs H Q E →
      ∃ t, PSs (cxOf CX P w K mg base N qual scope f cdv A outer s H E) body t ∧ t { nx := fun _ H' => Q .non H', rt := Q } (start N vs) H) :
    FnOk P w K mg base CX (k + 1) f (PySem.W.fnOf name qual params body scope dV kV doc pm an cdv ct) ps sp := by
  refine ⟨len, fun A outer s H args us vs Q E hr e0 hb r hsp => ?_⟩
  have hl := len _ _ _ _ hsp
  have KX : K.In s.heap := e0.mod.kin.keeps fun b o e => (e0.bs b o e).1
  have lim : s.heap.NoLimit := e0.mod.nolimit.keeps fun b o e => (e0.bs b o e).1
  have hkind : ∀ y ∈ ps.zip us, scope.names.lookup y.1 = some .local ∨ (scope.names.lookup y.1 = some .cell ∧ ((cellsFrom (s.heap.objs.size + 1) scope.names []).lookup y.1).isSome = true) := fun ⟨n, v⟩ hy => by
    rcases S.par n (List.of_mem_zip hy).1 with q | q
    · exact .inl q
    · exact .inr ⟨q, PySem.W.cellsFrom_some _ _ _ (.inl q)⟩
  refine codeAny_call_function hr.depth (KX _ _ lk) rfl S.co S.gen rfl (PySem.W.codeRec_of KX hcd) (hb _ _ _ _ ?_)
  refine wpAny_newFunctionEnv_cells S.kind hkind fun env he s1 x => ?_
  subst he
  refine ⟨lim.keeps x.toInCall.keep, codeAny_func ?_⟩
  obtain ⟨t, ht, hq⟩ := hbody A outer s H vs Q E (hr.deeper _) hsp
  have I : Inv (cxOf CX P w K mg base N qual scope f cdv A outer s H E) [] (start N vs) H s1 := inv_start S hr.hd e0 hl r x
  refine wpAny_mono (ht [] s1 (start N vs) H _ I hq) (fun fl s' hs => ?_) fun e s' hs => hs
  have fin : ∀ {σ' : St} {H' : Hp} {v : V} {u : Value}, Inv (cxOf CX P w K mg base N qual scope f cdv A outer s H E) [] σ' H' s' → RelV v u → Q v H' → CE outer P w H s Q u s' :=
    fun {σ' H' v u} J rv q => ⟨v, H', J.os, J.bare, J.base, J.hok, rv, q⟩
  cases fl with
  | ret u =>
    obtain ⟨v, σ', H', J, rv, q⟩ := hs
    exact fin J rv q
  | next =>
    obtain ⟨σ', H', J, q⟩ := hs
    exact fin (v := V.non) (u := Value.none) J rfl q
  | brk =>
    obtain ⟨_, _, _, q⟩ := hs
    exact False.elim q
  | cont =>
    obtain ⟨_, _, _, q⟩ := hs
    exact False.elim q
end L2

namespace L2
open PySem PySem.Spec PyProof.Rows
section
variable {X : Cx} {x : Str} {p pos : Pos} {e : Expr} {es : List Expr} {t : TA} {id T : String} {r : List V → Hp → VK → Prop}

def tCB (r : List V → Hp → VK → Prop) (t : TA) : TE := fun σ H Q => t σ H fun vs H1 => r vs H1 Q
/-- f(e, ..), f a built-in function -/
theorem pe_callB (hc : CallR X (.builtin id) r) (hg : Gl X x) (hm : X.mg x = none) (hv : bootBuiltins x = some (.builtin id)) (ha : PA X (e :: es) t) (hn : x ≠ "__name__" := by decide) (hdb : (x == ("__debug__" : Str)) = false := by decide)
    (he : starEach (e :: es) X.env = (false, eval e X.env) :: starEach es X.env := by rfl) (hpl : (backTo pos (starEach es X.env)).any (·.1) = false := by rfl) : PE X (.Call (.Name x p) (e :: es) [] pos) (tCB r t) := by
  intro pins s σ H Q I h
  refine wpAny_Call_Name_kw (ld_blt I hg hm hv ?_ hn hdb)
  exact PyProof.Rows.callWith_builtin1 (thn (ha pos pins s σ H _ I h) fun us s1 ⟨vs, H1, I1, r1, q1⟩ => hc pins s1 σ H1 vs us Q I1 r1 q1) he hpl
/-- T(e, ..), T a built-in type -/
theorem pe_callTy (hc : CallR X (.type T) r) (hg : Gl X x) (hm : X.mg x = none) (hv : bootBuiltins x = some (.type T)) (ha : PA X (e :: es) t) (hn : x ≠ "__name__" := by decide) (hdb : (x == ("__debug__" : Str)) = false := by decide)
    (he : starEach (e :: es) X.env = (false, eval e X.env) :: starEach es X.env := by rfl) (hpl : (backTo pos (starEach es X.env)).any (·.1) = false := by rfl) : PE X (.Call (.Name x p) (e :: es) [] pos) (tCB r t) := by
  intro pins s σ H Q I h
  refine wpAny_Call_Name_kw (ld_blt I hg hm hv ?_ hn hdb)
  exact PyProof.Rows.callWith_type1 (thn (ha pos pins s σ H _ I h) fun us s1 ⟨vs, H1, I1, r1, q1⟩ => hc pins s1 σ H1 vs us Q I1 r1 q1) he hpl
end
end L2

namespace HT
open PySem PyProof.Rows

section
open PySem.SeqAt
open PySem.AutoSeq1 (wpAny_loadPart')
open PySem.MeetsSeq PySem.MeetsSeq2 PySem.MeetsSeq3

end

section
variable {prog : Program} {w : World} {A : Around} {E : Value → Shared → Prop} {s : Shared}

/-- t + u, t not empty -/
theorem cat_tup {t b : Addr} {vs ws : List Value} {Q : Value → Shared → Prop} (ht : IsTup s.heap t vs.toArray) (hb : IsTup s.heap b ws.toArray) (hv : vs ≠ [])
    (h1 : ws = [] → Q (.ref t) s) (h2 : ws ≠ [] → Q (.ref s.heap.objs.size) { s with heap := s.heap.push { cls := .type "tuple", data := .seq (vs ++ ws).toArray } })
    (hsz : vs.length + ws.length ≤ sizeLine) : wpAny (model prog w) A (binaryOp .Add (.ref t) (.ref b)) Q E s := by
  obtain ⟨⟨cls, dd, data, sl⟩, ho, hc, n, hd⟩ := id ht
  obtain ⟨⟨cls2, dd2, data2, sl2⟩, ho2, hc2, n2, hd2⟩ := id hb
  simp only at hc hd hc2 hd2
  subst hc hd hc2 hd2
  have e : vs.toArray ++ ws.toArray = (vs ++ ws).toArray := by simp
  by_cases hw : ws = []
  · exact concat_meets ⟨_, ho, rfl⟩ ⟨_, ho2, rfl⟩ noFill_tuple_add seq_tuple_add PySem.F.slot_tuple_add PySem.F.entry_tuple_add (PySem.F.args_tuple_add_2 _ _)
      (tuple_addW1 t b vs.toArray ws.toArray n n2 dd dd2 sl sl2 (by simpa using hv) (by simp [hw])) ⟨ho, ho2, h1 hw⟩
  · refine concat_meets ⟨_, ho, rfl⟩ ⟨_, ho2, rfl⟩ noFill_tuple_add seq_tuple_add PySem.F.slot_tuple_add PySem.F.entry_tuple_add (PySem.F.args_tuple_add_2 _ _)
      (tuple_addW2 t b vs.toArray ws.toArray n n2 dd dd2 sl sl2 (by simpa using hv) (by simpa using hw) (by rw [List.size_toArray, List.size_toArray]; exact hsz)) ⟨ho, ho2, ?_⟩
    rw [e]
    exact h2 hw

/-- a slice's bound as a place among n (d where it is left out) -/
def sIx (n d : Nat) : Option Int → Nat
  | none => d
  | some v => if v < 0 then (v + (n : Int)).toNat else min v.toNat n
theorem sIx_nat (n d k : Nat) : sIx n d (some (k : Int)) = min k n := by
  show (if (k : Int) < 0 then ((k : Int) + (n : Int)).toNat else min (k : Int).toNat n) = min k n
  rw [if_neg (by omega), Int.toNat_natCast]
theorem sIx_le (n d : Nat) (hd : d ≤ n) (o : Option Int) : sIx n d o ≤ n := by
  cases o with
  | none => exact hd
  | some v =>
    show (if v < 0 then (v + (n : Int)).toNat else min v.toNat n) ≤ n
    by_cases hv : v < 0
    · rw [if_pos hv]; omega
    · rw [if_neg hv]; exact Nat.min_le_right _ _
theorem clip_eq (v : Int) (n d : Nat) : (if v < 0 then max (v + (n : Int)) 0 else min v (n : Int)) = ((sIx n d (some v) : Nat) : Int) := by
  show (if v < 0 then max (v + (n : Int)) 0 else min v (n : Int)) = (((if v < 0 then (v + (n : Int)).toNat else min v.toNat n) : Nat) : Int)
  by_cases hv : v < 0
  · simp only [if_pos hv]; omega
  · simp only [if_neg hv]; omega
theorem adjust_gen (lo hi : Option Int) (n : Nat) : Builtin.Slice.sliceAdjust lo hi 1 (n : Int) = (((sIx n 0 lo : Nat) : Int), ((sIx n n hi : Nat) : Int)) := by
  have h1 : ¬ ((1 : Int) < 0) := by omega
  unfold Builtin.Slice.sliceAdjust
  simp only [h1, if_false]
  refine Prod.ext ?_ ?_
  · cases lo with
    | none => rfl
    | some v => exact clip_eq v n 0
  · cases hi with
    | none => rfl
    | some v => exact clip_eq v n n
theorem places_gen (i j : Nat) : Builtin.Slice.slicePlaces (i : Int) (j : Int) 1 = j - i := by
  unfold Builtin.Slice.slicePlaces
  have h1 : (1 : Int) > 0 := by omega
  simp only [h1, if_true, Int.ediv_one]
  split <;> omega
theorem slicePart_ {v : Value} {o : Option Int} {Q : Option Int → Shared → Prop} (p : IsPart v o) (h : Q o s) : wpAny (model prog w) A (Builtin.Slice.slicePartIndex v) Q E s := by
  cases p with
  | none => exact slicePart_none h
  | int i t => exact slicePart_int h
theorem sliceApplied_gen {sl : Addr} {vl vu : Value} {lo hi : Option Int} {n : Nat} {Q : Int × Int × Nat → Shared → Prop} (hs : s.heap.IsSliceOf sl vl vu .none) (pl : IsPart vl lo) (pu : IsPart vu hi)
    (h : Q (((sIx n 0 lo : Nat) : Int), 1, sIx n n hi - sIx n 0 lo) s) : wpAny (model prog w) A (Builtin.Slice.sliceApplied (.ref sl) (pure (n : Int))) Q E s := by
  obtain ⟨os, hos, hcs, hds⟩ := id hs
  unfold Builtin.Slice.sliceApplied Builtin.Slice.sliceFields
  refine wpAny_bind (wpAny_bind (wpAny_field hos hds (x := vl) rfl (wpAny_bind (wpAny_field hos hds (x := vu) rfl (wpAny_bind (wpAny_field hos hds (x := .none) rfl (wpAny_pure ?_)))))))
  refine wpAny_bind (slicePart_none ?_)
  show wpAny _ _ (if ((1 : Int) == 0) = true then _ else _) _ _ s
  rw [if_neg (by decide)]
  refine wpAny_bind (slicePart_ pl (wpAny_bind (slicePart_ pu (wpAny_bind (wpAny_pure ?_)))))
  show wpAny _ _ (match Builtin.Slice.sliceAdjust lo hi 1 (n : Int) with | (lo, hi) => pure (lo, (1 : Int), Builtin.Slice.slicePlaces lo hi 1)) _ _ s
  rw [adjust_gen lo hi n]
  show wpAny _ _ (pure (((sIx n 0 lo : Nat) : Int), (1 : Int), Builtin.Slice.slicePlaces ((sIx n 0 lo : Nat) : Int) ((sIx n n hi : Nat) : Int) 1)) _ _ s
  rw [places_gen]
  exact wpAny_pure h
theorem pick_gen (xs : Array Value) (i k : Nat) : ((List.range k).filterMap fun (m : Nat) => xs[((i : Int) + (m : Int) * 1).toNat]?).toArray = ((xs.toList.drop i).take k).toArray := by
  have e : (fun (m : Nat) => xs[((i : Int) + (m : Int) * 1).toNat]?) = fun m => xs[i + m]? := by
    funext m
    have : ((i : Int) + (m : Int) * 1).toNat = i + m := by omega
    rw [this]
  rw [e]
  have := pick_run xs i k
  rw [List.filterMap_map] at this
  have e2 : ((fun x => xs[x]?) ∘ fun x => i + x) = fun m => xs[i + m]? := rfl
  rw [e2] at this
  rw [this]

theorem getItem_tuple_cut {t sl : Addr} {items : Array Value} {vl vu : Value} {lo hi : Option Int} {Q : Value → Shared → Prop} (ht : IsTup s.heap t items) (hs : s.heap.IsSliceOf sl vl vu .none) (pl : IsPart vl lo) (pu : IsPart vu hi)
    (hw : ¬ (sIx items.size 0 lo = 0 ∧ sIx items.size items.size hi = items.size))
    (h : Q (.ref s.heap.objs.size) { s with heap := s.heap.push { cls := .type "tuple", data := .seq ((items.toList.drop (sIx items.size 0 lo)).take (sIx items.size items.size hi - sIx items.size 0 lo)).toArray } })
    (hsz : items.size ≤ sizeLine) : wpAny (model prog w) A (getItem (.ref t) (.ref sl)) Q E s := by
  have htake : sizeOk (.seq ((items.toList.drop (sIx items.size 0 lo)).take (sIx items.size items.size hi - sIx items.size 0 lo)).toArray) := by
    show ((items.toList.drop (sIx items.size 0 lo)).take (sIx items.size items.size hi - sIx items.size 0 lo)).toArray.size ≤ sizeLine
    rw [List.size_toArray, List.length_take, List.length_drop, Array.length_toList]
    omega
  have hj : sIx items.size items.size hi ≤ items.size := sIx_le _ _ (Nat.le_refl _) hi
  obtain ⟨os, hos, hcs, hds⟩ := id hs
  have hTs : s.TypeIs (.ref sl) "slice" := ⟨os, hos, hcs⟩
  unfold getItem
  try with_reducible refine wpAny_holding ?_
  first | refine wpAny_bind (wpAny_pure ?_) | skip
  refine wpAny_bind (wpAny_sequenceKey ht.typeIs (by decide) ?_)
  refine wpAny_bind (wpAny_callSpecial?_slot (name := Str.ofString "__getitem__") ht.typeIs PyProof.Rows.slot_tuple_getitem
    (wpAny_call_entry PyProof.Rows.slot_tuple_getitem ht.typeIs entry_tuple_getitem ?_ (args_tuple_getitem _ _)))
  show wpAny _ _ (Builtin.Tuple.tupleItemsOf (.ref t) >>= _) _ _ s
  refine wpAny_bind (tupleItemsOf_ ht ?_)
  refine wpAny_bind (wpAny_typeOf hTs ?_)
  rw [if_pos (by decide)]
  refine wpAny_bind (sliceApplied_gen hs pl pu ?_)
  have hno : ¬ ((((sIx items.size 0 lo : Nat) : Int) == 0 && (1 : Int) == 1 && (sIx items.size items.size hi - sIx items.size 0 lo) == items.size) = true) := by
    intro q
    rw [Bool.and_eq_true, Bool.and_eq_true] at q
    have q1 : ((sIx items.size 0 lo : Nat) : Int) = 0 := eq_of_beq q.1.1
    have q2 : sIx items.size items.size hi - sIx items.size 0 lo = items.size := eq_of_beq q.2
    exact hw ⟨by omega, by omega⟩
  show wpAny _ _ (if (((sIx items.size 0 lo : Nat) : Int) == 0 && (1 : Int) == 1 && (sIx items.size items.size hi - sIx items.size 0 lo) == items.size) = true then _ else _) _ _ s
  rw [if_neg hno, pick_gen]
  first
    | exact wpAny_bind (m := Builtin.Tuple.tupleExact _) (wpAny_newObj_type (wpAny_pure ⟨_, rfl, wpAny_pure h⟩) htake)
    | exact wpAny_bind (m := Builtin.Tuple.tupleExact _) (wpAny_newObj_type (wpAny_bind (wpAny_pure (wpAny_pure ⟨_, rfl, wpAny_pure h⟩))) htake)
    | exact wpAny_bind (wpAny_bind (m := Builtin.Tuple.tupleExact _) (wpAny_newObj_type (wpAny_pure (wpAny_pure ⟨_, rfl, wpAny_pure h⟩)) htake))
    | exact wpAny_bind (wpAny_bind (m := Builtin.Tuple.tupleExact _) (wpAny_newObj_type (wpAny_pure ⟨_, rfl, wpAny_pure h⟩) htake))
end
end HT

namespace L2
open PySem PySem.Spec PyProof.Rows

abbrev TO := St → Hp → (Option Int → Hp → Prop) → Prop
/-- a slice's part (left out, or an int) -/
def PO (X : Cx) (e : Option Expr) (t : TO) : Prop :=
  ∀ (pins : List (Addr × Obj)) (s : Shared) (σ : St) (H : Hp) (Q : Option Int → Hp → Prop), Inv X pins σ H s → t σ H Q →
    wpAny (model X.prog X.w) X.A (evalPart e X.env) (fun u s' => ∃ o H', Inv X pins σ H' s' ∧ IsPart u o ∧ Q o H') X.xe s
def tNoPart : TO := fun _ H Q => Q none H
def tPart (t : TE) : TO := fun σ H Q => t σ H fun x H1 => ∃ i, x = .int i ∧ Q (some i) H1

theorem intsAre_of {ns : List Int} : ∀ {us : List Value}, Vals (ns.map V.int) us → IntsAre us ns := by
  induction ns with
  | nil => intro us r; rw [List.map_nil] at r; cases r; exact .nil
  | cons n ns ih =>
    intro us r
    rw [List.map_cons] at r
    cases r with
    | cons r1 r2 =>
      obtain ⟨t, e⟩ := r1
      subst e
      exact .cons n t (ih r2)

section
variable {X : Cx} {e : Expr} {te : TE} {lo hi : Option Expr} {tl th : TO} {pos p2 : Pos}

theorem po_none : PO X none tNoPart := by
  intro pins s σ H Q I h
  rw [evalPart_none]
  exact wpAny_pure ⟨none, H, I, .none, h⟩
theorem po_some (h : PE X e te) : PO X (some e) (tPart te) := by
  intro pins s σ H Q I hw
  rw [evalPart_some]
  refine thn (h pins s σ H _ I hw) fun u s1 ⟨x, H1, I1, r1, q1⟩ => ?_
  obtain ⟨i, rfl, q⟩ := q1
  obtain ⟨t, rfl⟩ := r1
  exact ⟨some i, H1, I1, .int i t, q⟩

/-- what a slice of a value is, by values: the slice object stands at sl -/
def SlR (X : Cx) (r : V → Option Int → Option Int → Hp → VK → Prop) : Prop :=
  ∀ (pins : List (Addr × Obj)) (s : Shared) (σ : St) (H : Hp) (x : V) (v vl vu : Value) (lo hi : Option Int) (sl : Addr) (Q : VK), Inv X pins σ H s → RelV x v → s.heap.IsSliceOf sl vl vu .none → IsPart vl lo → IsPart vu hi → r x lo hi H Q →
    ∃ T id, typeLookup (.type T) "__getitem__" = pure (some (.builtin id)) ∧ s.TypeIs v T ∧ wpAny (model X.prog X.w) X.A (getItem v (.ref sl)) (EP X pins σ Q) X.xe s
theorem SlR.or {r r' : V → Option Int → Option Int → Hp → VK → Prop} (h : SlR X r) (h' : SlR X r') : SlR X (fun x lo hi H Q => r x lo hi H Q ∨ r' x lo hi H Q) := by
  intro pins s σ H x v vl vu lo hi sl Q I rx hs pl pu q
  rcases q with q | q
  · exact h pins s σ H x v vl vu lo hi sl Q I rx hs pl pu q
  · exact h' pins s σ H x v vl vu lo hi sl Q I rx hs pl pu q
def tSl (r : V → Option Int → Option Int → Hp → VK → Prop) (te : TE) (tl th : TO) : TE := fun σ H Q => te σ H fun x H1 => tl σ H1 fun l H2 => th σ H2 fun u H3 => r x l u H3 Q
/-- a[lo:hi], any a -/
theorem pe_slice {r : V → Option Int → Option Int → Hp → VK → Prop} (hr : SlR X r) (he : PE X e te) (hl : PO X lo tl) (hu : PO X hi th) : PE X (.Subscript e (.Slice lo hi none p2) pos) (tSl r te tl th) := by
  intro pins s σ H Q I h
  refine Subscript_ (thn (he pins s σ H _ I h) fun v s1 ⟨x, H1, I1, r1, q1⟩ => ?_)
  refine wpAny_Slice (thn (hl pins s1 σ H1 _ I1 q1) fun vl s2 ⟨l, H2, I2, pl, q2⟩ => thn (hu pins s2 σ H2 _ I2 q2) fun vu s3 ⟨u, H3, I3, pu, q3⟩ => ?_)
  rw [evalPart_none]
  refine wpAny_pure ?_
  have I4 : Inv X pins σ H3 { s3 with heap := s3.heap.push { cls := .type "slice", data := .fields #[vl, vu, .none] } } := I3.kept (t' := s3.toks) fun b ob q => Heap.get?_push_of_some _ q
  obtain ⟨T, id, hT, ht, hg⟩ := hr pins { s3 with heap := s3.heap.push { cls := .type "slice", data := .fields #[vl, vu, .none] } } σ H3 x v vl vu l u s3.heap.objs.size Q I4 r1 (Heap.IsSliceOf.new ..) pl pu q3
  show wpAny (model X.prog X.w) X.A (subscriptTail e (.Slice lo hi none p2) v (.ref s3.heap.objs.size)) (EP X pins σ Q) X.xe { s3 with heap := s3.heap.push { cls := .type "slice", data := .fields #[vl, vu, .none] } }
  exact tail_any (ops := [.ref s3.heap.objs.size, v]) ht hT hg (by with_unfolding_all rfl)

/-- the items of xs[lo:hi] -/
def cutV (xs : List V) (lo hi : Option Int) : List V := (xs.drop (HT.sIx xs.length 0 lo)).take (HT.sIx xs.length xs.length hi - HT.sIx xs.length 0 lo)
theorem cutV_length (xs : List V) (lo hi : Option Int) : (cutV xs lo hi).length ≤ xs.length := by
  unfold cutV
  rw [List.length_take, List.length_drop]
  omega
/-- t[lo:hi], not the whole of it (the whole would be t itself) -/
def rSlT (K : PySem.W.Frag) : V → Option Int → Option Int → Hp → VK → Prop := fun x lo hi H Q => ∃ a xs, x = .ref a ∧ SqT K H a xs ∧
  ¬ (HT.sIx xs.length 0 lo = 0 ∧ HT.sIx xs.length xs.length hi = xs.length) ∧ ∀ p, H p = none → Q (.ref p) (upd H p (.tup (cutV xs lo hi)))
theorem sl_tup : SlR X (rSlT X.K) := by
  intro pins s σ H x v vl vu lo hi sl Q I rx hs pl pu h
  obtain ⟨a, xs, rfl, hx, hw, q⟩ := h
  cases rx
  obtain ⟨its, r, ht, hz⟩ := I.tuple hx
  have hlen : its.toArray.size = xs.length := by rw [List.size_toArray]; exact r.length.symm
  refine ⟨"tuple", _, PyProof.Rows.slot_tuple_getitem.lookup, ht.typeIs, ?_⟩
  refine HT.getItem_tuple_cut ht hs pl pu (by rw [hlen]; exact hw) ?_ (by rw [hlen]; exact hz)
  rw [hlen]
  refine ⟨.ref s.heap.objs.size, _, I.laid (t' := s.toks) (o := .tup (cutV xs lo hi)) (fun b ob q => Heap.get?_push_of_some _ q) (Nat.le_refl _) ?_, rfl, q _ (I.hok.fresh (Nat.le_refl _))⟩
  exact ⟨Nat.le_trans (cutV_length xs lo hi) hz, _, (r.drop (HT.sIx xs.length 0 lo)).take (HT.sIx xs.length xs.length hi - HT.sIx xs.length 0 lo), IsTup.new _ _⟩

/-- t + u, t not empty: u empty gives t itself -/
def rCatT (K : PySem.W.Frag) : R2 := fun x y H Q => ∃ a b xs ys, x = .ref a ∧ y = .ref b ∧ SqT K H a xs ∧ SqT K H b ys ∧ xs ≠ [] ∧ xs.length + ys.length ≤ sizeLine ∧
  (ys = [] → Q (.ref a) H) ∧ (ys ≠ [] → ∀ p, H p = none → Q (.ref p) (upd H p (.tup (xs ++ ys))))
theorem Vals.nil_iff {xs : List V} {us : List Value} (r : Vals xs us) : us = [] ↔ xs = [] := by
  cases r with
  | nil => simp
  | cons _ _ => simp
theorem op_catT : OpR X (binaryOp .Add) (rCatT X.K) := by
  intro pins s σ H x y v u Q I rx ry h
  obtain ⟨a, b, xs, ys, rfl, rfl, ha, hb, hx, hz, q1, q2⟩ := h
  cases rx
  cases ry
  obtain ⟨its, r1, p1, _⟩ := I.tuple ha
  obtain ⟨its2, r2, p2, _⟩ := I.tuple hb
  refine HT.cat_tup p1 p2 (fun z => hx (r1.nil_iff.mp z)) (fun z => ⟨.ref a, H, I, rfl, q1 (r2.nil_iff.mp z)⟩) (fun z => ?_) (by rw [← r1.length, ← r2.length]; exact hz)
  refine ⟨.ref s.heap.objs.size, _, I.laid (t' := s.toks) (o := .tup (xs ++ ys)) (fun b ob q => Heap.get?_push_of_some _ q) (Nat.le_refl _) ?_, rfl, q2 (fun w => z (r2.nil_iff.mpr w)) _ (I.hok.fresh (Nat.le_refl _))⟩
  exact ⟨by rw [List.length_append]; exact hz, _, r1.append r2, IsTup.new _ _⟩
end
end L2

namespace L2
open PySem PySem.Spec PyProof.Rows

/-- the place that an index of any sign means -/
def ixN (n : Nat) (i : Int) : Option Nat := if 0 ≤ i then (if i < n then some i.toNat else none) else if -(n : Int) ≤ i then some (i + n).toNat else none
def atI {α : Type} (xs : List α) (i : Int) : Option α := (ixN xs.length i).bind fun j => xs[j]?
theorem ixN_seq {n : Nat} {i : Int} {j : Nat} (h : ixN n i = some j) : seqIndex? i n = some j ∧ j < n ∧ -(n : Int) ≤ i ∧ i < n := by
  unfold ixN at h
  by_cases h0 : 0 ≤ i
  · rw [if_pos h0] at h
    by_cases h1 : i < n
    · rw [if_pos h1] at h
      have e : i.toNat = j := Option.some.inj h
      exact ⟨by rw [seqIndex_of h0 h1, e], by omega, by omega, h1⟩
    · rw [if_neg h1] at h; cases h
  · rw [if_neg h0] at h
    by_cases h1 : -(n : Int) ≤ i
    · rw [if_pos h1] at h
      have e : (i + n).toNat = j := Option.some.inj h
      exact ⟨by rw [seqIndex_neg (by omega) h1, e], by omega, h1, by omega⟩
    · rw [if_neg h1] at h; cases h
theorem atI_get {α : Type} {xs : List α} {i : Int} {v : α} (h : atI xs i = some v) : ∃ j, seqIndex? i xs.length = some j ∧ xs[j]? = some v ∧ j < xs.length ∧ -(xs.length : Int) ≤ i ∧ i < xs.length := by
  unfold atI at h
  cases e : ixN xs.length i with
  | none => rw [e] at h; cases h
  | some j =>
    rw [e] at h
    obtain ⟨h1, h2, h3, h4⟩ := ixN_seq e
    exact ⟨j, h1, h, h2, h3, h4⟩
theorem atI_nat {α : Type} {xs : List α} {j : Nat} {v : α} (h : xs[j]? = some v) : atI xs (j : Int) = some v := by
  have hj : j < xs.length := (List.getElem?_eq_some_iff.mp h).1
  have e : ixN xs.length (j : Int) = some j := by
    unfold ixN
    rw [if_pos (by omega), if_pos (by omega)]; simp
  unfold atI; rw [e]; exact h
theorem atI_last {α : Type} (xs : List α) (v : α) : atI (xs ++ [v]) (-1) = some v := by
  have hl : (xs ++ [v]).length = xs.length + 1 := by simp
  have e : ixN (xs ++ [v]).length (-1) = some xs.length := by
    unfold ixN
    rw [hl, if_neg (by decide), if_pos (by omega)]
    congr 1
    omega
  unfold atI
  rw [e]
  show (xs ++ [v])[xs.length]? = some v
  simp

/-- what stands as an index of a plain subscript -/
def PlainIx (b : Expr) : Prop := ∀ o i, subscripted b false o i = operate [o, i] (getItem o i)
/-- a subscript by values -/
def IxR (X : Cx) (r : R2) : Prop :=
  ∀ (value slice : Expr) (pins : List (Addr × Obj)) (s : Shared) (σ : St) (H : Hp) (x y : V) (v u : Value) (Q : VK), Inv X pins σ H s → RelV x v → RelV y u → r x y H Q →
    subscripted slice false v u = operate [v, u] (getItem v u) → wpAny (model X.prog X.w) X.A (subscriptTail value slice v u) (EP X pins σ Q) X.xe s
/-- a call of a builtin's method by values: the receiver, the arguments -/
def MtR (X : Cx) (id : String) (r : V → List V → Hp → VK → Prop) : Prop :=
  ∀ (pins : List (Addr × Obj)) (s : Shared) (σ : St) (H : Hp) (x : V) (xs : List V) (v : Value) (us : List Value) (Q : VK), Inv X pins σ H s → RelV x v → Vals xs us → r x xs H Q →
    wpAny (model X.prog X.w) X.A (call (.builtin id) (v :: us)) (EP X pins σ Q) X.xe s
section
variable {X : Cx} {a b : Expr} {ta tb : TE} {pos : Pos}
theorem IxR.or {r r' : R2} (h : IxR X r) (h' : IxR X r') : IxR X (fun x y H Q => r x y H Q ∨ r' x y H Q) := by
  intro value slice pins s σ H x y v u Q I rx ry q hs
  rcases q with q | q
  · exact h value slice pins s σ H x y v u Q I rx ry q hs
  · exact h' value slice pins s σ H x y v u Q I rx ry q hs
theorem MtR.or {id : String} {r r' : V → List V → Hp → VK → Prop} (h : MtR X id r) (h' : MtR X id r') : MtR X id (fun x xs H Q => r x xs H Q ∨ r' x xs H Q) := by
  intro pins s σ H x xs v us Q I rx rs q
  rcases q with q | q
  · exact h pins s σ H x xs v us Q I rx rs q
  · exact h' pins s σ H x xs v us Q I rx rs q
/-- a[b] -/
theorem pe_ix {r : R2} (hr : IxR X r) (ha : PE X a ta) (hb : PE X b tb) (hs : PlainIx b) : PE X (.Subscript a b pos) (tOp r ta tb) := by
  intro pins s σ H Q I h
  exact Subscript_ (binT ha hb I h fun v u s2 x y H2 I2 rx ry q => hr a b pins s2 σ H2 x y v u Q I2 rx ry q (hs _ _))

def rIxL (K : PySem.W.Frag) : R2 := fun x y H Q => ∃ p xs i v, x = .ref p ∧ y = .int i ∧ SqL K H p xs ∧ atI xs i = some v ∧ Q v H
def rIxT (K : PySem.W.Frag) : R2 := fun x y H Q => ∃ p xs i v, x = .ref p ∧ y = .int i ∧ SqT K H p xs ∧ atI xs i = some v ∧ Q v H
theorem ix_list : IxR X (rIxL X.K) := by
  intro value slice pins s σ H x y v u Q I rx ry h hs
  obtain ⟨p, xs, i, z, rfl, rfl, hq, he, q⟩ := h
  cases rx
  obtain ⟨t, rfl⟩ := ry
  obtain ⟨its, r, pl, hz⟩ := I.list hq
  obtain ⟨j, h1, h2, h3, h4, h5⟩ := atI_get he
  obtain ⟨w, ew, rw'⟩ := r.get h2
  have hl := r.length
  have hn := line63
  have fin : EP X pins σ Q w s := ⟨z, H, I, rw', q⟩
  by_cases h0 : 0 ≤ i
  · have hj : i.toNat = j := by
      rw [seqIndex_of h0 h5] at h1
      exact Option.some.inj h1
    exact item_listR pl.isList h0 (by omega) (by rw [hj]; simpa using ew) fin hs
  · have hj : (i + (its.toArray.size : Int)).toNat = j := by
      rw [seqIndex_neg (by omega) h4] at h1
      rw [List.size_toArray, ← hl]
      exact Option.some.inj h1
    exact subscriptTail_builtinR (x := w) pl.isList.typeIs slot_list_getitem.lookup
      (wpAny_getItem_list_neg (Q := fun r s' => r = w ∧ EP X pins σ Q r s') pl.isList (by omega) (by rw [List.size_toArray] <;> omega) (by omega) (by rw [hj]; simpa using ew) ⟨rfl, fin⟩) hs
theorem ix_tup : IxR X (rIxT X.K) := by
  intro value slice pins s σ H x y v u Q I rx ry h hs
  obtain ⟨p, xs, i, z, rfl, rfl, hq, he, q⟩ := h
  cases rx
  obtain ⟨t, rfl⟩ := ry
  obtain ⟨its, r, pl, hz⟩ := I.tuple hq
  obtain ⟨j, h1, h2, h3, h4, h5⟩ := atI_get he
  obtain ⟨w, ew, rw'⟩ := r.get h2
  have hl := r.length
  have hn := line63
  have fin : EP X pins σ Q w s := ⟨z, H, I, rw', q⟩
  exact subscriptTail_builtinR (x := w) pl.typeIs slot_tuple_getitem.lookup
    (getItem_tuple (j := j) (Q := fun r s' => r = w ∧ EP X pins σ Q r s') pl (by omega) (by omega) (by rw [List.size_toArray, ← hl]; exact h1) (by simpa using ew) ⟨rfl, fin⟩) hs
/-- the list's object behind a store -/
theorem mapSeq_set (its : List Value) (n j : Nat) (u : Value) : Obj.mapSeq (·.setIfInBounds j u) { cls := .type "list", data := .seq its.toArray n } = { cls := .type "list", data := .seq (its.set j u).toArray n } := by
  simp [Obj.mapSeq]
theorem Inv.lst {pins : List (Addr × Obj)} {σ : St} {H : Hp} {s : Shared} {p : Addr} {xs : List V} (I : Inv X pins σ H s) (h : H p = some (.lst xs)) :
    ∃ (its : List Value) (n : Nat), Vals xs its ∧ s.heap.get? p = some { cls := .type "list", data := .seq its.toArray n } ∧ xs.length ≤ sizeLine := by
  obtain ⟨z, its, n, r, e⟩ := I.hok p _ h
  exact ⟨its, n, r, e, z⟩
/-- the list at p is written by an update of its object -/
theorem Inv.lstUpd {pins : List (Addr × Obj)} {σ : St} {H : Hp} {s : Shared} {p : Addr} {xs ys : List V} {its its' : List Value} {n n' : Nat} {f : Obj → Obj} (I : Inv X pins σ H s) (h : H p = some (.lst xs))
    (ho : s.heap.get? p = some { cls := .type "list", data := .seq its.toArray n }) (hf : f { cls := .type "list", data := .seq its.toArray n } = { cls := .type "list", data := .seq its'.toArray n' }) (r : Vals ys its') (hz : ys.length ≤ sizeLine) (t : Nat) :
    Inv X pins σ (upd H p (.lst ys)) { s with heap := s.heap.update p f, toks := t } := by
  have e : (s.heap.update p f).get? p = some { cls := .type "list", data := .seq its'.toArray n' } := by
    rw [Heap.get?_update_self f ho (by rw [hf] <;> rfl), hf]
  refine I.write (x := p) (e := p) (by rw [h]; trivial) (.inl rfl) (fun b u hb q => (Heap.get?_update_other _ _ (Ne.symm hb)).trans q) ⟨_, e⟩ ?_
  exact ⟨hz, its', n', r, e⟩
def rSetL : V → V → V → Hp → (Hp → Prop) → Prop := fun o i v H Q => ∃ p xs k j, o = .ref p ∧ i = .int k ∧ H p = some (.lst xs) ∧ ixN xs.length k = some j ∧ Q (upd H p (.lst (xs.set j v)))
theorem set_list : PSet X rSetL := by
  intro pins s σ H o i v ov iv u Q I ro ri rv h
  obtain ⟨p, xs, k, j, rfl, rfl, hp, hj, q⟩ := h
  cases ro
  obtain ⟨t, rfl⟩ := ri
  obtain ⟨its, n, r, ho, hz⟩ := I.lst hp
  obtain ⟨h1, h2, h3, h4⟩ := ixN_seq hj
  have hl := r.length
  have hn := line63
  have I' : Inv X pins σ (upd H p (.lst (xs.set j v))) { s with heap := s.heap.update p (Obj.mapSeq (·.setIfInBounds j u)) } :=
    I.lstUpd hp ho (mapSeq_set its n j u) (r.set rv j) (by rw [List.length_set]; exact hz) s.toks
  by_cases h0 : 0 ≤ k
  · have hk : k.toNat = j := by
      rw [seqIndex_of h0 h4] at h1
      exact Option.some.inj h1
    exact PySem.W.ki_setAt ho h0 (by omega) (by rw [List.size_toArray, ← hl]; exact h4) (by rw [hk]; exact ⟨_, I', q⟩)
  · have hk : (k + (its.toArray.size : Int)).toNat = j := by
      rw [seqIndex_neg (by omega) h3] at h1
      rw [List.size_toArray, ← hl]
      exact Option.some.inj h1
    exact PySem.W.ki_setBack ho (by omega) (by rw [List.size_toArray, ← hl]; exact h3) (by omega) (by rw [hk]; exact ⟨_, I', q⟩)

theorem slice_bounds (lo hi : Option Int) (n : Nat) : (sliceBounds lo hi none n).1 = ((HT.sIx n 0 lo : Nat) : Int) ∧ (sliceBounds lo hi none n).2.1 = ((HT.sIx n n hi : Nat) : Int) ∧ (sliceBounds lo hi none n).2.2 = 1 := by
  refine ⟨?_, ?_, rfl⟩
  · cases lo with
    | none => simp [sliceBounds, HT.sIx]
    | some i =>
      simp only [sliceBounds, HT.sIx, Option.getD_none, show (1 : Int) > 0 by decide, if_true]
      by_cases h : i < 0
      · simp only [h, if_true] <;> omega
      · simp only [h, if_false] <;> omega
  · cases hi with
    | none => simp [sliceBounds, HT.sIx]
    | some i =>
      simp only [sliceBounds, HT.sIx, Option.getD_none, show (1 : Int) > 0 by decide, if_true]
      by_cases h : i < 0
      · simp only [h, if_true] <;> omega
      · simp only [h, if_false] <;> omega
theorem slicePick_cut (its : List Value) (lo hi : Option Int) : slicePick its.toArray lo hi none = ((its.drop (HT.sIx its.length 0 lo)).take (HT.sIx its.length its.length hi - HT.sIx its.length 0 lo)).toArray := by
  obtain ⟨h1, h2, h3⟩ := slice_bounds lo hi its.toArray.size
  unfold slicePick
  rw [h1, h2, h3]
  simp only [sliceRange_one, pick_run, List.size_toArray] <;> rfl
/-- xs[lo:hi] of a list: a new list -/
def rSlL (K : PySem.W.Frag) : V → Option Int → Option Int → Hp → VK → Prop := fun x lo hi H Q => ∃ a xs, x = .ref a ∧ SqL K H a xs ∧ ∀ p, H p = none → Q (.ref p) (upd H p (.lst (cutV xs lo hi)))
theorem sl_list : SlR X (rSlL X.K) := by
  intro pins s σ H x v vl vu lo hi sl Q I rx hs pl pu h
  obtain ⟨a, xs, rfl, hx, q⟩ := h
  cases rx
  obtain ⟨its, r, ht, hz⟩ := I.list hx
  have hlen := r.length
  refine ⟨"list", _, slot_list_getitem.lookup, ht.isList.typeIs, ?_⟩
  refine wpAny_getItem_list_slice ht.isList hs pl pu .none (by simp) ?_ (by rw [List.size_toArray] <;> omega)
  rw [slicePick_cut, ← hlen]
  refine ⟨.ref s.heap.objs.size, _, I.laid (t' := s.toks) (o := .lst (cutV xs lo hi)) (fun b ob q => Heap.get?_push_of_some _ q) (Nat.le_refl _) ?_, rfl, q _ (I.hok.fresh (Nat.le_refl _))⟩
  exact ⟨Nat.le_trans (cutV_length xs lo hi) hz, _, 0, (r.drop (HT.sIx xs.length 0 lo)).take (HT.sIx xs.length xs.length hi - HT.sIx xs.length 0 lo), Heap.get?_push_size _ rfl⟩

def flatV : V → Bool
  | .non => true
  | .bl _ => true
  | .int _ => true
  | .str _ => true
  | _ => false
/-- == of flat values -/
def eqV : V → V → Bool
  | .non, .non => true
  | .bl a, .bl b => a == b
  | .bl a, .int b => (if a then 1 else 0) == b
  | .int a, .bl b => a == (if b then 1 else 0)
  | .int a, .int b => a == b
  | .str a, .str b => a == b
  | _, _ => false
theorem eqAt_V {A : Around} {s : Shared} {y x : V} {u v : Value} (ry : RelV y u) (rx : RelV x v) (fy : flatV y = true) (fx : flatV x = true) : SeqAt.EqAt A s u v (eqV y x) := by
  cases y with
  | non =>
    cases ry
    cases x with
    | non => cases rx; exact SeqAt.EqAt.same _
    | bl b => cases rx; exact SeqAt.EqAt.none_bool b
    | int b => obtain ⟨t, rfl⟩ := rx; exact SeqAt.EqAt.none_int b t
    | str b => obtain ⟨t, rfl⟩ := rx; exact SeqAt.EqAt.none_str b t
    | _ => exact absurd (show false = true from fx) Bool.false_ne_true
  | bl a =>
    cases ry
    cases x with
    | non => cases rx; exact SeqAt.EqAt.bool_none a
    | bl b => cases rx; exact SeqAt.EqAt.bool_bool a b
    | int b => obtain ⟨t, rfl⟩ := rx; exact SeqAt.EqAt.bool_int a b t
    | str b => obtain ⟨t, rfl⟩ := rx; exact SeqAt.EqAt.bool_str a b t
    | _ => exact absurd (show false = true from fx) Bool.false_ne_true
  | int a =>
    obtain ⟨t', rfl⟩ := ry
    cases x with
    | non => cases rx; exact SeqAt.EqAt.int_none a t'
    | bl b => cases rx; exact SeqAt.EqAt.int_bool a t' b
    | int b => obtain ⟨t, rfl⟩ := rx; exact SeqAt.EqAt.int_int a t' b t
    | str b => obtain ⟨t, rfl⟩ := rx; exact SeqAt.EqAt.int_str a t' b t
    | _ => exact absurd (show false = true from fx) Bool.false_ne_true
  | str a =>
    obtain ⟨t', rfl⟩ := ry
    cases x with
    | non => cases rx; exact SeqAt.EqAt.str_none a t'
    | bl b => cases rx; exact SeqAt.EqAt.str_bool a t' b
    | int b => obtain ⟨t, rfl⟩ := rx; exact SeqAt.EqAt.str_int a t' b t
    | str b => obtain ⟨t, rfl⟩ := rx; exact SeqAt.EqAt.str_str a t' b t
    | _ => exact absurd (show false = true from fx) Bool.false_ne_true
  | _ => exact absurd (show false = true from fy) Bool.false_ne_true
/-- the items' answers, read off the values (a value's own answer does not lean on its token) -/
def eqU (x : V) (u : Value) : Bool := match u with
  | .none => eqV .non x
  | .bool b => eqV (.bl b) x
  | .int i _ => eqV (.int i) x
  | .str z _ => eqV (.str z) x
  | _ => false
theorem eqU_of {x y : V} {u : Value} (r : RelV y u) (f : flatV y = true) : eqU x u = eqV y x := by
  cases y with
  | non => cases r; rfl
  | bl b => cases r; rfl
  | int i => obtain ⟨t, rfl⟩ := r; rfl
  | str z => obtain ⟨t, rfl⟩ := r; rfl
  | _ => exact absurd (show false = true from f) Bool.false_ne_true
theorem any_eqU {x : V} : ∀ {xs : List V} {us : List Value}, Vals xs us → xs.all flatV = true → us.any (eqU x) = xs.any fun y => eqV y x
  | _, _, .nil, _ => rfl
  | y :: xs, u :: us, .cons r t, f => by
    rw [List.all_cons, Bool.and_eq_true] at f
    rw [List.any_cons, List.any_cons, eqU_of r f.1, any_eqU t f.2]
theorem mem_eqAt {A : Around} {s : Shared} {x : V} {v : Value} (rx : RelV x v) (fx : flatV x = true) : ∀ {xs : List V} {us : List Value}, Vals xs us → xs.all flatV = true → ∀ u ∈ us, SeqAt.EqAt A s u v (eqU x u)
  | _, _, .nil, _ => fun u hu => by cases hu
  | y :: xs, u :: us, .cons r t, f => fun u' hu => by
    rw [List.all_cons, Bool.and_eq_true] at f
    rcases List.mem_cons.mp hu with rfl | hu
    · rw [eqU_of r f.1]; exact eqAt_V r rx f.1 fx
    · exact mem_eqAt rx fx t f.2 u' hu
def inV (x : V) (xs : List V) : Bool := xs.any fun y => eqV y x
/-- x in a list or tuple of flat items -/
def rIn (K : PySem.W.Frag) (neg : Bool) : R2 := fun x y H Q => ∃ p xs, y = .ref p ∧ (SqL K H p xs ∨ SqT K H p xs) ∧ flatV x = true ∧ xs.all flatV = true ∧ Q (.bl (if neg then !inV x xs else inV x xs)) H
theorem op_in_seq : OpR X (compareOp .In) (rIn X.K false) := by
  intro pins s σ H x y v u Q I rx ry h
  obtain ⟨p, xs, rfl, hq, fx, fs, q⟩ := h
  cases ry
  rcases hq with hq | hq
  · obtain ⟨its, r, pl, hz⟩ := I.list hq
    refine SeqAt.in_listAt (eqU x) pl.isList (fun w hw => mem_eqAt rx fx r fs w (by simpa using hw)) ⟨.bl _, H, I, rfl, ?_⟩
    rw [show its.toArray.any (eqU x) = its.any (eqU x) by simp, any_eqU r fs]
    exact q
  · obtain ⟨its, r, pl, hz⟩ := I.tuple hq
    refine SeqAt.in_tupleAt (eqU x) pl (fun w hw => mem_eqAt rx fx r fs w (by simpa using hw)) ⟨.bl _, H, I, rfl, ?_⟩
    rw [show its.toArray.any (eqU x) = its.any (eqU x) by simp, any_eqU r fs]
    exact q
theorem op_notIn_seq : OpR X (compareOp .NotIn) (rIn X.K true) := by
  intro pins s σ H x y v u Q I rx ry h
  obtain ⟨p, xs, rfl, hq, fx, fs, q⟩ := h
  cases ry
  rcases hq with hq | hq
  · obtain ⟨its, r, pl, hz⟩ := I.list hq
    refine SeqAt.notIn_listAt (eqU x) pl.isList (fun w hw => mem_eqAt rx fx r fs w (by simpa using hw)) ⟨.bl _, H, I, rfl, ?_⟩
    rw [show its.toArray.any (eqU x) = its.any (eqU x) by simp, any_eqU r fs]
    exact q
  · obtain ⟨its, r, pl, hz⟩ := I.tuple hq
    refine SeqAt.notIn_tupleAt (eqU x) pl (fun w hw => mem_eqAt rx fx r fs w (by simpa using hw)) ⟨.bl _, H, I, rfl, ?_⟩
    rw [show its.toArray.any (eqU x) = its.any (eqU x) by simp, any_eqU r fs]
    exact q
theorem CallR.or {f : Value} {r r' : List V → Hp → VK → Prop} (h : CallR X f r) (h' : CallR X f r') : CallR X f (fun xs H Q => r xs H Q ∨ r' xs H Q) := by
  intro pins s σ H xs us Q I rs q
  rcases q with q | q
  · exact h pins s σ H xs us Q I rs q
  · exact h' pins s σ H xs us Q I rs q
/-- the value is of that builtin type -/
def tyV (K : PySem.W.Frag) (T : String) (x : V) (H : Hp) : Prop := match x with
  | .str _ => T = "str"
  | .int _ => T = "int"
  | .ref p => (T = "list" ∧ ∃ xs, SqL K H p xs) ∨ (T = "tuple" ∧ ∃ o, K.lookup p = some o ∧ o.cls = .type "tuple" ∧ o.dict = none) ∨
      (T = "dict" ∧ ((∃ kvs, H p = some (.dK kvs)) ∨ ∃ kvs, H p = some (.dT kvs))) ∨ (T = "set" ∧ ∃ S n, H p = some (.set S n))
  | _ => False
theorem tyV_is {pins : List (Addr × Obj)} {σ : St} {H : Hp} {s : Shared} {T : String} {x : V} {v : Value} (I : Inv X pins σ H s) (r : RelV x v) (ty : tyV X.K T x H) :
    s.TypeIs v T ∧ ∀ a, v = .ref a → ∃ ob, s.heap.get? a = some ob ∧ ob.dict = none := by
  cases x with
  | str z =>
    obtain ⟨t, rfl⟩ := r
    cases (show T = "str" from ty)
    exact ⟨typeIs_str s z t, fun _ e => nomatch e⟩
  | int i =>
    obtain ⟨t, rfl⟩ := r
    cases (show T = "int" from ty)
    exact ⟨typeIs_int s i t, fun _ e => nomatch e⟩
  | ref p =>
    cases r
    rcases ty with ⟨rfl, xs, hq⟩ | ⟨rfl, o, hk, hc, hd⟩ | ⟨rfl, hk⟩ | ⟨rfl, S, n, hk⟩
    · obtain ⟨its, _, pl, _⟩ := I.list hq
      refine ⟨pl.isList.typeIs, fun a e => ?_⟩
      cases e
      obtain ⟨o, n, e, c, hd, _⟩ := pl
      exact ⟨o, e, hd⟩
    · refine ⟨⟨o, I.kIn p o hk, hc⟩, fun a e => ?_⟩
      cases e
      exact ⟨o, I.kIn _ o hk, hd⟩
    · have z : ∃ o, s.heap.get? p = some o ∧ o.ExactDict := by
        rcases hk with ⟨kvs, hk⟩ | ⟨kvs, hk⟩
        · obtain ⟨_, _, _, _, o, _, _, e, ex, _⟩ := I.hok p _ hk
          exact ⟨o, e, ex⟩
        · obtain ⟨_, _, _, _, o, _, _, e, ex, _⟩ := I.hok p _ hk
          exact ⟨o, e, ex⟩
      obtain ⟨o, e, ex⟩ := z
      refine ⟨⟨o, e, ex.1⟩, fun a e2 => ?_⟩
      cases e2
      exact ⟨o, e, ex.2.1⟩
    · obtain ⟨o, _, _, _, e, ex, _⟩ := I.hok p _ hk
      refine ⟨⟨o, e, ex.1⟩, fun a e2 => ?_⟩
      cases e2
      exact ⟨o, e, ex.2.1⟩
  | _ => exact False.elim ty
def tBM0 (K : PySem.W.Frag) (T : String) (r : V → List V → Hp → VK → Prop) (to : TE) : TE := fun σ H Q => to σ H fun x H1 => tyV K T x H1 ∧ r x [] H1 Q
def tBM (K : PySem.W.Frag) (T : String) (r : V → List V → Hp → VK → Prop) (to : TE) (t : TA) : TE := fun σ H Q => to σ H fun x H1 => tyV K T x H1 ∧ t σ H1 fun xs H2 => r x xs H2 Q
variable {o e : Expr} {es : List Expr} {to : TE} {t : TA} {name : Str} {apos cpos : Pos} {T id : String} {r : V → List V → Hp → VK → Prop}
theorem pe_bm0 (pa : PlainAttrs T) (slot : Slot T name id) (hty : typeOf (.builtin id) = pure (.type "method_descriptor")) (hm : MtR X id r) (ho : PE X o to)
    (hbase : attributeBase o name X.env (eval o X.env) = eval o X.env := by rfl) (hline : (apos.endLine == cpos.line) = true := by rfl) : PE X (.Call (.Attribute o name apos) [] [] cpos) (tBM0 X.K T r to) := by
  intro pins s σ H Q I h
  refine wpAny_Call_method0_late hbase hline (thn (ho pins s σ H _ I h) fun v s1 ⟨x, H1, I1, r1, ty, q1⟩ => ?_)
  obtain ⟨h1, h2⟩ := tyV_is I1 r1 ty
  exact ⟨T, id, pa, slot, hty, h1, h2, Calls.callWith_builtin rfl (PySem.evalArgs_none (hm pins s1 σ H1 x [] v [] Q I1 r1 .nil q1))⟩
theorem pe_bm (pa : PlainAttrs T) (slot : Slot T name id) (hty : typeOf (.builtin id) = pure (.type "method_descriptor")) (hm : MtR X id r) (ho : PE X o to) (ha : PA X (e :: es) t)
    (hbase : attributeBase o name X.env (eval o X.env) = eval o X.env := by rfl)
    (hfew : ((backTo cpos (starEach (e :: es) X.env)).all (fun x => !x.1) && (backToKw cpos (keywordEach [] X.env)).all (fun x => x.1.isSome)
      && decide ((e :: es).length + ([] : List Keyword).length + (if ([] : List Keyword).isEmpty then 0 else 1) < 30)) = true := by rfl)
    (hline : (apos.endLine == cpos.line) = true := by rfl) (hs : starEach (e :: es) X.env = (false, eval e X.env) :: starEach es X.env := by rfl) (hplain : (backTo cpos (starEach es X.env)).any (·.1) = false := by rfl) :
    PE X (.Call (.Attribute o name apos) (e :: es) [] cpos) (tBM X.K T r to t) := by
  intro pins s σ H Q I h
  refine wpAny_Call_method_late hbase hfew hline rfl (thn (ho pins s σ H _ I h) fun v s1 ⟨x, H1, I1, r1, ty, q1⟩ => ?_)
  obtain ⟨h1, h2⟩ := tyV_is I1 r1 ty
  refine ⟨T, id, pa, slot, hty, h1, h2, ?_⟩
  have hA := ha cpos pins s1 σ H1 _ I1 q1
  rw [hs] at hA ⊢
  refine Calls.callWith_builtin (by show (false || (backTo cpos (starEach es X.env)).any (·.1)) = false; rw [hplain] <;> rfl) (Calls.evalArgs_plain ?_)
  exact thn hA fun us s2 ⟨vs, H2, I2, r2, q2⟩ => hm pins s2 σ H2 x vs v us Q I2 r1 r2 q2
/- xs.append(e), list.index on a module's tuple .. are MtR facts of 06m -/
end
end L2

namespace L2
open PySem PySem.Spec PyProof.Rows

def MtM (X : Cx) (id : String) (r : V → List V → Hp → VK → Prop) : Prop :=
  ∀ (pins : List (Addr × Obj)) (s : Shared) (σ : St) (H : Hp) (x : V) (xs : List V) (v : Value) (us : List Value) (Q : VK), Inv X pins σ H s → RelV x v → Vals xs us → r x xs H Q →
    wpAny (model X.prog X.w) X.A (call (.builtin id) (v :: us)) (EP X pins σ Q) X.xe s

theorem Vals.one : ∀ {x : V} {us : List Value}, Vals [x] us → ∃ u, us = [u] ∧ RelV x u
  | _, _, .cons r .nil => ⟨_, rfl, r⟩
theorem Vals.two : ∀ {x y : V} {us : List Value}, Vals [x, y] us → ∃ u v, us = [u, v] ∧ RelV x u ∧ RelV y v
  | _, _, _, .cons r (.cons q .nil) => ⟨_, _, rfl, r, q⟩
theorem Vals.zero : ∀ {us : List Value}, Vals [] us → us = []
  | _, .nil => rfl
theorem Vals.dropLast {xs : List V} {us : List Value} (h : Vals xs us) : Vals xs.dropLast us.dropLast := by
  induction h with
  | nil => exact .nil
  | cons r t ih =>
    cases t with
    | nil => exact .nil
    | cons q t' => exact .cons r ih
theorem Vals.eraseIdx : ∀ {xs : List V} {us : List Value} (i : Nat), Vals xs us → Vals (xs.eraseIdx i) (us.eraseIdx i)
  | _, _, _, .nil => .nil
  | _, _, 0, .cons _ t => t
  | _, _, i + 1, .cons r t => .cons r (Vals.eraseIdx i t)
theorem Vals.reverse {xs : List V} {us : List Value} (h : Vals xs us) : Vals xs.reverse us.reverse := by
  induction h with
  | nil => exact .nil
  | cons r t ih => rw [List.reverse_cons, List.reverse_cons]; exact Vals.append ih (.cons r .nil)
theorem erase_last {α : Type} (l : List α) : l.eraseIdx (l.length - 1) = l.dropLast := by
  induction l with
  | nil => rfl
  | cons a r ih =>
    cases r with
    | nil => rfl
    | cons b r =>
      have e : (a :: b :: r).length - 1 = ((b :: r).length - 1) + 1 := by
        have h1 : (a :: b :: r).length = r.length + 2 := rfl
        have h2 : (b :: r).length = r.length + 1 := rfl
        omega
      rw [e, List.eraseIdx_cons_succ, ih]
      all_goals rfl
section
variable {X : Cx} {pins : List (Addr × Obj)} {σ : St} {H : Hp} {s : Shared} {l b : Addr} {xs ys zs : List V}

theorem Inv.lset {its its' : List Value} {n : Nat} {f : Array Value → Array Value} {t' : Nat} (I : Inv X pins σ H s) (hH : H l = some (.lst xs))
    (e : s.heap.get? l = some { cls := .type "list", data := .seq its.toArray n }) (hf : f its.toArray = its'.toArray) (hv : Vals ys its') (hz : ys.length ≤ sizeLine) :
    Inv X pins σ (upd H l (.lst ys)) { s with heap := s.heap.update l (Obj.mapSeq f), toks := t' } := by
  have q := PySem.IsL.update e f
  rw [hf] at q
  refine I.write (x := l) (e := l) (by rw [hH]; exact trivial) (.inl rfl) (fun b' u hb hu => (Heap.get?_update_other s.heap (Obj.mapSeq f) (Ne.symm hb)).trans hu) ⟨_, q⟩ ?_
  exact ⟨hz, its', _, hv, q⟩
theorem Inv.lnew {its : List Value} {t' : Nat} (I : Inv X pins σ H s) (hv : Vals ys its) (hz : ys.length ≤ sizeLine) :
    Inv X pins σ (upd H s.heap.objs.size (.lst ys)) { s with heap := s.heap.push { cls := .type "list", data := .seq its.toArray }, toks := t' } :=
  I.laid (fun _ _ q => Heap.get?_push_of_some _ q) (Nat.le_refl _) ⟨hz, its, 0, hv, Heap.get?_push_size _ rfl⟩
theorem Inv.fresh (I : Inv X pins σ H s) : H s.heap.objs.size = none := I.hok.fresh (Nat.le_refl _)
theorem Inv.lstM (I : Inv X pins σ H s) (hH : H l = some (.lst xs)) : xs.length ≤ sizeLine ∧ ∃ (its : List Value) (n : Nat), Vals xs its ∧ xs.length = its.length ∧ s.heap.get? l = some { cls := .type "list", data := .seq its.toArray n } := by
  obtain ⟨z, its, n, r, e⟩ := I.hok l _ hH
  exact ⟨z, its, n, r, r.length, e⟩

end

section
variable {X : Cx}

def rAppend : V → List V → Hp → VK → Prop := fun x vs H Q => ∃ l xs y, x = .ref l ∧ vs = [y] ∧ H l = some (.lst xs) ∧ xs.length < sizeLine ∧ Q .non (upd H l (.lst (xs ++ [y])))
theorem mt_append : MtM X "list.append" rAppend := by
  intro pins s σ H x vs v us Q I rx rv h
  obtain ⟨l, xs, y, rfl, rfl, hH, hz, q⟩ := h
  cases rx
  obtain ⟨u, rfl, ru⟩ := rv.one
  obtain ⟨z, its, n, r, hl, e⟩ := I.lstM hH
  refine call_meets F.slot_list_append ⟨_, e, rfl⟩ F.entry_list_append (F.args_list_append_2 _ _) (PySem.list_append l its.toArray n u (by rw [List.size_toArray]; omega)) ⟨e, ?_⟩
  refine ⟨.non, _, I.lset (its' := its ++ [u]) hH e (by simp) (r.append (.cons ru .nil)) ?_, rfl, q⟩
  rw [List.length_append, List.length_singleton]
  omega

def rPop : V → List V → Hp → VK → Prop := fun x vs H Q => ∃ l xs y, x = .ref l ∧ vs = [] ∧ H l = some (.lst xs) ∧ xs[xs.length - 1]? = some y ∧ Q y (upd H l (.lst xs.dropLast))
theorem mt_pop : MtM X "list.pop" rPop := by
  intro pins s σ H x vs v us Q I rx rv h
  obtain ⟨l, xs, y, rfl, rfl, hH, hy, q⟩ := h
  cases rx
  have hus := rv.zero
  subst hus
  obtain ⟨z, its, n, r, hl, e⟩ := I.lstM hH
  obtain ⟨u, hu, ru⟩ := r.get hy
  have hy' : its.toArray[its.toArray.size - 1]? = some u := by
    show its.toArray[its.length - 1]? = some u
    rw [← Array.getElem?_toList, ← hl]
    exact hu
  refine call_meets F.slot_list_pop ⟨_, e, rfl⟩ F.entry_list_pop (F.args_list_pop_1 _) (MeetsSeq.list_pop_last l its.toArray n u hy' (by rw [List.size_toArray]; omega)) ⟨e, ?_⟩
  refine ⟨y, _, I.lset (its' := its.dropLast) hH e ?_ r.dropLast ?_, ru, q⟩
  · show its.toArray.eraseIdxIfInBounds (its.toArray.size - 1) = its.dropLast.toArray
    rw [List.size_toArray, List.eraseIdxIfInBounds_toArray, erase_last]
  · rw [List.length_dropLast]
    omega

def rCat : R2 := fun x y H Q => ∃ l b xs zs, x = .ref l ∧ y = .ref b ∧ H l = some (.lst xs) ∧ H b = some (.lst zs) ∧ xs.length + zs.length ≤ sizeLine ∧ ∀ p, H p = none → Q (.ref p) (upd H p (.lst (xs ++ zs)))
theorem op_cat : OpR X (binaryOp .Add) rCat := by
  intro pins s σ H x y v u Q I rx ry h
  obtain ⟨l, b, xs, zs, rfl, rfl, hH, hB, hz, q⟩ := h
  cases rx
  cases ry
  obtain ⟨z, its, n, r, hl, e⟩ := I.lstM hH
  obtain ⟨z2, its2, n2, r2, hl2, e2⟩ := I.lstM hB
  refine PySem.P.add_list e e2 ?_ (by rw [List.size_toArray, List.size_toArray]; omega)
  have ea : its.toArray ++ its2.toArray = (its ++ its2).toArray := by simp
  rw [ea]
  exact ⟨.ref _, _, I.lnew (t' := s.toks) (r.append r2) (by rw [List.length_append]; omega), rfl, q _ I.fresh⟩
end

section
variable {prog : Program} {w : World} {A : Around} {E : Value → Shared → Prop} {s : Shared}
end

section
variable {X : Cx}
end
end L2

namespace L2
open PySem PySem.Spec PyProof.Rows

section
variable {κ : Type} [DecidableEq κ]
def valV (kvs : List (κ × V)) (k : κ) : Option V := (kvs.find? fun kv => decide (kv.1 = k)).map (·.2)
/-- in its place, or at the end -/
def putK (kvs : List (κ × V)) (k : κ) (v : V) : List (κ × V) :=
  if (kvs.any fun kv => decide (kv.1 = k)) = true then kvs.map (fun kv => if kv.1 = k then (kv.1, v) else kv) else kvs ++ [(k, v)]
def dropK (kvs : List (κ × V)) (k : κ) : List (κ × V) := kvs.filter fun kv => decide (kv.1 ≠ k)

theorem valV_pos {p : κ × V} {r : List (κ × V)} {k : κ} (e : p.1 = k) : valV (p :: r) k = some p.2 := by simp [valV, List.find?_cons, e]
theorem valV_neg {p : κ × V} {r : List (κ × V)} {k : κ} (e : ¬ p.1 = k) : valV (p :: r) k = valV r k := by simp [valV, List.find?_cons, e]
theorem valV_any (k : κ) : ∀ kvs : List (κ × V), (kvs.any fun kv => decide (kv.1 = k)) = (valV kvs k).isSome
  | [] => rfl
  | p :: r => by
    rw [List.any_cons]
    by_cases e : p.1 = k
    · simp only [valV_pos e, decide_eq_true e, Bool.true_or, Option.isSome_some]
    · rw [valV_neg e, decide_eq_false e, Bool.false_or]; exact valV_any k r
theorem length_putK (kvs : List (κ × V)) (k : κ) (v : V) : (putK kvs k v).length ≤ kvs.length + 1 := by
  unfold putK
  split
  · rw [List.length_map]; omega
  · rw [List.length_append, List.length_cons, List.length_nil]; omega
theorem putK_new {kvs : List (κ × V)} {k : κ} (v : V) (h : valV kvs k = none) : putK kvs k v = kvs ++ [(k, v)] := by
  unfold putK
  rw [valV_any, h]
  exact if_neg (by decide)

theorem RelO.isSome_eq {o : Option V} {u : Option Value} (r : RelO o u) : o.isSome = u.isSome := by
  cases o with
  | none => cases u with
    | none => rfl
    | some _ => exact (show False from r).elim
  | some _ => cases u with
    | none => exact (show False from r).elim
    | some _ => rfl
theorem RelO.getD {o : Option V} {u : Option Value} {d : V} {d' : Value} (r : RelO o u) (rd : RelV d d') : RelV (o.getD d) (u.getD d') := by
  cases o with
  | none => cases u with
    | none => exact rd
    | some _ => exact (show False from r).elim
  | some _ => cases u with
    | none => exact (show False from r).elim
    | some _ => exact r

/-- raw tables of the same keys -/
theorem KV.val {kvs : List (κ × V)} {vs : List (κ × Value)} (r : KV kvs vs) (k : κ) : RelO (valV kvs k) (valueAt vs k) := by
  unfold KV at r
  induction r with
  | nil => exact True.intro
  | @cons p q ps qs h t ih =>
    obtain ⟨h1, h2⟩ := h
    by_cases e : p.1 = k
    · have e' : q.1 = k := h1.symm.trans e
      have b : valueAt (q :: qs) k = some q.2 := by simp [valueAt, List.find?_cons, e']
      rw [valV_pos e, b]; exact h2
    · have e' : ¬ q.1 = k := fun z => e (h1.trans z)
      have b : valueAt (q :: qs) k = valueAt qs k := by simp [valueAt, List.find?_cons, e']
      rw [valV_neg e, b]; exact ih
theorem KV.any {kvs : List (κ × V)} {vs : List (κ × Value)} (r : KV kvs vs) (k : κ) : (kvs.any fun kv => decide (kv.1 = k)) = vs.any fun kv => decide (kv.1 = k) := by
  unfold KV at r
  induction r with
  | nil => rfl
  | cons h t ih => rw [List.any_cons, List.any_cons, ih, h.1]
theorem KV.repl {kvs : List (κ × V)} {vs : List (κ × Value)} (r : KV kvs vs) (k : κ) {y : V} {u : Value} (ry : RelV y u) :
    KV (kvs.map fun kv => if kv.1 = k then (kv.1, y) else kv) (vs.map fun kv => if kv.1 = k then (kv.1, u) else kv) := by
  unfold KV at r ⊢
  induction r with
  | nil => exact .nil
  | @cons p q ps qs h t ih =>
    rw [List.map_cons, List.map_cons]
    refine .cons ?_ ih
    obtain ⟨h1, h2⟩ := h
    by_cases e : p.1 = k
    · rw [if_pos e, if_pos (h1.symm.trans e)]; exact ⟨h1, ry⟩
    · rw [if_neg e, if_neg (fun z => e (h1.trans z))]; exact ⟨h1, h2⟩
theorem KV.put {kvs : List (κ × V)} {vs : List (κ × Value)} (r : KV kvs vs) (k : κ) {y : V} {u : Value} (ry : RelV y u) : KV (putK kvs k y) (stored vs k u) := by
  unfold putK stored
  rw [r.any k]
  by_cases e : (vs.any fun kv => decide (kv.1 = k)) = true
  · rw [if_pos e, if_pos e]; exact r.repl k ry
  · rw [if_neg e, if_neg e]; exact Paired.snoc r ⟨rfl, ry⟩
theorem KV.drop {kvs : List (κ × V)} {vs : List (κ × Value)} (r : KV kvs vs) (k : κ) : KV (dropK kvs k) (without vs k) := by
  unfold KV at r ⊢
  unfold dropK without
  induction r with
  | nil => exact .nil
  | @cons p q ps qs h t ih =>
    obtain ⟨h1, h2⟩ := h
    rw [List.filter_cons, List.filter_cons]
    by_cases e : p.1 = k
    · have a : ¬ decide (p.1 ≠ k) = true := by simp [e]
      have b : ¬ decide (q.1 ≠ k) = true := by simp [h1.symm.trans e]
      rw [if_neg a, if_neg b]; exact ih
    · have e' : ¬ q.1 = k := fun z => e (h1.trans z)
      have a : decide (p.1 ≠ k) = true := by simp [e]
      have b : decide (q.1 ≠ k) = true := by simp [e']
      rw [if_pos a, if_pos b]; exact .cons ⟨h1, h2⟩ ih
theorem KV.keys {kvs : List (κ × V)} {vs : List (κ × Value)} (r : KV kvs vs) : kvs.map (·.1) = vs.map (·.1) := by
  unfold KV at r
  induction r with
  | nil => rfl
  | cons h t ih => rw [List.map_cons, List.map_cons, ih, h.1]
theorem KV.length {kvs : List (κ × V)} {vs : List (κ × Value)} (r : KV kvs vs) : kvs.length = vs.length := Paired.length r
end


theorem kV_is {P : Program} {w : World} {k : Key} {u : Value} (r : RelV (kV k) u) : (mixKind P w).is k u = true := by
  cases k with
  | inl i => obtain ⟨t, e⟩ := (show ∃ t, u = Value.int i t from r); subst e; exact mixKind_int P w i t
  | inr x => obtain ⟨t, e⟩ := (show ∃ t, u = Value.str x t from r); subst e; exact mixKind_str P w x t
theorem items_are {P : Program} {w : World} : ∀ {ks : List Key} {us : List Value}, Vals (ks.map kV) us → ItemsAre (mixKind P w) ks us
  | [], _, r => by rw [List.map_nil] at r; cases r; exact .nil
  | k :: ks, _, r => by
    rw [List.map_cons] at r
    cases r with
    | cons h t => exact .cons (kV_is h) (items_are t)

/-- raw entries of a dict with tuple keys -/
abbrev KT (H : Hp) : List (List Key × V) → List (List Key × Addr × Value) → Prop := Paired fun p q => p.1 = q.1 ∧ H q.2.1 = some (.tup (p.1.map kV)) ∧ RelV p.2 q.2.2
theorem KT.val {H : Hp} {kvs : List (List Key × V)} {xs : List (List Key × Addr × Value)} (r : KT H kvs xs) (k : List Key) : RelO (valV kvs k) ((atKey xs k).map (·.2)) := by
  induction r with
  | nil => exact True.intro
  | @cons p q ps qs h t ih =>
    obtain ⟨h1, _, h2⟩ := h
    by_cases e : p.1 = k
    · have e' : q.1 = k := h1.symm.trans e
      have b : atKey (q :: qs) k = some q.2 := by simp [atKey, List.find?_cons, e']
      rw [valV_pos e, b]; exact h2
    · have e' : ¬ q.1 = k := fun z => e (h1.trans z)
      have b : atKey (q :: qs) k = atKey qs k := by simp [atKey, List.find?_cons, e']
      rw [valV_neg e, b]; exact ih
theorem KT.repl {H : Hp} {kvs : List (List Key × V)} {xs : List (List Key × Addr × Value)} (r : KT H kvs xs) (k : List Key) {y : V} {u : Value} (ry : RelV y u) :
    KT H (kvs.map fun kv => if kv.1 = k then (kv.1, y) else kv) (xs.map (putAt k u)) := by
  induction r with
  | nil => exact .nil
  | @cons p q ps qs h t ih =>
    rw [List.map_cons, List.map_cons]
    refine .cons ?_ ih
    obtain ⟨h1, h2, h3⟩ := h
    unfold putAt
    by_cases e : p.1 = k
    · rw [if_pos e, if_pos (h1.symm.trans e)]; exact ⟨h1, h2, ry⟩
    · rw [if_neg e, if_neg (fun z => e (h1.trans z))]; exact ⟨h1, h2, h3⟩
theorem KT.put {H : Hp} {kvs : List (List Key × V)} {xs : List (List Key × Addr × Value)} (r : KT H kvs xs) (k : List Key) {b : Addr} {y : V} {u : Value} (hb : H b = some (.tup (k.map kV))) (ry : RelV y u) :
    KT H (putK kvs k y) (storedH xs k b u) := by
  have e : (kvs.any fun kv => decide (kv.1 = k)) = (atKey xs k).isSome := by
    rw [valV_any, (r.val k).isSome_eq, Option.isSome_map]
  unfold putK storedH
  rw [e]
  by_cases q : (atKey xs k).isSome = true
  · rw [if_pos q, if_pos q]; exact r.repl k ry
  · rw [if_neg q, if_neg q]; exact Paired.snoc r ⟨rfl, hb, ry⟩
theorem KT.keeps {H H' : Hp} {kvs : List (List Key × V)} {xs : List (List Key × Addr × Value)} (r : KT H kvs xs) (ht : ∀ b ys, H b = some (.tup ys) → H' b = some (.tup ys)) : KT H' kvs xs :=
  Paired.mapP r fun _ _ z => ⟨z.1, ht _ _ z.2.1, z.2.2⟩

section
variable {P : Program} {w : World} {H : Hp} {h : Heap} {a : Addr}
theorem rd_of {u : HO} (ok : HOk P w H h) (e : Rd H a u) : ObjOk P w H h a u := e.ok ok
theorem dk_rd {kvs : List (Key × V)} (ok : HOk P w H h) (e : Rd H a (.dK kvs)) : kvs.length ≤ sizeLine ∧ (a == sysModules) = false ∧ ∃ vs, KV kvs vs ∧ h.DictOf (mixKind P w) a vs :=
  show ObjOk P w H h a (.dK kvs) from rd_of ok e
theorem dk_of {kvs : List (Key × V)} (ok : HOk P w H h) (e : H a = some (.dK kvs)) : kvs.length ≤ sizeLine ∧ (a == sysModules) = false ∧ ∃ vs, KV kvs vs ∧ h.DictOf (mixKind P w) a vs := dk_rd ok (.inl e)
/-- a tracked tuple of ints and texts is a key -/
theorem key_of {ks : List Key} (ok : HOk P w H h) (e : H a = some (.tup (ks.map kV))) : (tupleKind (mixKind P w)).is h ks a := by
  obtain ⟨_, its, r, o, h1, h2, n, h3⟩ := (show ObjOk P w H h a (.tup (ks.map kV)) from ok a _ e)
  exact ⟨o, its.toArray, n, h1, h2, h3, by simpa using items_are r⟩
theorem dt_rd {kvs : List (List Key × V)} (ok : HOk P w H h) (e : Rd H a (.dT kvs)) : kvs.length ≤ sizeLine ∧ (a == sysModules) = false ∧
    ∃ xs, KT H kvs xs ∧ h.DictOfH (tupleKind (mixKind P w)) a xs := by
  obtain ⟨z, y, xs, r, o, es, ep, h1, h2, h3, h4, h5⟩ := (show ObjOk P w H h a (.dT kvs) from rd_of ok e)
  refine ⟨z, y, xs, r, o, es, ep, h1, h2, h3, h4, fun x hx => ?_, h5⟩
  have all : ∀ {l : List (List Key × V)} {m : List (List Key × Addr × Value)}, KT H l m → ∀ x ∈ m, (tupleKind (mixKind P w)).is h x.1 x.2.1 := by
    intro l m q
    induction q with
    | nil => intro x hx; exact nomatch hx
    | @cons p q ps qs hq t ih =>
      intro x hx
      rcases List.mem_cons.mp hx with e | hx
      · subst e
        exact key_of ok (by rw [← hq.1]; exact hq.2.1)
      · exact ih x hx
  exact all r x hx
theorem dt_of {kvs : List (List Key × V)} (ok : HOk P w H h) (e : H a = some (.dT kvs)) : kvs.length ≤ sizeLine ∧ (a == sysModules) = false ∧
    ∃ xs, KT H kvs xs ∧ h.DictOfH (tupleKind (mixKind P w)) a xs := dt_rd ok (.inl e)
end

/-- what the dict at a holds at the key y -/
def DGet (H : Hp) (a : Addr) (y : V) (r : Option V) : Prop :=
  (∃ kvs k, Rd H a (.dK kvs) ∧ y = kV k ∧ r = valV kvs k) ∨ ∃ kvs k b, Rd H a (.dT kvs) ∧ y = .ref b ∧ H b = some (.tup (k.map kV)) ∧ r = valV kvs k
/-- the heap behind a[y] = v -/
def DPut (H : Hp) (a : Addr) (y v : V) (H' : Hp) : Prop :=
  (∃ kvs k, H a = some (.dK kvs) ∧ y = kV k ∧ kvs.length < sizeLine ∧ H' = upd H a (.dK (putK kvs k v))) ∨
  ∃ kvs k b, H a = some (.dT kvs) ∧ y = .ref b ∧ H b = some (.tup (k.map kV)) ∧ kvs.length < sizeLine ∧ H' = upd H a (.dT (putK kvs k v))
theorem DGet.k {H : Hp} {a : Addr} {kvs : List (Key × V)} {k : Key} (e : H a = some (.dK kvs)) : DGet H a (kV k) (valV kvs k) := .inl ⟨kvs, k, .inl e, rfl, rfl⟩
theorem DGet.t {H : Hp} {a b : Addr} {kvs : List (List Key × V)} {k : List Key} (e : H a = some (.dT kvs)) (eb : H b = some (.tup (k.map kV))) : DGet H a (.ref b) (valV kvs k) := .inr ⟨kvs, k, b, .inl e, rfl, eb, rfl⟩
theorem DPut.k {H : Hp} {a : Addr} {kvs : List (Key × V)} {k : Key} {v : V} (e : H a = some (.dK kvs)) (hl : kvs.length < sizeLine) : DPut H a (kV k) v (upd H a (.dK (putK kvs k v))) := .inl ⟨kvs, k, e, rfl, hl, rfl⟩
theorem DPut.t {H : Hp} {a b : Addr} {kvs : List (List Key × V)} {k : List Key} {v : V} (e : H a = some (.dT kvs)) (eb : H b = some (.tup (k.map kV))) (hl : kvs.length < sizeLine) :
    DPut H a (.ref b) v (upd H a (.dT (putK kvs k v))) := .inr ⟨kvs, k, b, e, rfl, eb, hl, rfl⟩


section
variable {X : Cx} {pins : List (Addr × Obj)} {σ : St} {H : Hp} {s : Shared} {a : Addr} {y v : V} {u r : Value} {o : Option V} {A : Around} {E : Value → Shared → Prop}

theorem Inv.big (I : Inv X pins σ H s) : sysModules < s.heap.objs.size := by
  have h : mainGlobals < s.heap.objs.size := (I.mod.glob.keeps I.bk).lt
  exact Nat.lt_trans (by decide) h

theorem d_notIn {Q : Value → Shared → Prop} (hu : A.units + 1 < cLine) (I : Inv X pins σ H s) (g : DGet H a y o) (ry : RelV y u) (h : ∀ s', Inv X pins σ H s' → Q (.bool (!o.isSome)) s') :
    wpAny (model X.prog X.w) A (compareOp .NotIn u (.ref a)) Q E s := by
  rcases g with ⟨kvs, k, e, ey, l⟩ | ⟨kvs, k, b, e, ey, eb, l⟩
  · subst ey
    obtain ⟨z, hd, vs, rel, dd⟩ := dk_rd I.hok e
    refine wpAny_notIn_of (kV_is ry) hd dd.mapOf ?_
    rw [← (rel.val k).isSome_eq, ← l]
    exact h _ (I.tok _)
  · subst ey
    cases (show u = Value.ref b from ry)
    obtain ⟨z, hd, xs, rel, dd⟩ := dt_rd I.hok e
    refine wpAny_notIn_heap (tupleKind_room_in1 hu) (key_of I.hok eb) hd dd ?_
    have q := (rel.val k).isSome_eq
    rw [Option.isSome_map] at q
    rw [← q, ← l]
    exact h _ (I.tok _)
/-- a dict's object is replaced -/
theorem d_write {h' : Heap} {t' : Nat} {ob : HO} (I : Inv X pins σ H s) (mu : Mut (H a)) (hs : Heap.SameBut a s.heap h') (he : ∃ q, h'.get? a = some q) (new : ObjOk X.prog X.w (upd H a ob) h' a ob) :
    Inv X pins σ (upd H a ob) { s with heap := h', toks := t' } :=
  I.write (x := a) (e := a) mu (.inl rfl) (fun b q hb z => (hs.2 b hb).trans z) he new
theorem dk_new {P : Program} {w : World} {H' : Hp} {h' : Heap} {kvs : List (Key × V)} {vs : List (Key × Value)} (z : kvs.length ≤ sizeLine) (hd : (a == sysModules) = false) (rel : KV kvs vs) (dd : h'.DictOf (mixKind P w) a vs) :
    ObjOk P w H' h' a (.dK kvs) := ⟨z, hd, vs, rel, dd⟩
/-- d[y] = v -/
theorem d_setItem {H' : Hp} {Q : Unit → Shared → Prop} (hu : A.units + 1 < cLine) (I : Inv X pins σ H s) (g : DPut H a y v H') (ry : RelV y u) (rv : RelV v r) (h : ∀ s', Inv X pins σ H' s' → Q () s') :
    wpAny (model X.prog X.w) A (setItem (.ref a) u r) Q E s := by
  rcases g with ⟨kvs, k, e, ey, l, eH⟩ | ⟨kvs, k, b, e, ey, eb, l, eH⟩
  · subst ey eH
    obtain ⟨z, hd, vs, rel, dd⟩ := dk_of I.hok e
    have hz : vs.length ≤ sizeLine := by rw [← rel.length]; exact z
    have hl : (putK kvs k v).length ≤ sizeLine := by have := length_putK kvs k v; omega
    refine wpAny_setItem_pairs (hsz := hz) (kV_is ry) dd fun h' dd' hs => h _ ?_
    have he : ∃ q, h'.get? a = some q := let ⟨q, _, _, hq, _⟩ := dd'; ⟨q, hq⟩
    exact d_write I (by rw [e]; exact True.intro) hs he (dk_new hl hd (rel.put k rv) dd')
  · subst ey eH
    cases (show u = Value.ref b from ry)
    obtain ⟨z, hd, xs, rel, dd⟩ := dt_of I.hok e
    have hz : xs.length ≤ sizeLine := by rw [← Paired.length rel]; exact z
    have hl : (putK kvs k v).length ≤ sizeLine := by have := length_putK kvs k v; omega
    refine wpAny_setItem_heap (hsz := hz) (tupleKind_room_in1 hu) (key_of I.hok eb) dd fun h' dd' hs => h _ ?_
    obtain ⟨q, es, ep, hq, h2, h3, h4, _, h5⟩ := dd'
    refine d_write I (by rw [e]; exact True.intro) hs ⟨q, hq⟩ ⟨hl, hd, _, (rel.put k eb rv).keeps fun c ys ec => ?_, q, es, ep, hq, h2, h3, h4, h5⟩
    rw [upd_ne (ne_of ec e (fun z => nomatch z))]
    exact ec
end

section
variable {X : Cx} {pins : List (Addr × Obj)} {σ : St} {H : Hp} {s : Shared} {a : Addr} {kvs : List (Key × V)} {k : Key} {u : Value} {A : Around} {E : Value → Shared → Prop}
end


section
variable {X : Cx} {o i e value : Expr} {pos pos' tpos : Pos} {td ty tv : TE}
end


theorem dk_empty {P : Program} {w : World} {H : Hp} (h : Heap) (hb : sysModules < h.objs.size) : ObjOk P w H (h.push { cls := .type "dict", data := .dict #[] }) h.objs.size (.dK []) :=
  ⟨Nat.zero_le _, beq_eq_false_iff_ne.mpr (Ne.symm (Nat.ne_of_lt hb)), [], .nil, Heap.DictOf.new h⟩
/-- {}, to be a dict of the kind that is wanted -/
def tDNewK : TE := fun _ H Q => ∀ p, H p = none → Q (.ref p) (upd H p (.dK []))
section
variable {X : Cx} {pos : Pos}
theorem pe_dnewK : PE X (.Dict [] [] pos) tDNewK := fun pins s σ H Q I h =>
  wpAny_Dict_empty ⟨.ref s.heap.objs.size, _, I.laid (a := s.heap.objs.size) (o := .dK []) (t' := s.toks) (fun _ _ q => Heap.get?_push_of_some _ q) (Nat.le_refl _) (dk_empty s.heap I.big), rfl, h _ (I.hok.fresh (Nat.le_refl _))⟩
end

/-- the pairs of a display, from the left -/
def tPairs : List (TE × TE) → St → Hp → (List (V × V) → Hp → Prop) → Prop
  | [], _, H, Q => Q [] H
  | (tk, tv) :: r, σ, H, Q => tk σ H fun x H1 => tv σ H1 fun y H2 => tPairs r σ H2 fun ps H3 => Q ((x, y) :: ps) H3
abbrev VV : List (V × V) → List (Value × Value) → Prop := Paired fun p q => RelV p.1 q.1 ∧ RelV p.2 q.2
def PPs (X : Cx) (pos : Pos) (keys : List (Option Expr)) (values : List Expr) (trs : List (TE × TE)) : Prop :=
  ∀ (pins : List (Addr × Obj)) (s : Shared) (σ : St) (H : Hp) (Q : List (V × V) → Hp → Prop), Inv X pins σ H s → tPairs trs σ H Q →
    wpAny (model X.prog X.w) X.A (evalPairs (pairTrees keys values X.env pos)) (fun vs s' => ∃ ps H', Inv X pins σ H' s' ∧ VV ps vs ∧ Q ps H') X.xe s
theorem pps_nil {X : Cx} {pos : Pos} : PPs X pos [] [] [] := fun pins s σ H Q I h => pairTrees_nil_walk ⟨[], H, I, .nil, h⟩
theorem pps_cons {X : Cx} {pos : Pos} {k v : Expr} {ks : List (Option Expr)} {vs : List Expr} {tk tv : TE} {trs : List (TE × TE)} (hk : PE X k tk) (hv : PE X v tv) (hr : PPs X pos ks vs trs) :
    PPs X pos (some k :: ks) (v :: vs) ((tk, tv) :: trs) := fun pins s σ H Q I h =>
  pairTrees_cons_walk (thn (hk pins s σ H _ I h) fun u s1 ⟨x, H1, I1, rx, q1⟩ => thn (hv pins s1 σ H1 _ I1 q1) fun w2 s2 ⟨y, H2, I2, ry, q2⟩ =>
    thn (hr pins s2 σ H2 _ I2 q2) fun ws s3 ⟨ps, H3, I3, rel, q3⟩ => ⟨(x, y) :: ps, H3, I3, .cons ⟨rx, ry⟩ rel, q3⟩)

def mergeK (kvs more : List (Key × V)) : List (Key × V) := more.foldl (fun acc kv => putK acc kv.1 kv.2) kvs
theorem KV.merge : ∀ {more : List (Key × V)} {rs : List (Key × Value)} {kvs : List (Key × V)} {vs : List (Key × Value)}, KV more rs → KV kvs vs → KV (mergeK kvs more) (merged vs rs) := by
  intro more rs kvs vs r
  unfold KV at r
  induction r generalizing kvs vs with
  | nil => intro q; exact q
  | @cons p q ps qs h t ih =>
    intro r0
    have e : KV (putK kvs p.1 p.2) (stored vs q.1 q.2) := by
      have := r0.put p.1 h.2
      rw [← h.1]; exact this
    exact ih e
theorem length_mergeK : ∀ (more kvs : List (Key × V)), (mergeK kvs more).length ≤ kvs.length + more.length
  | [], kvs => by show kvs.length ≤ kvs.length + 0; omega
  | p :: r, kvs => by
    have h1 := length_mergeK r (putK kvs p.1 p.2)
    have h2 := length_putK kvs p.1 p.2
    show (mergeK (putK kvs p.1 p.2) r).length ≤ _
    rw [List.length_cons]; omega
theorem carries_of {P : Program} {w : World} : ∀ {kvs : List (Key × V)} {ws : List (Value × Value)}, VV (kvs.map fun kv => (kV kv.1, kv.2)) ws → ∃ rs, Carries (mixKind P w) ws rs ∧ KV kvs rs
  | [], _, r => by rw [List.map_nil] at r; cases r; exact ⟨[], True.intro, .nil⟩
  | p :: kvs, _, r => by
    rw [List.map_cons] at r
    cases r with
    | @cons a b as bs h t =>
      obtain ⟨rs, c, q⟩ := carries_of (P := P) (w := w) t
      obtain ⟨b1, b2⟩ := b
      exact ⟨(p.1, b2) :: rs, ⟨kV_is h.1, rfl, c⟩, .cons ⟨rfl, h.2⟩ q⟩
/-- {k: v, ..} with keys ints and texts; the new dict stands empty while the pairs are made -/
def tDisp (trs : List (TE × TE)) : TE := fun σ H Q => ∀ p, H p = none → tPairs trs σ (upd H p (.dK [])) fun ps H2 => H2 p = some (.dK []) ∧ ∃ kvs : List (Key × V), ps = kvs.map (fun kv => (kV kv.1, kv.2)) ∧ kvs.length ≤ 15 ∧ Q (.ref p) (upd H2 p (.dK (mergeK [] kvs)))
theorem pe_disp {X : Cx} {pos : Pos} {keys : List (Option Expr)} {values : List Expr} {trs : List (TE × TE)} (h : PPs X pos keys values trs) (hall : keys.all (·.isSome) = true) (hl : keys.length = values.length) (h0 : keys ≠ [])
    (h15 : keys.length ≤ 15) : PE X (.Dict keys values pos) (tDisp trs) := by
  intro pins s σ H Q I q
  have hn := I.hok.fresh (Nat.le_refl s.heap.objs.size)
  have I1 := I.laid (a := s.heap.objs.size) (o := .dK []) (h' := s.heap.push { cls := .type "dict", data := .dict #[] }) (t' := s.toks) (fun _ _ q => Heap.get?_push_of_some _ q) (Nat.le_refl _) (dk_empty s.heap I.big)
  refine wpAny_Dict_walk (knd := mixKind X.prog X.w) hall hl h0 h15 (thn (h pins _ σ _ _ I1 (q _ hn)) fun ws s2 ⟨ps, H2, I2, rel, e, kvs, ep, lk, q2⟩ => ?_)
  subst ep
  obtain ⟨rs, c, rk⟩ := carries_of (P := X.prog) (w := X.w) rel
  obtain ⟨z, hd, vs0, r0, dd⟩ := dk_of I2.hok e
  cases r0
  refine ⟨rs, c, dd, fun h' dd' hs => ⟨.ref s.heap.objs.size, _, ?_, rfl, q2⟩⟩
  have hz : (mergeK [] kvs).length ≤ sizeLine := by
    have h1 := length_mergeK kvs []
    rw [List.length_nil] at h1
    rw [sizeLine_eq]; omega
  have he : ∃ q, h'.get? s.heap.objs.size = some q := let ⟨q, _, _, hq, _⟩ := dd'; ⟨q, hq⟩
  exact d_write I2 (by rw [e]; exact True.intro) hs he (dk_new hz hd (rk.merge .nil) dd')


section
variable {X : Cx} {pins : List (Addr × Obj)} {σ : St} {H : Hp} {s : Shared} {a : Addr} {y d : V} {u r : Value} {o : Option V} {A : Around} {E : Value → Shared → Prop}
end

section
variable {X : Cx} {o e f : Expr} {apos cpos : Pos} {td ty tx : TE}
end

section
variable {X : Cx} {pins : List (Addr × Obj)} {σ : St} {H : Hp} {s : Shared} {a : Addr} {kvs : List (Key × V)} {A : Around} {E : Value → Shared → Prop}
end


section
variable {X : Cx} {pins : List (Addr × Obj)} {σ : St} {H : Hp} {s : Shared} {a : Addr} {y : V} {u : Value} {A : Around} {E : Value → Shared → Prop}
end
end L2

namespace Att
open PySem PySem.W PySem.Calls PyProof.Rows

theorem ints_of_wellAll {P : Params} {h : Heap} : ∀ (ns : List Int) (vs : List Value), WellAll P h vs (ns.map WData.int) → IntsAre vs ns := by
  intro ns
  induction ns with
  | nil =>
    intro vs w
    rw [List.map_nil] at w
    cases w
    exact .nil
  | cons n ns ih =>
    intro vs w
    rw [List.map_cons] at w
    cases w with
    | cons a b =>
      cases a
      exact .cons _ _ (ih _ b)

theorem script_of {l : OpenLaw} {n : Nat} (hn : l.most = some n) {P : Params} {h : Heap} {args : List WData} {vals : List Value}
    (hpre : l.row.toRowW.claim.pre args = true) (hwl : WellAll P h vals args) :
    ∃ a vs ns, vals = [Value.ref a] ∧ args = [WData.list (ns.map WData.int)] ∧ h.get? a = some { cls := .type "list", data := .seq vs.toArray } ∧ IntsAre vs ns ∧ ns.length ≤ n := by
  have hsh : WShape.hasAll [] args [.list .int] = true := (pre_splitW hpre).1
  have hc : l.pre.holds [] { args := args } = true := (pre_splitW hpre).2
  obtain ⟨d, r, rfl, h1, h2⟩ := hasAllW_cons hsh
  obtain rfl := hasAllW_nil h2
  obtain ⟨xs, rfl, h3⟩ := hasW_list h1
  obtain ⟨ns, rfl⟩ := items_int h3
  have hlen : ns.length ≤ n := by
    unfold OpenLaw.pre at hc
    have h4 : (WTm.not (.lt (.lit (.int (n : Int))) (.len (.arg 0)))).holds [] { args := [.list (ns.map .int)] } = true := by
      have h4 := (holds_andW hc).1
      rw [hn] at h4
      exact h4
    have h5 := condW_of h4 (w_not (w_lt w_lit (w_len_list (w_arg rfl))))
    rw [List.length_map] at h5
    refine Nat.le_of_not_lt fun q => ?_
    have q' : (n : Int) < ((ns.length : Nat) : Int) := by omega
    first
      | (rw [decide_eq_true q'] at h5; exact absurd h5 (by decide))
      | (simp at h5; omega)
  cases hwl with
  | cons w1 w2 =>
    cases w2
    cases w1 with
    | list ho hall => exact ⟨_, _, ns, rfl, rfl, ho, ints_of_wellAll ns _ hall, hlen⟩

theorem post_true (l : OpenLaw) (args : List WData) : l.row.toRowW.claim.post args (.bool true) args = true :=
  postW_of (r := l.row.toRowW) (X := (true == true))
    (show WShape.has [] (.bool true) .bool = true by first | rfl | decide | simp [WShape.has, WShape.arms, WShape.armsAll])
    (show (WTm.eq .res (.lit (.bool true))).value [] { args := args, res := some (.bool true), after := args } = some (.bool (true == true)) from w_eq_bool (w_res rfl) w_lit) rfl

/-- the same from a codeAny of the CALL (for a layer whose function contracts speak of calls) -/
theorem attach_call {l : OpenLaw} {n : Nat} {q : Program} {loose : List Str} {XP : (Str → Option Value) → Heap → Prop} {YP : World → Heap → Prop} {d : DefRec}
    (hn : l.most = some n) (hdf : d.params.defaults = [])
    (call : ∀ (w : World) (s₀ s₁ : Shared) (mg mb : Str → Option Value) (fa : Addr) (o : Obj) (pm cd doc : Value) (a : Addr) (vs : List Value) (ns : List Int),
      Ground q loose [] XP w s₀ mg mb s₁.heap → YP w s₁.heap →
      s₁.heap.get? fa = some o → o.data = .func (docDef d.name d.params d.body d.scope pm cd doc) → s₁.heap.CodeRec cd d.name → mg d.name = some (.ref fa) →
      s₁.heap.get? a = some { cls := .type "list", data := .seq vs.toArray } → IntsAre vs ns → ns.length ≤ n → s₁.gens = #[] →
      codeAny (model l.prog w) callerA (.call (.ref fa) ⟨[.ref a], []⟩) (fun r s' => r = .ok (.ret (.bool true)) ∧ OldK s₁.heap s'.heap ∧ s'.os = s₁.os ∧ AllBare s'.gens) s₁) :
    WalkO q loose XP YP l.row.toRowW d [] (fun f vs => PySem.call f vs) := by
  intro w s₀ s₁ mg mb G Y fa o pm cd doc dV kV ho hd hcd hD hmg hg args vals as hpre hlay hrd hwl hlo
  obtain rfl : dV = .none := Dflts.none hD hdf
  obtain rfl : kV = .none := Dflts.noKw hD
  obtain ⟨a, vs, ns, rfl, rfl, hobj, hints, hlen⟩ := script_of hn hpre hwl
  refine enter_call (codeAny_mono (call w s₀ s₁ mg mb fa o pm cd doc a vs ns G Y ho (fd_plain hd) hcd hmg hobj hints hlen hg) fun r s' hq => ?_)
  obtain ⟨rfl, h2, h3, h4⟩ := hq
  exact ⟨.inl ⟨.bool true, .bool true, [], rfl, fun _ => rfl, .bool true, post_true l _, fun _ => ⟨List.Pairwise.nil, fun _ hm => (nomatch hm)⟩⟩, h2, h3, h4⟩

section
variable {prog : Program} {w : World} {A : Around} {E : Value → Shared → Prop} {s : Shared} {K : Frag}

end
end Att

namespace L2
open PySem PySem.Spec PyProof.Rows

theorem vals_ints : ∀ {vs : List Value} {ns : List Int}, IntsAre vs ns → Vals (ns.map V.int) vs
  | _, _, .nil => .nil
  | _, _, .cons n t h => .cons ⟨t, rfl⟩ (vals_ints h)

/-- nothing is tracked but the script, known to the object (or it is an object of the module) -/
def Only (H : Hp) : Prop := ∀ b, H b = none ∨ ∃ o xs, H b = some (.frz o (.lst xs))

/-- THE HEAD: the law's promise, at the heap behind the top. F, the promise of the law's def, may use that base is part of the heap (so K.In base, base.Ns mainGlobals mg stand in Mod) -/
theorem law_call {P : Program} {w : World} {K : PySem.W.Frag} {mg mb : Str → Option Value} {CX : CXT} {k : Nat} {fa a : Addr} {fd : FuncData} {x : Str} {sp : Sp} {s₁ : Shared} {vs : List Value} {ns : List Int}
    (KX : K.In s₁.heap) (hns : s₁.heap.Ns mainGlobals mg) (hb : s₁.heap.Ns builtinsNs mb) (hbb : ∀ x : Str, x ≠ "__name__" → mb x = bootBuiltins x) (hlim : s₁.heap.NoLimit) (hg : s₁.gens = #[])
    (ha : s₁.heap.get? a = some { cls := .type "list", data := .seq vs.toArray }) (hi : IntsAre vs ns) (hl : ns.length ≤ sizeLine) (hr : Room k callerA)
    (F : ∀ base : Heap, K.In base → base.Ns mainGlobals mg → FnOk P w K mg base CX k fa fd [x] sp) (hbind : ∀ (s : Shared) (u : Value), BindsTo s fd ⟨[u], []⟩ [(x, u)])
    (hsp : ∀ H : Hp, Only H → SqL K H a (ns.map V.int) → sp [.ref a] H (fun v _ => v = .bl true) fun _ _ _ => False)
    (hCX : ∀ H e s', CX [] H s₁ (fun _ _ _ => False) e s' → False) :
    codeAny (model P w) callerA (.call (.ref fa) ⟨[.ref a], []⟩) (fun r s' => r = .ok (.ret (.bool true)) ∧ OldK s₁.heap s'.heap ∧ s'.os = s₁.os ∧ AllBare s'.gens) s₁ := by
  have rv := vals_ints hi
  have lenV := hi.length
  have core : ∀ H : Hp, Only H → SqL K H a (ns.map V.int) → HOk P w H s₁.heap → (∀ b, H b ≠ none → b = a) → (H a ≠ none → K.lookup a = none) →
      codeAny (model P w) callerA (.call (.ref fa) ⟨[.ref a], []⟩) (fun r s' => r = .ok (.ret (.bool true)) ∧ OldK s₁.heap s'.heap ∧ s'.os = s₁.os ∧ AllBare s'.gens) s₁ := by
    intro H hO hS hok hA hK
    have base_of : ∀ {b : Addr} {o : Obj}, s₁.heap.get? b = some o → H b = none → (hidT s₁.heap H).get? b = some o := fun e n => hidT_get e n
    have noA : ∀ {b : Addr} {o : Obj} {es : Array DictEntry} {ep : Nat}, s₁.heap.get? b = some o → o.data = .dict es ep → H b = none := fun {b o es ep} e d => by
      cases q : H b with
      | none => rfl
      | some u =>
        have e' : b = a := hA b (by rw [q]; simp)
        subst e'
        rw [ha] at e; cases e
        have d' : Data.seq vs.toArray _ = Data.dict es ep := d
        cases d'
    have nsK : ∀ {b : Addr} {m : Str → Option Value}, s₁.heap.Ns b m → (hidT s₁.heap H).Ns b m := fun {b m} ⟨o, es, ep, e, d, r⟩ => ⟨o, es, ep, base_of e (noA e d), d, r⟩
    have hKb : K.In (hidT s₁.heap H) := fun b o e => base_of (KX b o e) (by
      cases q : H b with
      | none => rfl
      | some u =>
        have e' : b = a := hA b (by rw [q]; simp)
        subst e'
        rw [hK (by rw [q]; simp)] at e; cases e)
    have hM : Mod K mg (hidT s₁.heap H) := ⟨hKb, nsK hns, ⟨mb, nsK hb, hbb⟩, let ⟨mc, h1, h2⟩ := hlim; ⟨mc, nsK h1, h2⟩⟩
    have e0 : Env0 P w K mg (hidT s₁.heap H) callerA [] s₁ H := ⟨rfl, hM, fun b o e => of_hidT e, Nat.le_of_eq (hidT_size _ _), trivial, fun b hb => absurd (show b ∈ ([] : List Addr) from hb) (by simp), hok, .of_eq hg⟩
    refine codeAny_mono ((F _ hKb (nsK hns)).run callerA [] s₁ H ⟨[.ref a], []⟩ [.ref a] [.ref a] _ _ hr e0 (hbind s₁ (.ref a)) (.cons rfl .nil) (hsp H hO hS)) fun r s' h => ?_
    cases r with
    | error e => exact (hCX H e s' h).elim
    | ok fl =>
      cases fl with
      | next => exact False.elim h
      | brk => exact False.elim h
      | cont => exact False.elim h
      | ret u =>
        obtain ⟨v, H', os, bare, un, hok', r', q⟩ := h
        have q' : v = .bl true := q
        subst q'
        obtain rfl : u = Value.bool true := r'
        refine ⟨rfl, OldK.of_keep fun b o e => ?_, os, bare⟩
        cases q : H b with
        | none => exact un.keep b o e q (by intro z; exact absurd (show b ∈ ([] : List Addr) from z) (by simp)) (by simp)
        | some u =>
          rcases hO b with z | ⟨ob, xs, z⟩
          · rw [q] at z; cases z
          · have z2 := un.frzs b ob _ z
            obtain ⟨e1, _⟩ := hok b _ z
            obtain ⟨e2, _⟩ := hok' b _ z2
            rw [e] at e1; cases e1
            exact e2
  cases hk : K.lookup a with
  | some o =>
    have e := KX a o hk
    rw [ha] at e
    cases e
    refine core (fun _ => none) (fun _ => .inl rfl) (.inr ⟨_, vs.toArray, _, hk, rfl, rfl, rfl, by rw [List.size_toArray, lenV]; exact hl, by simpa using rv⟩) (fun b u z => by have z' : (none : Option HO) = some u := z; cases z') (fun b z => absurd rfl z) fun z => absurd rfl z
  | none =>
    refine core (fun b => if b = a then some (.frz { cls := .type "list", data := .seq vs.toArray } (.lst (ns.map V.int))) else none) (fun b => ?_) (.inl (.inr ⟨{ cls := .type "list", data := .seq vs.toArray }, if_pos rfl⟩)) (fun b u z => ?_) (fun b z => ?_) fun _ => hk
    · by_cases hb : b = a
      · exact .inr ⟨_, _, if_pos hb⟩
      · exact .inl (if_neg hb)
    · by_cases hb : b = a
      · have z' := (if_pos hb).symm.trans z
        cases z'
        subst hb
        exact ⟨ha, by rw [List.length_map]; exact hl, vs, _, rv, ha⟩
      · have z' := (if_neg hb).symm.trans z
        cases z'
    · by_cases hb : b = a
      · exact hb
      · exact absurd (if_neg hb) z
end L2

namespace L2
open PySem PySem.Spec PyProof.Rows

abbrev KOf {K : PySem.W.Frag} {h : Heap} (_ : K.In h) : PySem.W.Frag := K

/-- the goal that k_head leaves (case hc), from the law's promise. F gives the function object fd (K's own) once, then the promise over every base -/
theorem walk_of {l : PySem.W.OpenLaw} {n k : Nat} {q : Program} {loose : List Str} {XP : (Str → Option Value) → Heap → Prop} {YP : World → Heap → Prop} {d : DefRec} {K : Params → PySem.W.Frag} {CX : World → CXT} {sp : World → Sp} {x : Str}
    (hn : l.most = some n) (hn2 : n ≤ sizeLine) (hdf : d.params.defaults = []) (hr : Room k callerA)
    (hY : ∀ (w : World) (h : Heap), YP w h → (K w.params).In h)
    (F : ∀ (w : World) (mg : Str → Option Value) (fa : Addr) (h : Heap), (K w.params).In h → h.Ns mainGlobals mg → mg d.name = some (.ref fa) →
      ∃ fd : FuncData, (∀ (s : Shared) (u : Value), BindsTo s fd ⟨[u], []⟩ [(x, u)]) ∧
        ∀ base : Heap, (K w.params).In base → base.Ns mainGlobals mg → FnOk l.prog w (K w.params) mg base (CX w) k fa fd [x] (sp w))
    (hsp : ∀ (w : World) (H : Hp) (a : Addr) (ns : List Int), ns.length ≤ n → Only H → SqL (K w.params) H a (ns.map V.int) → sp w [.ref a] H (fun v _ => v = .bl true) fun _ _ _ => False)
    (hCX : ∀ (w : World) (H : Hp) (s : Shared) (e : Value) (s' : Shared), CX w [] H s (fun _ _ _ => False) e s' → False) :
    PySem.W.WalkO q loose XP YP l.row.toRowW d [] (fun f vs => PySem.call f vs) := by
  refine Att.attach_call hn hdf fun w s₀ s₁ mg mb fa o pm cd doc a vs ns G Y ho hd hcd hmg hobj hints hlen hg => ?_
  have KX := hY w _ Y
  obtain ⟨fd, hb, hF⟩ := F w mg fa _ KX G.T.g hmg
  exact law_call KX G.T.g G.T.b G.T.builtins G.T.nolimit hg hobj hints (Nat.le_trans hlen hn2) hr hF hb (fun H hO hS => hsp w H a ns hlen hO hS) fun H e s' => hCX w H s₁ e s'
end L2

/- THE LAST THEOREM (shape; LID, My.* are yours):
   My.Adr: a structure of the addresses that your layer names (classes, functions); My.Txt K t: a structure (Prop) of the equations over K;
   My.txt_mk : {K} {implicit addresses ..} (e1 : nsIn K mainGlobals "law" = some (some (.ref f))) (e2 : K.lookup f = some ⟨oc, od, .func (fnOf "law" "law" params body scope dV kV doc pm an cdv ct), sl⟩) (e3 : codeIn K cdv "law" = true) .. : ∃ t, My.Txt K t

set_option maxRecDepth 100000 in
set_option maxHeartbeats 0 in
theorem PySem.Challenge.cw_LID_holds : PySem.Challenge.rw_LID.Holds := by
  w_on; o_law; k_head; (case hw => w_witness2)
  k_fill
  refine L2.walk_of (l := PySem.Challenge.rw_LID) (n := 63) (k := 40) (x := "script") (CX := fun w => ..) (sp := fun _ => My.sp_law) rfl (by decide) rfl ⟨rfl, by decide, by decide⟩ (fun w h Y => PySem.W.kIn_of Y) ?F ?S ?C
  case F =>
    intro w mg fa h KX G hmg
    have T : ∃ t, My.Txt (L2.KOf KX) t := by
      dsimp only [L2.KOf]                          -- K must stand as «<heap const> w.params» for k_is
      refine' My.txt_mk ?e1 ?e2 ?e3 ..
      (case e1 => PySem.W.k_is)                    -- in the order: a name -> its address -> its object -> its parts
      (case e2 => PySem.W.k_is)
      ..
    obtain ⟨t, T⟩ := T
    have e0 := hmg.symm.trans (PySem.W.mg_of KX G T.law)
    cases e0                                       -- fa is the law's own address
    exact ⟨_, fun s u => .of_eq rfl, fun base kb nb => My.law_fn T kb nb⟩     -- if «.of_eq rfl» comes too early: refine' ⟨_, ?b, fun base kb nb => My.law_fn T kb nb⟩; exact fun s u => .of_eq rfl
  case S => exact fun w H a ns hl hO hS => ..
  case C => exact ..
(the tactic k_is has no namespace: write k_is) -/

namespace L2
open PySem PySem.Spec PyProof.Rows

def defArgs (s : Stmt) : Arguments := match s with
  | .FunctionDef _ a _ _ _ _ _ _ _ _ => a
  | _ => { posonlyargs := [], args := [], vararg := none, kwonlyargs := [], kw_defaults := [], kwarg := none, defaults := [] }
def defBody (s : Stmt) : List Stmt := match s with
  | .FunctionDef _ _ b _ _ _ _ _ _ _ => b
  | _ => []
def defScope (s : Stmt) : Scope := match s with
  | .FunctionDef _ _ _ _ _ _ sc _ _ _ => sc
  | _ => { kind := .function, names := [], isGenerator := false, isCoroutine := false }

abbrev CX0 : CXT := fun _ _ _ _ _ _ => False
abbrev E0 : XK := fun _ _ _ => False
theorem pass0 {X : Cx} : Passes CX0 X E0 := fun _ _ _ _ _ _ _ h => h.elim

structure Fun (K : PySem.W.Frag) (x qual : Str) (st : Stmt) (f : Addr) (fd : FuncData) : Prop where
  ex : ∃ (oc : Value) (od : Option Addr) (kV doc pm : Value) (an : Option Addr) (cdv ct : Value) (osl : Array (Option Value)),
    fd = PySem.W.fnOf x qual (defArgs st) (defBody st) (defScope st) .none kV doc pm an cdv ct ∧ K.lookup f = some ⟨oc, od, .func fd, osl⟩ ∧ PySem.W.codeIn K cdv qual = true
  kp : PySem.W.keepIn K (.ref f) = true
section
variable {P : Program} {w : World} {K : PySem.W.Frag} {mg : Str → Option Value} {base : Heap}
/-- THE RULE for a def: its body as a term of rules, and the reading of that term -/
theorem Fun.ok {x qual : Str} {st : Stmt} {f : Addr} {fd : FuncData} {N ps : List Str} {k : Nat} {sp : Sp} (F : Fun K x qual st f fd) (S : FnScope N ps (defScope st)) (len : ∀ vs H Q E, sp vs H Q E → vs.length = ps.length)
    (hbody : ∀ (cdv : Value) (A : Around) (outer : List Env) (s : Shared) (H : Hp) (vs : List V) (Q : VK) (E : XK), Room k (A.deeper (envOfC qual (defScope st) s.heap.objs.size f cdv)) → sp vs H Q E →
      ∃ t, PSs (cxOf CX0 P w K mg base N qual (defScope st) f cdv A outer s H E).nox (defBody st) t ∧ t { nx := fun _ H' => Q .non H', rt := Q } (start N vs) H) : FnOk P w K mg base CX0 (k + 1) f fd ps sp := by
  obtain ⟨oc, od, kV, doc, pm, an, cdv, ct, osl, rfl, lk, hcd⟩ := F.ex
  refine fn_of lk hcd S len fun A outer s H vs Q E hr hsp => ?_
  obtain ⟨t, h, q⟩ := hbody cdv A outer s H vs Q E hr hsp
  exact ⟨t, h.nox, q⟩
/-- how its arguments bind (no defaults): h is «fun _ _ _ _ _ _ us hl => match us, hl with | [_, _], _ => rfl», one _ a parameter -/
theorem Fun.binds {x qual : Str} {st : Stmt} {f : Addr} {fd : FuncData} {ps : List Str} (F : Fun K x qual st f fd)
    (h : ∀ (kV doc pm : Value) (an : Option Addr) (cdv ct : Value) (us : List Value), us.length = ps.length → bindArgs (PySem.W.fnOf x qual (defArgs st) (defBody st) (defScope st) .none kV doc pm an cdv ct) ⟨us, []⟩ = pure (ps.zip us)) : Binds K fd ps [] := by
  obtain ⟨oc, od, kV, doc, pm, an, cdv, ct, osl, rfl, lk, hcd⟩ := F.ex
  exact .all (h kV doc pm an cdv ct)
theorem fun_mk {x qual : Str} {st : Stmt} {f : Addr} {oc : Value} {od an : Option Addr} {osl : Array (Option Value)} {kV doc pm cdv ct : Value} (l : K.lookup f = some ⟨oc, od, .func (PySem.W.fnOf x qual (defArgs st) (defBody st) (defScope st) .none kV doc pm an cdv ct), osl⟩)
    (c : PySem.W.codeIn K cdv qual = true) (k : PySem.W.keepIn K (.ref f) = true) : Fun K x qual st f (PySem.W.fnOf x qual (defArgs st) (defBody st) (defScope st) .none kV doc pm an cdv ct) := ⟨⟨oc, od, kV, doc, pm, an, cdv, ct, osl, rfl, l, c⟩, k⟩
end
theorem hu_of {A : Around} {k : Nat} (hr : Room k A) : A.units + 1 < cLine := Nat.lt_of_le_of_lt (Nat.add_le_add_left (by decide : 1 ≤ 64) _) hr.units
section
variable {X : Cx}
theorem pv (i : Nat) {x : Str} {pos : Pos} (hN : X.N[i]? = some x := by rfl) (hv : Vis X.env.scope x := by first | exact Or.inl rfl | exact Or.inr (Or.inl rfl) | exact Or.inr (Or.inr rfl)) (hd : (x == ("__debug__" : Str)) = false := by decide)
    (hcd : (x == ("__classdict__" : Str)) = false := by decide) : PE X (.Name x pos) (tVar i) := pe_var hN hv hd hcd
end

theorem ite2 {c A B : Prop} [Decidable c] (h1 : c → A) (h2 : ¬ c → B) : if c then A else B := by
  by_cases h : c
  · rw [if_pos h]
    exact h1 h
  · rw [if_neg h]
    exact h2 h
/-- all that was tracked is as it was -/
def Same (H H' : Hp) : Prop := ∀ b o, H b = some o → H' b = some o
theorem Same.refl (H : Hp) : Same H H := fun _ _ h => h
theorem Same.trans {H H1 H2 : Hp} (a : Same H H1) (b : Same H1 H2) : Same H H2 := fun c o h => b c o (a c o h)
theorem Same.free {H H' : Hp} (e : Same H H') {l : Addr} (h : H' l = Option.none) : H l = Option.none := by
  cases q : H l with
  | none => rfl
  | some o =>
    rw [e l o q] at h
    cases h
theorem Same.seq {K : PySem.W.Frag} {H H' : Hp} {a : Addr} {xs : List V} (e : Same H H') (h : SqL K H a xs) : SqL K H' a xs := by
  rcases h with (h | ⟨o, h⟩) | h
  · exact .inl (.inl (e _ _ h))
  · exact .inl (.inr ⟨o, e _ _ h⟩)
  · exact .inr h

section
variable {κ : Type} [DecidableEq κ]
end
end L2

set_option Elab.async false
set_option linter.all false
set_option maxRecDepth 100000
namespace L2
open PySem PySem.Spec PyProof.Rows

def clOf (env : Env) (names : List (Str × NameKind)) (cs : List (Str × Addr)) : List (Str × Addr) :=
  names.foldl (fun cs y => if y.2 == NameKind.free then (y.1, (env.cells.lookup y.1).getD 0) :: cs else cs) cs
theorem clOf_loop {env : Env} : ∀ (names : List (Str × NameKind)) (cs : List (Str × Addr)), (∀ y ∈ names, y.2 = .free → ∃ c, env.cells.lookup y.1 = some c) →
    (forIn names cs fun (p : Str × NameKind) (cs : List (Str × Addr)) => (if (p.2 == NameKind.free) = true then do
      let a ← cellOf env p.1
      pure (ForInStep.yield ((p.1, a) :: cs))
     else pure (ForInStep.yield cs) : Sem (ForInStep (List (Str × Addr))))) = pure (clOf env names cs)
  | [], cs, _ => rfl
  | (n, k) :: r, cs, h => by
    have hr : ∀ y ∈ r, y.2 = NameKind.free → ∃ c, env.cells.lookup y.1 = some c := fun y hy => h y (List.mem_cons_of_mem _ hy)
    rw [List.forIn_cons]
    cases hk : (k == NameKind.free) with
    | true =>
      obtain ⟨c, hc⟩ := h (n, k) List.mem_cons_self (by simpa using hk)
      have e1 : cellOf env n = pure c := by
        have hc' : env.cells.lookup n = some c := hc
        unfold cellOf; rw [hc']
      have e2 := clOf_loop r ((n, c) :: cs) hr
      have e3 : clOf env ((n, k) :: r) cs = clOf env r ((n, c) :: cs) := by
        have hc' : env.cells.lookup n = some c := hc
        show List.foldl _ (if (k == NameKind.free) = true then (n, (env.cells.lookup n).getD 0) :: cs else cs) r = _
        rw [hk, hc']; rfl
      rw [e3, ← e2]
      simp only [hk, if_true, e1]
      rfl
    | false =>
      have e2 := clOf_loop r cs hr
      have e3 : clOf env ((n, k) :: r) cs = clOf env r cs := by
        show List.foldl _ (if (k == NameKind.free) = true then _ else cs) r = _
        rw [hk]; rfl
      rw [e3, ← e2]
      simp only [hk, Bool.false_eq_true, if_false]
      rfl
theorem closureFor_ok {scope : Scope} {env : Env} (h : ∀ y ∈ scope.names, y.2 = .free → ∃ c, env.cells.lookup y.1 = some c) : closureFor scope env = pure (clOf env scope.names []) := by
  have := clOf_loop scope.names [] h
  unfold closureFor
  simp only [bind_pure]
  exact this
theorem clOf_sub {env : Env} : ∀ (names : List (Str × NameKind)) (cs : List (Str × Addr)), (∀ y ∈ names, y.2 = .free → ∃ c, env.cells.lookup y.1 = some c) → (∀ x c, cs.lookup x = some c → env.cells.lookup x = some c) →
    ∀ x c, (clOf env names cs).lookup x = some c → env.cells.lookup x = some c
  | [], cs, _, hc => hc
  | (n, k) :: r, cs, h, hc => by
    refine clOf_sub r _ (fun y hy => h y (List.mem_cons_of_mem _ hy)) ?_
    intro x c e
    dsimp only at e
    split at e
    · rename_i hk
      obtain ⟨c', hc'⟩ := h (n, k) List.mem_cons_self (by simpa using hk)
      have hc' : env.cells.lookup n = some c' := hc'
      rw [List.lookup_cons] at e
      cases hx : (x == n) with
      | true =>
        rw [hx] at e
        have e' : (env.cells.lookup n).getD 0 = c := Option.some.inj e
        have hxn : x = n := by simpa using hx
        rw [hxn, hc', ← e', hc']; rfl
      | false =>
        rw [hx] at e
        exact hc x c e
    · exact hc x c e
theorem clOf_has {env : Env} {x : Str} : ∀ (names : List (Str × NameKind)) (cs : List (Str × Addr)), ((x, NameKind.free) ∈ names ∨ ∃ c, cs.lookup x = some c) → ∃ c, (clOf env names cs).lookup x = some c
  | [], cs, h => by
    rcases h with h | h
    · simp at h
    · exact h
  | (n, k) :: r, cs, h => by
    refine clOf_has r _ ?_
    rcases h with h | ⟨c, h⟩
    · rcases List.mem_cons.mp h with e | h
      · cases e
        refine .inr ⟨(env.cells.lookup x).getD 0, ?_⟩
        simp
      · exact .inl h
    · refine .inr ?_
      dsimp only
      split
      · rw [List.lookup_cons]
        cases (x == n) with
        | true => exact ⟨_, rfl⟩
        | false => exact ⟨c, h⟩
      · exact ⟨c, h⟩
theorem relabel_free {env : Env} : ∀ {names : List (Str × NameKind)} {x : Str}, names.lookup x = some .free →
    (names.map fun (n, k) => if (k == NameKind.free && env.scope.kind == .function && env.kindOf n == some .cell) then (n, NameKind.cell) else (n, k)).lookup x = some .cell ∨
    (names.map fun (n, k) => if (k == NameKind.free && env.scope.kind == .function && env.kindOf n == some .cell) then (n, NameKind.cell) else (n, k)).lookup x = some .free
  | [], _, h => by simp at h
  | (n, k) :: r, x, h => by
    have ih := @relabel_free env r x
    rw [List.map_cons]
    cases hx : x == n with
    | true =>
      simp only [List.lookup_cons, hx] at h
      cases h
      by_cases hc : (NameKind.free == NameKind.free && env.scope.kind == .function && env.kindOf n == some .cell) = true
      · left
        show List.lookup x ((if (NameKind.free == NameKind.free && env.scope.kind == .function && env.kindOf n == some .cell) = true then (n, NameKind.cell) else (n, NameKind.free)) :: _) = _
        rw [if_pos hc]; simp [List.lookup_cons, hx]
      · right
        show List.lookup x ((if (NameKind.free == NameKind.free && env.scope.kind == .function && env.kindOf n == some .cell) = true then (n, NameKind.cell) else (n, NameKind.free)) :: _) = _
        rw [if_neg hc]; simp [List.lookup_cons, hx]
    | false =>
      simp only [List.lookup_cons, hx] at h
      have ih := ih h
      have e : ∀ l, List.lookup x ((if (k == NameKind.free && env.scope.kind == .function && env.kindOf n == some .cell) = true then (n, NameKind.cell) else (n, k)) :: l) = List.lookup x l := fun l => by
        split <;> simp [List.lookup_cons, hx]
      show List.lookup x ((if (k == NameKind.free && env.scope.kind == .function && env.kindOf n == some .cell) = true then (n, NameKind.cell) else (n, k)) :: _) = _ ∨ List.lookup x ((if (k == NameKind.free && env.scope.kind == .function && env.kindOf n == some .cell) = true then (n, NameKind.cell) else (n, k)) :: _) = _
      rw [e]
      exact ih
/-- kinds in the block's scope come from the scope's -/
theorem relabel_back {env : Env} : ∀ {names : List (Str × NameKind)} {x : Str}, 
    ((names.map fun (n, k) => if (k == NameKind.free && env.scope.kind == .function && env.kindOf n == some .cell) then (n, NameKind.cell) else (n, k)).lookup x = some .cell ∨
    (names.map fun (n, k) => if (k == NameKind.free && env.scope.kind == .function && env.kindOf n == some .cell) then (n, NameKind.cell) else (n, k)).lookup x = some .free) →
    names.lookup x = some .free ∨ names.lookup x = some .cell
  | [], x, h => by simp at h
  | (n, k) :: r, x, h => by
    have ih := @relabel_back env r x
    cases hx : x == n with
    | true =>
      rw [List.lookup_cons, hx]
      show some k = _ ∨ some k = _
      have e : ∀ l, List.lookup x ((if (k == NameKind.free && env.scope.kind == .function && env.kindOf n == some .cell) = true then (n, NameKind.cell) else (n, k)) :: l) = if (k == NameKind.free && env.scope.kind == .function && env.kindOf n == some .cell) = true then some .cell else some k := fun l => by
        split <;> simp [List.lookup_cons, hx]
      rw [List.map_cons] at h
      have h : List.lookup x ((if (k == NameKind.free && env.scope.kind == .function && env.kindOf n == some .cell) = true then (n, NameKind.cell) else (n, k)) :: _) = some .cell ∨ List.lookup x ((if (k == NameKind.free && env.scope.kind == .function && env.kindOf n == some .cell) = true then (n, NameKind.cell) else (n, k)) :: _) = some .free := h
      rw [e] at h
      by_cases hc : (k == NameKind.free && env.scope.kind == .function && env.kindOf n == some .cell) = true
      · left
        simp at hc
        rw [hc.1.1]
      · rw [if_neg hc] at h
        rcases h with h | h
        · exact .inr h
        · exact .inl h
    | false =>
      rw [List.lookup_cons, hx]
      have e : ∀ l, List.lookup x ((if (k == NameKind.free && env.scope.kind == .function && env.kindOf n == some .cell) = true then (n, NameKind.cell) else (n, k)) :: l) = List.lookup x l := fun l => by
        split <;> simp [List.lookup_cons, hx]
      rw [List.map_cons] at h
      have h : List.lookup x ((if (k == NameKind.free && env.scope.kind == .function && env.kindOf n == some .cell) = true then (n, NameKind.cell) else (n, k)) :: _) = some .cell ∨ List.lookup x ((if (k == NameKind.free && env.scope.kind == .function && env.kindOf n == some .cell) = true then (n, NameKind.cell) else (n, k)) :: _) = some .free := h
      rw [e] at h
      exact ih h

section
variable {prog : Program} {w : World} {A : Around} {E : Value → Shared → Prop} {R : Result → Shared → Prop} {s : Shared}
theorem compLoop_any {elt target iter : Expr} {ifs : List Expr} {scope : Scope} {pos : Pos} {it acc : Value} {env : Env} (I : Nat → Shared → Prop)
    (turn : ∀ n s, I n s → wpAny (model prog w) A (pyNext it) (fun r s₁ => match r with
      | none => R (.ok .next) s₁
      | some v => wpAny (model prog w) A (letOwnedTupleGo target it v) (fun _ s₁' => wpAny (model prog w) A (assign target env v) (fun _ s₂ =>
          wpAny (model prog w) A (forIn ifs true fun c r => if r = true then do let ok ← isTrue c env (eval c env); pure (ForInStep.yield ok) else pure (ForInStep.yield r)) (fun ok s₃ =>
            if ok = true then wpAny (model prog w) A (eval elt env) (fun x s₄ =>
              wpAny (model prog w) A (call (.builtin "list.append") [acc, x]) (fun _ s₅ => ∃ m, m < n ∧ I m s₅) (notedBy (model prog w) A env fun e s' => R (.error e) s') s₄) (notedBy (model prog w) A env fun e s' => R (.error e) s') s₃
            else ∃ m, m < n ∧ I m s₃) (notedBy (model prog w) A env fun e s' => R (.error e) s') s₂) (notedBy (model prog w) A env fun e s' => R (.error e) s') s₁') (notedBy (model prog w) A env fun e s' => R (.error e) s') s₁) (notedBy (model prog w) A env fun e s' => R (.error e) s') s)
    (n : Nat) (h : I n s) :
    codeAny (model prog w) A (.compLoop (.ListComp elt [⟨target, iter, ifs, 0⟩] scope pos) 0 it acc env) R s := by
  refine codeAny_loop rfl I (fun n s hI => ?_) n h
  show wpAny _ A ((compTurn (.ListComp elt [⟨target, iter, ifs, 0⟩] scope pos) 0 it acc env).onRaise (fun x => do noteFrame x env; theTreesLotGoes x)) _ _ s
  refine wpAny_noted ?_
  rw [compTurn_list]
  refine wpAny_bind (wpAny_standAt (wpAny_bind (wpAny_mono (turn n s hI) (fun r s₁ h₁ => ?_) fun _ _ h' => h')))
  cases r with
  | none => exact wpAny_pure h₁
  | some v =>
    refine wpAny_bind (wpAny_mono h₁ (fun _ s₁' h₁' => ?_) fun _ _ h' => h')
    refine wpAny_bind (wpAny_mono h₁' (fun _ s₂ h₂ => wpAny_bind (wpAny_mono h₂ (fun ok s₃ h₃ => ?_) fun _ _ h' => h')) fun _ _ h' => h')
    cases ok with
    | false => exact wpAny_pure ⟨rfl, h₃⟩
    | true =>
      exact wpAny_bind (wpAny_bind (wpAny_mono h₃ (fun x s₄ h₄ => wpAny_bind (wpAny_mono h₄ (fun _ s₅ h₅ => wpAny_pure (wpAny_pure ⟨rfl, h₅⟩)) fun _ _ h' => h')) fun _ _ h' => h'))
end

/-- its context: the block's names N', its frame at C, the iterator's records ex -/
def cxComp (X : Cx) (scope : Scope) (N' : List Str) (C : Addr) (ex : List Addr) (s : Shared) (H : Hp) : Cx :=
  { X with N := N', s₀ := s, H₀ := H, env := compEnvC scope (clOf X.env scope.names []) C X.env, outer := X.stack, stack := X.stack, ex := ex, fn := fun _ => false, pn := [], xe := fun _ _ => False }
/-- cap: for each of the block's names the slot of the def's name that it means, none for its own -/
def capOk (N N' : List Str) (cap : List (Option Nat)) (names : List (Str × NameKind)) : Bool :=
  (N'.zip cap).all fun p => match p.2 with
    | none => true
    | some j => N[j]? == some p.1 && names.lookup p.1 == some .free
structure CompOk (X : Cx) (scope : Scope) (N' : List Str) (cap : List (Option Nat)) : Prop where
  kind : scope.kind = .function
  nocell : ∀ y ∈ scope.names, y.2 ≠ .cell
  names : ∀ y ∈ scope.names, y.2 = .local → scope.names.lookup y.1 = some .local
  freeB : (scope.names.all fun y => y.2 != .free || X.env.scope.names.lookup y.1 == some .cell || X.env.scope.names.lookup y.1 == some .free) = true
  len : cap.length = N'.length
  cap : capOk X.N N' cap scope.names = true
theorem CompOk.free {X : Cx} {scope : Scope} {N' : List Str} {cap : List (Option Nat)} (c : CompOk X scope N' cap) : ∀ y ∈ scope.names, y.2 = .free → (X.env.scope.names.lookup y.1 = some .cell ∨ X.env.scope.names.lookup y.1 = some .free) := fun y hy hf => by
  have h := List.all_eq_true.mp c.freeB y hy
  rw [hf] at h
  simpa using h
/-- the block's names at the start of each turn -/
def capSt (cap : List (Option Nat)) (σ : St) : St := cap.map fun o => match o with
  | none => none
  | some j => (σ[j]?).join
theorem capOk_get {N N' : List Str} {cap : List (Option Nat)} {names : List (Str × NameKind)} (h : capOk N N' cap names = true) {i : Nat} {x : Str} {j : Nat} (h1 : N'[i]? = some x) (h2 : cap[i]? = some (some j)) :
    N[j]? = some x ∧ names.lookup x = some .free := by
  have hm : (x, some j) ∈ N'.zip cap := by
    refine List.mem_of_getElem? (i := i) ?_
    rw [List.getElem?_zip_eq_some]
    exact ⟨h1, h2⟩
  have := List.all_eq_true.mp h _ hm
  simpa using this
section
variable {X : Cx} {pins : List (Addr × Obj)} {σ : St} {H : Hp} {s : Shared} {scope : Scope} {N' : List Str} {cap : List (Option Nat)}
theorem CompOk.clos (c : CompOk X scope N' cap) (I : Inv X pins σ H s) : ∀ y ∈ scope.names, y.2 = .free → ∃ a, X.env.cells.lookup y.1 = some a := fun y hy hf => I.ok.has y.1 (c.free y hy hf)
/-- the block's frame laid: the invariant inside -/
theorem comp_start (c : CompOk X scope N' cap) (I : Inv X pins σ H s) {fp : List Addr} (hf : ∀ b ∈ fp, FpOk X pins H b) (ho : ∀ b ∈ fp, ∃ o, s.heap.get? b = some o) {h₁ : Heap} {t : Nat} (hns : h₁.Ns s.heap.objs.size (fun _ => none))
    (hsb : ∀ b o, s.heap.get? b = some o → h₁.get? b = some o) : Inv (cxComp X scope N' s.heap.objs.size fp s H) [] (capSt cap σ) H { s with heap := h₁, toks := t } := by
  have hcl := c.clos I
  have sub := clOf_sub (env := X.env) scope.names [] hcl (fun x c e => by simp at e)
  have CI : ∀ x a, (clOf X.env scope.names []).lookup x = some a → X.env.cells.lookup x = some a := sub
  have cz : ∀ x a, (clOf X.env scope.names []).lookup x = some a → a < s.heap.objs.size := fun x a e => by
    obtain ⟨v, o, q, _⟩ := I.cell x a (CI x a e)
    exact Heap.lt_size q
  have fz : ∀ b ∈ fp, b ≠ s.heap.objs.size → True := fun _ _ _ => trivial
  refine ⟨⟨I.ok.mod, c.kind, I.ok.glob, I.ok.blt, Nat.le_refl _, fun x y a h1 h2 => I.ok.inj x y a (CI x a h1) (CI y a h2), fun x hx => ?_, fun x a h => (by cases h), I.ok.hd, I.ok.frames, .inl rfl, fun b hb => ?_, I.bs, Nat.le_trans I.ok.bsz I.sz, fun b o e hb => ?_, fun b hb => ?_, I.stack, I.stkFree⟩,
    rfl, I.bare, Un.kept hsb, ⟨_, hns, fun i x v h1 h2 h3 => ?_⟩, fun x a e => ?_, I.hok.fresh (Nat.le_refl _), fun x a e => I.freeC x a (CI x a e), fun p hp => by simp [cxComp] at hp, I.hok.kept hsb, ?_⟩
  · have hx : (relabel scope X.env).names.lookup x = some .cell ∨ (relabel scope X.env).names.lookup x = some .free := hx
    rcases relabel_back hx with h | h
    · exact clOf_has (env := X.env) scope.names [] (.inl (PySem.mem_of_lookup h))
    · exact absurd rfl (c.nocell _ (PySem.mem_of_lookup h))
  · obtain ⟨o, e⟩ := ho b hb
    exact ⟨Nat.ne_of_lt (Heap.lt_size e), fun x a e => (hf b hb).2.2.2.2.1 x a (CI x a e)⟩
  · rcases (hf b hb).2.2.2.1 with z | z
    · exact I.ok.noex b o e z
    · exact absurd (Nat.lt_of_lt_of_le (Heap.lt_size e) (Nat.le_trans I.ok.bsz z)) (Nat.lt_irrefl _)
  · intro z
    rcases List.mem_cons.mp (I.stkSub b z) with q | q
    · exact (hf b hb).2.1 q
    · exact (hf b hb).2.2.1 q
  · have hi : i < cap.length := by
      unfold capSt at h2
      have := (List.getElem?_eq_some_iff.mp h2).1
      simpa using this
    obtain ⟨j, hj, hv⟩ : ∃ j, cap[i]? = some (some j) ∧ σ[j]? = some (some v) := by
      unfold capSt at h2
      rw [List.getElem?_map] at h2
      cases e : cap[i]? with
      | none => rw [e] at h2; cases h2
      | some o =>
        rw [e] at h2
        cases o with
        | none => cases h2
        | some j =>
          refine ⟨j, rfl, ?_⟩
          have h2 : (σ[j]?).join = some v := Option.some.inj h2
          cases q : σ[j]? with
          | none => rw [q] at h2; cases h2
          | some y => rw [q] at h2; cases y with
            | none => cases h2
            | some z => exact congrArg some h2
    obtain ⟨hN, hfree⟩ := capOk_get c.cap h1 hj
    have hk := c.free (x, .free) (PySem.mem_of_lookup hfree) rfl
    obtain ⟨m, hm, hl⟩ := I.loc
    obtain ⟨u, ru, l⟩ := hl j x v hN hv (hk.elim (fun z => .inr (.inl z)) fun z => .inr (.inr z))
    refine ⟨u, ru, .inr ⟨relabel_free hfree, ?_⟩⟩
    rcases l with ⟨k, _⟩ | ⟨_, a, ea, ca⟩
    · have k : X.env.scope.names.lookup x = some .local := k
      rcases hk with z | z <;> · rw [z] at k; cases k
    · obtain ⟨a', ea'⟩ := clOf_has (env := X.env) (x := x) scope.names [] (.inl (PySem.mem_of_lookup hfree))
      have := CI x a' ea'
      rw [ea] at this; cases this
      obtain ⟨o, q, d⟩ := ca
      exact ⟨a, ea', o, hsb a o q, d⟩
  · obtain ⟨v, o, q, d⟩ := I.cell x a (CI x a e)
    exact ⟨v, o, hsb a o q, d⟩
  · unfold capSt
    rw [List.length_map]
    exact c.len
end
/-- the tests of a comprehension -/
def PIfs (Y : Cx) (ifs : List Expr) (t : TT) : Prop :=
  ∀ (pins : List (Addr × Obj)) (s : Shared) (σ : St) (H : Hp) (Q : Bool → Hp → Prop) (E : Value → Shared → Prop), Inv Y pins σ H s → t σ H Q →
    wpAny (model Y.prog Y.w) Y.A (forIn ifs true fun c r => if r = true then do let ok ← isTrue c Y.env (eval c Y.env); pure (ForInStep.yield ok) else pure (ForInStep.yield r)) (TP Y pins σ Q) E s
def tTrue : TT := fun _ H Q => Q true H
theorem pifs_nil {Y : Cx} : PIfs Y [] tTrue := fun pins s σ H Q E I h => wpAny_tests_nil ⟨H, I, h⟩
theorem pifs_one {Y : Cx} {c : Expr} {t : TT} (h : PT Y.nox c t) : PIfs Y [c] t := fun pins s σ H Q E I hw =>
  wpAny_tests_one (wpAny_mono (h pins s σ H Q (I.wish _) hw) (fun _ _ ⟨H', I', q⟩ => ⟨H', I'.unwish, q⟩) fun _ _ z => False.elim z)

/-- a target that stores into the slots of own alone -/
def GKp (own : Nat → Bool) (g : TG) : Prop := ∀ v σ H Q, g v σ H Q → g v σ H fun σ' H' => (σ'.length = σ.length ∧ ∀ i, own i = false → σ'[i]? = σ[i]?) ∧ Q σ' H'
theorem gkp_name {own : Nat → Bool} {j : Nat} (h : own j = true := by rfl) : GKp own (gName j) := fun v σ H Q q =>
  ⟨⟨List.length_set .., fun i hi => List.getElem?_set_ne (fun e => by rw [e, hi] at h; cases h)⟩, q⟩
def ownOf (cap : List (Option Nat)) (i : Nat) : Bool := cap[i]? == some none
/-- what a comprehension reads: W by the turn, a measure, the items so far and the heap (the new list at D among it) -/
def tComp (cap : List (Option Nat)) (wi : TI) (g : TG) (tt : TT) (te : TE) : TE := fun σ H Q => wi σ H fun J H1 => ∀ D, H1 D = none →
  ∃ W : Nat → Nat → List V → Hp → Prop, (∃ m, W 0 m [] (upd H1 D (.lst []))) ∧ ∀ i m ys H2, W i m ys H2 → H2 D = some (.lst ys) ∧
    ((J.stop i H2 ∧ Q (.ref D) H2) ∨ (J.go i H2 ∧ ys.length < sizeLine ∧ ∃ N : List V → Hp → Prop, (∀ ys' H', N ys' H' → ∃ m', m' < m ∧ W (i + 1) m' ys' H') ∧ ∀ x H3, J.yld i H2 x H3 → g x (capSt cap σ) H3 fun σ4 H4 => tt σ4 H4 fun b H5 =>
      if b = true then te σ4 H5 fun y H6 => H6 D = some (.lst ys) ∧ N (ys ++ [y]) (upd H6 D (.lst (ys ++ [y]))) else N ys H5))
section
variable {X : Cx} {pins : List (Addr × Obj)} {σ : St} {H : Hp} {s : Shared} {scope : Scope} {N' : List Str} {cap : List (Option Nat)}
theorem comp_core {tg elt iter : Expr} {ifs : List Expr} {pos : Pos} {g : TG} {tt : TT} {te : TE} {it : Addr} {fp : List Addr} {tn : Nat → Heap → Prop} {J : It} {RR : Value → Addr → Result → Shared → Prop} {Q : VK} {E : Value → Shared → Prop}
    (c : CompOk X scope N' cap) (hc : X.calm = true) (I : Inv X pins σ H s) (T : Turn X.prog X.w X.K tg J fp it tn) (st : tn 0 s.heap) (hf : ∀ b ∈ fp, FpOk X pins H b)
    (hg : ∀ C ex s H, PG (cxComp X scope N' C ex s H) tg g) (hk : GKp (ownOf cap) g) (hi : ∀ C ex s H, PIfs (cxComp X scope N' C ex s H) ifs tt) (he : ∀ C ex s H, PE (cxComp X scope N' C ex s H) elt te)
    (h : ∀ D, H D = none →
      ∃ W : Nat → Nat → List V → Hp → Prop, (∃ m, W 0 m [] (upd H D (.lst []))) ∧ ∀ i m ys H2, W i m ys H2 → H2 D = some (.lst ys) ∧
        ((J.stop i H2 ∧ Q (.ref D) H2) ∨ (J.go i H2 ∧ ys.length < sizeLine ∧ ∃ N : List V → Hp → Prop, (∀ ys' H', N ys' H' → ∃ m', m' < m ∧ W (i + 1) m' ys' H') ∧ ∀ x H3, J.yld i H2 x H3 → g x (capSt cap σ) H3 fun σ4 H4 => tt σ4 H4 fun b H5 =>
          if b = true then te σ4 H5 fun y H6 => H6 D = some (.lst ys) ∧ N (ys ++ [y]) (upd H6 D (.lst (ys ++ [y]))) else N ys H5)))
    (hRR : ∀ D C H' s', Inv X pins σ H' s' → FpOk X pins H' C → (∃ m, s'.heap.Ns C m) → Q (.ref D) H' → RR (.ref D) C (.ok .next) s') :
    wpAny (model X.prog X.w) X.A (newList []) (fun acc s₃ => wpAny (model X.prog X.w) X.A (newFunctionEnv scope X.env.globals (clOf X.env scope.names []) [] X.env.qual none .none (some X.env)) (fun cenv s₄ =>
      codeAny (model X.prog X.w) X.A (.compStart (.ListComp elt [⟨tg, iter, ifs, 0⟩] scope pos) 0 (.ref it) acc { cenv with scope := relabel scope X.env }) (RR acc cenv.locals) s₄) E s₃) E s := by
  refine wpAny_newObj_type (wpAny_newFunctionEnv c.nocell (by intro y hy; simp at hy) (fun h₁ hns₁ hsb₁ => ?_) c.kind)
  dsimp only at hns₁ hsb₁ ⊢
  have hD : H s.heap.objs.size = none := I.hok.fresh (Nat.le_refl _)
  have I1 : Inv X pins σ (upd H s.heap.objs.size (.lst [])) { s with heap := s.heap.push { cls := .type "list", dict := none, data := .seq ([] : List Value).toArray } } :=
    I.laid (t' := s.toks) (fun b u e => Heap.get?_push_of_some _ e) (Nat.le_refl _) ⟨Nat.zero_le _, [], 0, .nil, Heap.get?_push_size _ rfl⟩
  have ob : ∀ b ∈ fp, ∃ o, s.heap.get? b = some o ∧ ∀ v, o.data ≠ .cell v := T.obj 0 _ st
  have hf1 : ∀ b ∈ fp, FpOk X pins (upd H s.heap.objs.size (.lst [])) b := fun b hb => by
    obtain ⟨o, e, _⟩ := ob b hb
    have : b ≠ s.heap.objs.size := Nat.ne_of_lt (Heap.lt_size e)
    exact ⟨by rw [upd_ne this]; exact (hf b hb).1, (hf b hb).2⟩
  generalize hs1 : ({ s with heap := s.heap.push { cls := .type "list", dict := none, data := .seq ([] : List Value).toArray } } : Shared) = s1 at I1
  have hh : s.heap.push { cls := .type "list", dict := none, data := .seq ([] : List Value).toArray } = s1.heap := by rw [← hs1]
  have old1 : ∀ b o, s.heap.get? b = some o → s1.heap.get? b = some o := fun b o e => by rw [← hh]; exact Heap.get?_push_of_some _ e
  rw [hh] at hns₁ hsb₁ ⊢
  have old2 : ∀ b o, s1.heap.get? b = some o → h₁.get? b = some o := fun b o e => hsb₁.extBut b o (Nat.ne_of_lt (Heap.lt_size e)) (Heap.get?_push_of_some _ e)
  have J0 : Inv (cxComp X scope N' s1.heap.objs.size fp s1 (upd H s.heap.objs.size (.lst []))) [] (capSt cap σ) (upd H s.heap.objs.size (.lst [])) { s1 with heap := h₁, toks := s.toks + ([] : List (Str × Value)).length } :=
    comp_start c I1 hf1 (fun b hb => (ob b hb).imp fun o e => old1 b o e.1) hns₁ old2
  have es4 : ({ heap := h₁, gens := s.gens, drawn := s.drawn, toks := s.toks + ([] : List (Str × Value)).length, os := s.os } : Shared) = { s1 with heap := h₁, toks := s.toks + ([] : List (Str × Value)).length } := by rw [← hs1]
  have st4 : tn 0 ({ s1 with heap := h₁, toks := s.toks + ([] : List (Str × Value)).length } : Shared).heap := T.keep 0 _ _ st fun b hb o e => old2 b o (old1 b o e)
  rw [es4]
  generalize ({ s1 with heap := h₁, toks := s.toks + ([] : List (Str × Value)).length } : Shared) = s4 at J0 st4 ⊢
  obtain ⟨W, ⟨m0, w0⟩, step⟩ := h _ hD
  generalize hY : cxComp X scope N' s1.heap.objs.size fp s1 (upd H s.heap.objs.size (.lst [])) = Y at J0
  have stat : ∀ {H' : Hp}, (∀ b ∈ fp, H' b = none) → ∀ b ∈ fp, FpOk Y [] H' b := fun hn b hb => by
    obtain ⟨o, e, _⟩ := ob b hb
    have e1 := old1 b o e
    subst hY
    refine ⟨hn b hb, Nat.ne_of_lt (Heap.lt_size e1), fun z => ?_, .inl hb, fun x a q => (J0.ok.exf b hb).2 x a q, fun p hp => by simp [cxComp] at hp⟩
    exact J0.ok.exfs b hb z
  have loop : codeAny (model X.prog X.w) X.A (.compLoop (.ListComp elt [⟨tg, iter, ifs, 0⟩] scope pos) 0 (.ref it) (.ref s.heap.objs.size) (compEnvC scope (clOf X.env scope.names []) s1.heap.objs.size X.env)) (RR (.ref s.heap.objs.size) s1.heap.objs.size) s4 := by
    refine compLoop_any (fun n s' => ∃ i ys H', Inv Y [] (capSt cap σ) H' s' ∧ tn i s'.heap ∧ (∀ b ∈ fp, H' b = none) ∧ W i n ys H') ?_ m0 ⟨0, [], _, J0, st4, fun b hb => (hf1 b hb).1, w0⟩
    rintro n s3 ⟨i, ys, H3, I3, st3, fr3, w3⟩
    obtain ⟨hDl, alt⟩ := step i n ys H3 w3
    rcases alt with ⟨stop, q⟩ | ⟨go, hlen, NN, hNN, stp⟩
    · have := T.done Y (by rw [← hY]; rfl) (by rw [← hY]; rfl) (by rw [← hY]; rfl) (by rw [← hY]; exact hc) i [] s3 (capSt cap σ) H3 (notedBy (model X.prog X.w) X.A (compEnvC scope (clOf X.env scope.names []) s1.heap.objs.size X.env) fun e s' => RR (.ref s.heap.objs.size) s1.heap.objs.size (.error e) s') I3 (stat fr3) st3 stop
      subst hY
      refine thn this fun r s5 ⟨hr, I5⟩ => ?_
      subst hr
      refine hRR _ _ H3 s5 (I1.call' I5.os I5.base I5.hok I5.bare fun b hb => ?_) (I1.fpOk (Nat.le_refl _) I5.free) (I5.loc.imp fun m z => z.1) q
      obtain ⟨_, f1, f2, f3, f4, f5⟩ := hf1 b hb
      exact ⟨f3, f1, f4, f5⟩
    · have := T.item Y (by rw [← hY]; rfl) (by rw [← hY]; rfl) (by rw [← hY]; rfl) (by rw [← hY]; exact hc) i [] s3 (capSt cap σ) H3 (notedBy (model X.prog X.w) X.A (compEnvC scope (clOf X.env scope.names []) s1.heap.objs.size X.env) fun e s' => RR (.ref s.heap.objs.size) s1.heap.objs.size (.error e) s') I3 (stat fr3) st3 go
      have hgY := hg s1.heap.objs.size fp s1 (upd H s.heap.objs.size (.lst []))
      have hiY := hi s1.heap.objs.size fp s1 (upd H s.heap.objs.size (.lst []))
      have heY := he s1.heap.objs.size fp s1 (upd H s.heap.objs.size (.lst []))
      rw [hY] at hgY hiY heY
      have nox : ∀ {P : Value → Shared → Prop} e s', Y.xe e s' → P e s' := fun e s' z => by subst hY; exact False.elim z
      have eA : Y.A = X.A := by rw [← hY]; rfl
      have eP : Y.prog = X.prog := by rw [← hY]; rfl
      have eW : Y.w = X.w := by rw [← hY]; rfl
      have eE : Y.env = compEnvC scope (clOf X.env scope.names []) s1.heap.objs.size X.env := by rw [← hY]; rfl
      rw [← eA, ← eP, ← eW, ← eE] at this ⊢
      refine thn this fun r s5 ⟨u, hr, h5⟩ => ?_
      subst hr
      refine thn h5 fun _ s6 ⟨x, H6, I6, rx, y6, st6, fr6⟩ => ?_
      have I6' := I6.pinned (stat fr6) (T.obj _ _ st6)
      refine wpAny_mono (hgY _ s6 (capSt cap σ) H6 x u _ I6' rx (hk _ _ _ _ (stp x H6 y6))) (fun _ s7 ⟨σ7, H7, I7, ⟨k1, k2⟩, q7⟩ => ?_) nox
      refine thn (hiY _ s7 σ7 H7 _ _ I7 q7) fun ok s8 ⟨H8, I8, q8⟩ => ?_
      have again : ∀ {H9 : Hp} {s9 : Shared} {σ9 : St} {ys' : List V}, Inv Y ([] ++ pinsAt fp s6.heap) σ9 H9 s9 → σ9.length = (capSt cap σ).length → (∀ (i : Nat) v, (capSt cap σ)[i]? = some (some v) → σ9[i]? = some (some v)) → (∃ m', m' < n ∧ W (i + 1) m' ys' H9) → ∃ m, m < n ∧ ∃ i ys H', Inv Y [] (capSt cap σ) H' s9 ∧ tn i s9.heap ∧ (∀ b ∈ fp, H' b = none) ∧ W i m ys H' := by
        rintro H9 s9 σ9 ys' I9 hl hw ⟨m', hm, w9⟩
        refine ⟨m', hm, i + 1, ys', H9, I9.unpinned.weak hl.symm hw, T.keep _ _ _ st6 fun b hb o e => (I9.pin (b, o) (List.mem_append_right _ (List.mem_append_right _ (mem_pinsAt hb e)))).1, fun b hb => ?_, w9⟩
        obtain ⟨o, e, d⟩ := T.obj _ _ st6 b hb
        exact (I9.pin (b, o) (List.mem_append_right _ (List.mem_append_right _ (mem_pinsAt hb e)))).2.1
      have kw : ∀ (i : Nat) v, (capSt cap σ)[i]? = some (some v) → σ7[i]? = some (some v) := fun i v e => by
        rw [k2 i ?_]
        · exact e
        · unfold ownOf
          cases q : cap[i]? with
          | none => rfl
          | some o =>
            cases o with
            | none =>
              unfold capSt at e
              rw [List.getElem?_map, q] at e
              cases e
            | some j => rfl
      cases ok with
      | false =>
        rw [if_neg Bool.false_ne_true] at q8 ⊢
        exact again I8 k1 kw (hNN _ _ q8)
      | true =>
        rw [if_pos rfl] at q8 ⊢
        refine wpAny_mono (heY _ s8 σ7 H8 _ I8 q8) (fun u9 s9 ⟨y, H9, I9, ry, hD9, q9⟩ => ?_) nox
        refine wpAny_mono (mt_append (X := Y) _ s9 σ7 H9 (.ref s.heap.objs.size) [y] (.ref s.heap.objs.size) [u9] (fun _ H10 => NN (ys ++ [y]) H10) I9 rfl (.cons ry .nil) ⟨_, ys, y, rfl, rfl, hD9, hlen, q9⟩) (fun _ s10 ⟨_, H10, I10, _, q10⟩ => ?_) nox
        exact again I10 k1 kw (hNN _ _ q10)
  exact codeAny_compStart_list loop (T.self X.A 0 _ _ _ st4 loop)

theorem turned_of {C : Addr} {H' : Hp} {s' : Shared} (I' : Inv X pins σ H' s') (fC : FpOk X pins H' C) {h' : Heap} (hs' : Heap.SameBut C s'.heap h') : Inv X pins σ H' { s' with heap := h' } := by
  obtain ⟨f0, f1, f2, f3, f4, f5⟩ := fC
  exact I'.turned (t' := s'.toks) (fun b o hb e => hs'.extBut b o hb e) f0 f1 f3 f4 f5
/-- a list comprehension of one clause -/
theorem pe_comp {tg elt iter : Expr} {ifs : List Expr} {pos : Pos} {wi : TI} {g : TG} {tt : TT} {te : TE} (c : CompOk X scope N' cap) (hc : X.calm = true) (hit : PI X tg iter wi)
    (hg : ∀ C ex s H, PG (cxComp X scope N' C ex s H) tg g) (hk : GKp (ownOf cap) g) (hi : ∀ C ex s H, PIfs (cxComp X scope N' C ex s H) ifs tt) (he : ∀ C ex s H, PE (cxComp X scope N' C ex s H) elt te)
    (hs : ∀ x, foldedSetIterable iter X.env x = pure x := by intro _; rfl) : PE X (.ListComp elt [⟨tg, iter, ifs, 0⟩] scope pos) (tComp cap wi g tt te) := by
  intro pins s σ H Q I h
  rw [eval_ListComp]
  refine wpAny_comprehension_free (use := none) rfl hs (closureFor_ok (c.clos I)) c.kind c.names (thn (hit pins s σ H _ I h) fun v s1 h1 => thn h1 fun itv s2 h2 => ?_)
  obtain ⟨it, fp, tn, J, H2, e, I2, T, st2, f2, q⟩ := h2
  subst e
  refine comp_core c hc I2 T st2 f2 hg hk hi he q fun D C H' s' I' fC hn hq => ?_
  obtain ⟨m, hn⟩ := hn
  exact ⟨m, hn, fun h' hs' => ⟨.ref D, H', turned_of I' fC hs', rfl, hq⟩⟩
/-- name = a list comprehension -/
theorem ps_setc {i : Nat} {x : Str} {px spos : Pos} {tg elt iter : Expr} {ifs : List Expr} {pos : Pos} {wi : TI} {g : TG} {tt : TT} {te : TE} (hN : X.N.Nodup) (hx0 : X.N[i]? = some x) (hx : Loc X.env.scope x)
    (c : CompOk X scope N' cap) (hc : X.calm = true) (hit : PI X tg iter wi)
    (hg : ∀ C ex s H, PG (cxComp X scope N' C ex s H) tg g) (hk : GKp (ownOf cap) g) (hi : ∀ C ex s H, PIfs (cxComp X scope N' C ex s H) ifs tt) (he : ∀ C ex s H, PE (cxComp X scope N' C ex s H) elt te)
    (hsw : swapsWith (.ListComp elt [⟨tg, iter, ifs, 0⟩] scope pos) (some (.Name x px)) spos.line X.env = pure true := by rfl)
    (hs : ∀ x, foldedSetIterable iter X.env x = pure x := by intro _; rfl) (hf : X.fn x = true ∨ X.env.scope.names.lookup x = some .local := by first | exact .inl rfl | exact .inr rfl | assumption) : PS X (.Assign [.Name x px] (.ListComp elt [⟨tg, iter, ifs, 0⟩] scope pos) spos) (tAsg (tComp cap wi g tt te) (gName i)) := by
  intro pins s σ H D0 I h
  rw [exec_Assign_Name_used _ _ _ _ hsw]
  refine wpAny_bind (wpAny_standAt (wpAny_bind ?_))
  show wpAny _ X.A (do let _ ← comprehension (.ListComp elt [⟨tg, iter, ifs, 0⟩] scope pos) scope X.env _ (newList []) false (eval iter X.env) (some (assign (.Name x px) X.env))) _ _ s
  refine wpAny_bind (wpAny_mono (wpAny_comprehension_free (use := some (assign (.Name x px) X.env)) (Q := fun _ s' => SP X pins D0 .next s') rfl hs (closureFor_ok (c.clos I)) c.kind c.names
    (thn (hit pins s σ H _ I h) fun v s1 h1 => thn h1 fun itv s2 h2 => ?_)) (fun _ s' hq => wpAny_pure (wpAny_pure hq)) fun _ _ e => e)
  obtain ⟨it, fp, tn, J, H2, e, I2, T, st2, f2, q⟩ := h2
  subst e
  refine comp_core (Q := fun v H1 => gName i v σ H1 D0.nx) c hc I2 T st2 f2 hg hk hi he q fun D C H' s' I' fC hn hq => ?_
  obtain ⟨m, hn⟩ := hn
  refine wpAny_assign_Name (store_ok2 (v := .ref D) I' hN hx0 hx rfl (fun s'' I'' ⟨a, sb, ha⟩ => ?_) hf)
  have hne : C ≠ a := by
    rcases ha with z | z
    · rw [z]; exact fC.2.1
    · exact fun e => fC.2.2.2.2.1 x a z e.symm
  exact ⟨m, hn.sameBut sb hne, fun h' hs' => ⟨σ.set i (some (.ref D)), H', turned_of I'' fC hs', hq⟩⟩
end

theorem comp_list {K : PySem.W.Frag} {a D : Addr} {xs : List V} {g : TG} {tt : TT} {te : TE} {σ0 : St} {H1 : Hp} {R : Hp → Prop} (Pv : Nat → List V → Hp → Prop) (h0 : Pv 0 [] (upd H1 D (.lst [])))
    (hl : ∀ i ys H, i ≤ xs.length → Pv i ys H → SqL K H a xs ∧ H D = some (.lst ys) ∧ ys.length ≤ i) (hz : xs.length ≤ sizeLine)
    (hs : ∀ i x ys H, xs[i]? = some x → Pv i ys H → g x σ0 H fun σ4 H4 => tt σ4 H4 fun b H5 => if b = true then te σ4 H5 fun y H6 => H6 D = some (.lst ys) ∧ Pv (i + 1) (ys ++ [y]) (upd H6 D (.lst (ys ++ [y]))) else Pv (i + 1) ys H5)
    (hd : ∀ ys H, Pv xs.length ys H → R H) :
    ∃ W : Nat → Nat → List V → Hp → Prop, (∃ m, W 0 m [] (upd H1 D (.lst []))) ∧ ∀ i m ys H2, W i m ys H2 → H2 D = some (.lst ys) ∧
      (((Itl K a).stop i H2 ∧ R H2) ∨ ((Itl K a).go i H2 ∧ ys.length < sizeLine ∧ ∃ N : List V → Hp → Prop, (∀ ys' H', N ys' H' → ∃ m', m' < m ∧ W (i + 1) m' ys' H') ∧ ∀ x H3, (Itl K a).yld i H2 x H3 → g x σ0 H3 fun σ4 H4 => tt σ4 H4 fun b H5 =>
        if b = true then te σ4 H5 fun y H6 => H6 D = some (.lst ys) ∧ N (ys ++ [y]) (upd H6 D (.lst (ys ++ [y]))) else N ys H5)) := by
  refine ⟨fun i m ys H => m = xs.length - i ∧ i ≤ xs.length ∧ Pv i ys H, ⟨xs.length, by simp, Nat.zero_le _, h0⟩, ?_⟩
  rintro i m ys H2 ⟨rfl, hi, p⟩
  obtain ⟨q, hD, hly⟩ := hl i ys H2 hi p
  refine ⟨hD, ?_⟩
  by_cases hlt : i < xs.length
  · refine .inr ⟨⟨xs, xs[i], q, by simp [hlt]⟩, by omega, Pv (i + 1), fun ys' H' p' => ⟨xs.length - (i + 1), by omega, rfl, hlt, p'⟩, fun x H3 y => ?_⟩
    obtain ⟨e, y⟩ := y
    subst e
    exact hs i x ys _ (y xs q) p
  · have e : i = xs.length := by omega
    subst e
    exact .inl ⟨⟨xs, q, Nat.le_refl _⟩, hd ys H2 p⟩
theorem comp_range {lo : Int} {n : Nat} {D : Addr} {g : TG} {tt : TT} {te : TE} {σ0 : St} {H1 : Hp} {R : Hp → Prop} (Pv : Nat → List V → Hp → Prop) (h0 : Pv 0 [] (upd H1 D (.lst [])))
    (hl : ∀ i ys H, i ≤ n → Pv i ys H → H D = some (.lst ys) ∧ ys.length ≤ i) (hz : n ≤ sizeLine)
    (hs : ∀ i ys H, i < n → Pv i ys H → g (.int (lo + i)) σ0 H fun σ4 H4 => tt σ4 H4 fun b H5 => if b = true then te σ4 H5 fun y H6 => H6 D = some (.lst ys) ∧ Pv (i + 1) (ys ++ [y]) (upd H6 D (.lst (ys ++ [y]))) else Pv (i + 1) ys H5)
    (hd : ∀ ys H, Pv n ys H → R H) :
    ∃ W : Nat → Nat → List V → Hp → Prop, (∃ m, W 0 m [] (upd H1 D (.lst []))) ∧ ∀ i m ys H2, W i m ys H2 → H2 D = some (.lst ys) ∧
      (((Itr lo n).stop i H2 ∧ R H2) ∨ ((Itr lo n).go i H2 ∧ ys.length < sizeLine ∧ ∃ N : List V → Hp → Prop, (∀ ys' H', N ys' H' → ∃ m', m' < m ∧ W (i + 1) m' ys' H') ∧ ∀ x H3, (Itr lo n).yld i H2 x H3 → g x σ0 H3 fun σ4 H4 => tt σ4 H4 fun b H5 =>
        if b = true then te σ4 H5 fun y H6 => H6 D = some (.lst ys) ∧ N (ys ++ [y]) (upd H6 D (.lst (ys ++ [y]))) else N ys H5)) := by
  refine ⟨fun i m ys H => m = n - i ∧ i ≤ n ∧ Pv i ys H, ⟨n, by simp, Nat.zero_le _, h0⟩, ?_⟩
  rintro i m ys H2 ⟨rfl, hi, p⟩
  obtain ⟨hD, hly⟩ := hl i ys H2 hi p
  refine ⟨hD, ?_⟩
  by_cases hlt : i < n
  · refine .inr ⟨hlt, by omega, Pv (i + 1), fun ys' H' p' => ⟨n - (i + 1), by omega, rfl, hlt, p'⟩, fun x H3 y => ?_⟩
    obtain ⟨e, y⟩ := y
    subst e y
    exact hs i ys _ hlt p
  · have e : i = n := by omega
    subst e
    exact .inl ⟨Nat.le_refl _, hd ys H2 p⟩
end L2

set_option Elab.async false
set_option linter.all false
set_option maxRecDepth 100000
namespace L2
open PySem PySem.Spec PyProof.Rows
def CDivB (i j : Int) : Prop := 0 < j ∧ j ≤ 10 ^ 70
section
variable {X : Cx}
theorem op_fdivB : OpR X (binaryOp .FloorDiv) (rI CDivB fun i j => .int (i / j)) := opI fun i j _ _ _ _ _ hc q => by
  have h1 : (0 : Int) < j := hc.1
  have h2 : j ≤ 10 ^ 70 := hc.2
  refine floordiv_int (by omega) ?_ (.inl (PyProof.noPylong_of_log2 ?_))
  · rw [Int.fdiv_eq_ediv_of_nonneg _ (by omega)]
    exact q
  · have h3 : j.natAbs < 2 ^ 300 := by
      have : (j.natAbs : Int) = j := by omega
      have h4 : (10 : Int) ^ 70 < 2 ^ 300 := by decide
      omega
    have h5 : j.natAbs.log2 < 300 := (Nat.log2_lt (by omega)).mpr h3
    omega
/-- isinstance(x, C), C a built-in type -/
theorem call_isinst : CallR X (.builtin "isinstance") (fun xs H Q => ∃ x n t b, xs = [x, .ty n] ∧ TyOf X.K H x t ∧ PySem.W.kitOne X.K t (.type n) = some b ∧ Q (.bl b) H) := by
  intro pins s σ H xs us Q I r h
  obtain ⟨x, n, t, b, rfl, ty, e, q⟩ := h
  obtain ⟨u, v, rfl, ru, rv⟩ := Vals.two r
  cases rv
  exact isinst_ok I ru ty e fun tk => ⟨.bl b, H, I.tok _, rfl, q⟩
end
def eqVs (xs ys : List V) : Bool := xs.length == ys.length && (xs.zip ys).all fun p => eqV p.1 p.2
section
variable {X : Cx}
end

/-- the items of a list or tuple that stands at p -/
def seqV (H : Hp) (p : Addr) : Option (List V) := match H p with
  | some (.lst xs) => some xs
  | some (.tup xs) => some xs
  | some (.frz _ (.lst xs)) => some xs
  | _ => none
theorem seqV_cases {K : PySem.W.Frag} {H : Hp} {p : Addr} {xs : List V} (h : seqV H p = some xs) : SqL K H p xs ∨ SqT K H p xs := by
  unfold seqV at h
  split at h
  · rename_i e; cases h; exact .inl (.of e)
  · rename_i e; cases h; exact .inr (.of e)
  · rename_i o ys e; cases h; exact .inl (.inl (.inr ⟨o, e⟩))
  · cases h
def rIxF : R2 := fun x y H Q => ∃ p i xs v, x = .ref p ∧ y = .int i ∧ seqV H p = some xs ∧ atI xs i = some v ∧ Q v H
/-- the type of a value -/
def tyF (x : V) (H : Hp) : Option String := match x with
  | .non => some "NoneType"
  | .bl _ => some "bool"
  | .int _ => some "int"
  | .str _ => some "str"
  | .ref a => match H a with
    | some (.lst _) => some "list"
    | some (.frz _ (.lst _)) => some "list"
    | some (.tup _) => some "tuple"
    | some (.dK _) => some "dict"
    | some (.dT _) => some "dict"
    | _ => none
  | _ => none
def isTy (t n : String) : Bool := t == n || (t == "bool" && n == "int")
theorem tyF_of {K : PySem.W.Frag} {x : V} {H : Hp} {t : String} (h : tyF x H = some t) : TyOf K H x (.type t) ∧ (t = "NoneType" ∨ t = "bool" ∨ t = "int" ∨ t = "str" ∨ t = "list" ∨ t = "tuple" ∨ t = "dict") := by
  unfold tyF at h
  split at h
  · cases h; exact ⟨.non, by simp⟩
  · cases h; exact ⟨.bl _, by simp⟩
  · cases h; exact ⟨.int _, by simp⟩
  · cases h; exact ⟨.str _, by simp⟩
  · split at h
    · rename_i e; cases h; exact ⟨.lst e, by simp⟩
    · rename_i e; cases h; exact ⟨.frz e, by simp⟩
    · rename_i e; cases h; exact ⟨.tup e, by simp⟩
    · rename_i e; cases h; exact ⟨.dK e, by simp⟩
    · rename_i e; cases h; exact ⟨.dT e, by simp⟩
    · cases h
  · cases h
theorem kitOne_ty {K : PySem.W.Frag} {t n : String} (h : t = "NoneType" ∨ t = "bool" ∨ t = "int" ∨ t = "str" ∨ t = "list" ∨ t = "tuple" ∨ t = "dict") (hn : n = "bool" ∨ n = "int" ∨ n = "str" ∨ n = "list" ∨ n = "tuple" ∨ n = "dict") :
    PySem.W.kitOne K (.type t) (.type n) = some (isTy t n) := by
  rcases h with rfl | rfl | rfl | rfl | rfl | rfl | rfl <;> rcases hn with rfl | rfl | rfl | rfl | rfl | rfl <;> rfl
def lenF (x : V) (H : Hp) : Option Nat := match x with
  | .str y => if y.length ≤ sizeLine then some y.length else none
  | .ref p => match H p with
    | some (.lst xs) => some xs.length
    | some (.tup xs) => some xs.length
    | some (.frz _ (.lst xs)) => some xs.length
    | _ => none
  | _ => none
theorem lenF_of {K : PySem.W.Frag} {x : V} {H : Hp} {n : Nat} (h : lenF x H = some n) : LenV K x H n := by
  unfold lenF at h
  split at h
  · split at h
    · rename_i z; cases h; exact ⟨z, rfl⟩
    · cases h
  · split at h
    · rename_i e; cases h; exact .inl ⟨_, .of e, rfl⟩
    · rename_i e; cases h; exact .inr ⟨_, .of e, rfl⟩
    · rename_i o xs e; cases h; exact .inl ⟨_, .inl (.inr ⟨o, e⟩), rfl⟩
    · cases h
  · cases h
/-- two of one kind, both lists or both tuples -/
def kindV (H : Hp) (p : Addr) : Option Bool := match H p with
  | some (.lst _) => some true
  | some (.frz _ (.lst _)) => some true
  | some (.tup _) => some false
  | _ => none
theorem kindV_l {K : PySem.W.Frag} {H : Hp} {p : Addr} {xs : List V} (h : seqV H p = some xs) (k : kindV H p = some true) : SqL K H p xs := by
  rcases seqV_cases (K := K) h with q | q
  · exact q
  · unfold seqV at h
    unfold kindV at k
    split at h
    · rename_i e; cases h; exact .of e
    · rename_i e; rw [e] at k; cases k
    · rename_i o ys e; cases h; exact .inl (.inr ⟨o, e⟩)
    · cases h
def rEqF (neg : Bool) : R2 := fun x y H Q => ∃ l b k xs ys, x = .ref l ∧ y = .ref b ∧ seqV H l = some xs ∧ seqV H b = some ys ∧ kindV H l = some k ∧ kindV H b = some k ∧ xs.all flatV = true ∧ ys.all flatV = true ∧
  Q (.bl (if neg then !eqVs xs ys else eqVs xs ys)) H
section
variable {X : Cx}
theorem ix_F : IxR X rIxF := by
  intro value slice pins s σ H x y v u Q I rx ry h hs
  obtain ⟨p, i, xs, z, e1, e2, hq, he, q⟩ := h
  rcases seqV_cases (K := X.K) hq with g | g
  · exact ix_list value slice pins s σ H x y v u Q I rx ry ⟨p, xs, i, z, e1, e2, g, he, q⟩ hs
  · exact ix_tup value slice pins s σ H x y v u Q I rx ry ⟨p, xs, i, z, e1, e2, g, he, q⟩ hs
theorem call_isF : CallR X (.builtin "isinstance") (fun xs H Q => ∃ x n t, xs = [x, .ty n] ∧ tyF x H = some t ∧ (n = "bool" ∨ n = "int" ∨ n = "str" ∨ n = "list" ∨ n = "tuple" ∨ n = "dict") ∧ Q (.bl (isTy t n)) H) := by
  intro pins s σ H xs us Q I r h
  obtain ⟨x, n, t, e, ht, hn, q⟩ := h
  obtain ⟨ty, h7⟩ := tyF_of (K := X.K) ht
  exact call_isinst pins s σ H xs us Q I r ⟨x, n, _, _, e, ty, kitOne_ty h7 hn, q⟩
theorem call_lenF : CallR X (.builtin "len") (fun xs H Q => ∃ x n, xs = [x] ∧ lenF x H = some n ∧ Q (.int n) H) := by
  intro pins s σ H xs us Q I r h
  obtain ⟨x, n, e, hl, q⟩ := h
  exact call_len pins s σ H xs us Q I r ⟨x, n, e, lenF_of hl, q⟩
end
theorem scal_int {i j : Int} : scal (.int i) (.int j) = true := rfl
theorem scal_bl {i j : Bool} : scal (.bl i) (.bl j) = true := rfl
theorem scal_str {i j : Str} : scal (.str i) (.str j) = true := rfl
theorem atI_0 {α : Type} {x : α} {r : List α} : atI (x :: r) 0 = some x := atI_nat (j := 0) rfl
theorem atI_1 {α : Type} {x y : α} {r : List α} : atI (x :: y :: r) 1 = some y := atI_nat (j := 1) rfl
theorem atI_2 {α : Type} {x y z : α} {r : List α} : atI (x :: y :: z :: r) 2 = some z := atI_nat (j := 2) rfl
theorem atI_3 {α : Type} {x y z w : α} {r : List α} : atI (x :: y :: z :: w :: r) 3 = some w := atI_nat (j := 3) rfl
theorem atI_4 {α : Type} {x y z w v : α} {r : List α} : atI (x :: y :: z :: w :: v :: r) 4 = some v := atI_nat (j := 4) rfl

theorem isTys : isTy "NoneType" "bool" = false ∧ isTy "NoneType" "int" = false ∧ isTy "NoneType" "str" = false ∧ isTy "NoneType" "list" = false ∧ isTy "NoneType" "tuple" = false ∧ isTy "NoneType" "dict" = false ∧ isTy "bool" "bool" = true ∧ isTy "bool" "int" = true ∧ isTy "bool" "str" = false ∧ isTy "bool" "list" = false ∧ isTy "bool" "tuple" = false ∧ isTy "bool" "dict" = false ∧ isTy "int" "bool" = false ∧ isTy "int" "int" = true ∧ isTy "int" "str" = false ∧ isTy "int" "list" = false ∧ isTy "int" "tuple" = false ∧ isTy "int" "dict" = false ∧ isTy "str" "bool" = false ∧ isTy "str" "int" = false ∧ isTy "str" "str" = true ∧ isTy "str" "list" = false ∧ isTy "str" "tuple" = false ∧ isTy "str" "dict" = false ∧ isTy "list" "bool" = false ∧ isTy "list" "int" = false ∧ isTy "list" "str" = false ∧ isTy "list" "list" = true ∧ isTy "list" "tuple" = false ∧ isTy "list" "dict" = false ∧ isTy "tuple" "bool" = false ∧ isTy "tuple" "int" = false ∧ isTy "tuple" "str" = false ∧ isTy "tuple" "list" = false ∧ isTy "tuple" "tuple" = true ∧ isTy "tuple" "dict" = false ∧ isTy "dict" "bool" = false ∧ isTy "dict" "int" = false ∧ isTy "dict" "str" = false ∧ isTy "dict" "list" = false ∧ isTy "dict" "tuple" = false ∧ isTy "dict" "dict" = true := by decide
def tyO : Option HO → Option String
  | some (.lst _) => some "list"
  | some (.frz _ (.lst _)) => some "list"
  | some (.tup _) => some "tuple"
  | some (.dK _) => some "dict"
  | some (.dT _) => some "dict"
  | _ => none
def lenO : Option HO → Option Nat
  | some (.lst xs) => some xs.length
  | some (.tup xs) => some xs.length
  | some (.frz _ (.lst xs)) => some xs.length
  | _ => none
def seqO : Option HO → Option (List V)
  | some (.lst xs) => some xs
  | some (.tup xs) => some xs
  | some (.frz _ (.lst xs)) => some xs
  | _ => none
def kindO : Option HO → Option Bool
  | some (.lst _) => some true
  | some (.frz _ (.lst _)) => some true
  | some (.tup _) => some false
  | _ => none
theorem tyF_ref {a : Addr} {H : Hp} : tyF (.ref a) H = tyO (H a) := rfl
theorem tyF_int {i : Int} {H : Hp} : tyF (.int i) H = some "int" := rfl
theorem tyF_bl {i : Bool} {H : Hp} : tyF (.bl i) H = some "bool" := rfl
theorem tyF_str {i : Str} {H : Hp} : tyF (.str i) H = some "str" := rfl
theorem tyF_non {H : Hp} : tyF .non H = some "NoneType" := rfl
theorem lenF_ref {a : Addr} {H : Hp} : lenF (.ref a) H = lenO (H a) := rfl
theorem seqV_eq {a : Addr} {H : Hp} : seqV H a = seqO (H a) := rfl
theorem kindV_eq {a : Addr} {H : Hp} : kindV H a = kindO (H a) := rfl
theorem tyO_lst {xs : List V} : tyO (some (.lst xs)) = some "list" := rfl
theorem tyO_frz {o : Obj} {xs : List V} : tyO (some (.frz o (.lst xs))) = some "list" := rfl
theorem tyO_tup {xs : List V} : tyO (some (.tup xs)) = some "tuple" := rfl
theorem tyO_dK {xs} : tyO (some (.dK xs)) = some "dict" := rfl
theorem lenO_lst {xs : List V} : lenO (some (.lst xs)) = some xs.length := rfl
theorem lenO_frz {o : Obj} {xs : List V} : lenO (some (.frz o (.lst xs))) = some xs.length := rfl
theorem lenO_tup {xs : List V} : lenO (some (.tup xs)) = some xs.length := rfl
theorem seqO_lst {xs : List V} : seqO (some (.lst xs)) = some xs := rfl
theorem seqO_frz {o : Obj} {xs : List V} : seqO (some (.frz o (.lst xs))) = some xs := rfl
theorem seqO_tup {xs : List V} : seqO (some (.tup xs)) = some xs := rfl
theorem kindO_lst {xs : List V} : kindO (some (.lst xs)) = some true := rfl
theorem kindO_frz {o : Obj} {xs : List V} : kindO (some (.frz o (.lst xs))) = some true := rfl
theorem kindO_tup {xs : List V} : kindO (some (.tup xs)) = some false := rfl

theorem upd_old {H : Hp} {p q : Addr} {o u : HO} (hq : H q = some o) (hp : H p = none) : upd H p u q = some o := by rw [upd_ne (ne_of_none hq hp)]; exact hq
theorem Same.laid {H : Hp} {p : Addr} {u : HO} (hp : H p = none) : Same H (upd H p u) := fun _ _ h => upd_old h hp
theorem Same.step {H H1 : Hp} {p : Addr} {u : HO} (s : Same H H1) (hp : H1 p = none) : Same H (upd H1 p u) := s.trans (.laid hp)
theorem of_map_get {α : Type} {f : α → V} {l : List α} {i : Nat} {x : V} (h : (l.map f)[i]? = some x) : ∃ z, l[i]? = some z ∧ x = f z := by
  rw [List.getElem?_map] at h
  cases e : l[i]? with
  | none => rw [e] at h; cases h
  | some z => rw [e] at h; exact ⟨z, rfl, (Option.some.inj h).symm⟩
end L2

set_option Elab.async false
set_option linter.all false
set_option maxRecDepth 100000
namespace L2
open PySem PySem.Spec PyProof.Rows
section
variable {prog : Program} {w : World} {A : Around} {E : Value → Shared → Prop} {s : Shared}
end

section
variable {X : Cx} {tg : Expr}
end
end L2

set_option Elab.async false
set_option linter.all false
set_option maxRecDepth 100000
namespace L2
open PySem PySem.Spec PyProof.Rows
section
variable {X : Cx} {tg : Expr}
theorem keys_vals {P : Program} {w : World} : ∀ {kvs : List (Key × V)} {vs : List (Key × Value)} {acc : List Value}, KV kvs vs → acc.length = vs.length → (∀ (j : Nat) (v : Value), acc[j]? = some v → ∃ (k : Key) (x : Value), vs[j]? = some (k, x) ∧ (mixKind P w).is k v = true) → Vals (kvs.map fun p => kV p.1) acc := by
  intro kvs vs acc r
  unfold KV at r
  induction r generalizing acc with
  | nil =>
    intro hl h
    cases acc with
    | nil => exact .nil
    | cons _ _ => simp at hl
  | @cons p q kvs vs r t ih =>
    intro hl h
    cases acc with
    | nil => simp at hl
    | cons u acc =>
      refine .cons ?_ (ih (by simpa using hl) fun j v e => by simpa using h (j + 1) v (by simpa using e))
      obtain ⟨k, x, e, hk⟩ := h 0 u (by simp)
      simp at e
      have ek : q.1 = k := by rw [e]
      show RelV (kV p.1) u
      rw [r.1, ek]
      rcases keyIs_shape (show keyIs k u = true from hk) with ⟨i, t', rfl, rfl⟩ | ⟨z, t', rfl, rfl⟩
      · exact ⟨t', rfl⟩
      · exact ⟨t', rfl⟩
end
theorem Un.laidN {fs ex : List Addr} {H : Hp} {h h' : Heap} {a : Addr} {o : HO} (k : ∀ b u, h.get? b = some u → h'.get? b = some u) (ha : h.get? a = none) (hn : H a = none) : Un fs ex H (upd H a o) h h' where
  keep := fun b u q _ _ _ => k b u q
  slot := fun b u q _ _ _ => ⟨u.slots, k b u q⟩
  free := fun b u q n _ => by
    have hb : b ≠ a := fun e => by rw [e, ha] at q; cases q
    rw [upd_ne hb]; exact n
  there := fun b u q _ => ⟨u, k b u q⟩
  tups := fun b xs q => upd_old q hn
  frzs := fun b u xs q => upd_old q hn
  tbls := fun b ps q => ⟨#[], by rw [upd_old q hn]; simp⟩
theorem Inv.laidN {X : Cx} {pins : List (Addr × Obj)} {σ : St} {H : Hp} {s : Shared} {h' : Heap} {a : Addr} {o : HO} {t' : Nat} (I : Inv X pins σ H s) (k : ∀ b u, s.heap.get? b = some u → h'.get? b = some u) (ha : s.heap.get? a = none)
    (new : ObjOk X.prog X.w (upd H a o) h' a o) : H a = none ∧ Inv X pins σ (upd H a o) { s with heap := h', toks := t' } := by
  have hn : H a = none := by
    cases q : H a with
    | none => rfl
    | some u =>
      obtain ⟨ob, e⟩ : ∃ ob, s.heap.get? a = some ob := by
        have x := I.hok a u q
        cases u with
        | lst xs => obtain ⟨_, _, _, _, e⟩ := x; exact ⟨_, e⟩
        | tup xs => obtain ⟨_, _, _, p⟩ := x; obtain ⟨_, e, _⟩ := p; exact ⟨_, e⟩
        | dK kvs => obtain ⟨_, _, _, _, o, _, _, e, _⟩ := x; exact ⟨_, e⟩
        | dT kvs => obtain ⟨_, _, _, _, o, _, _, e, _⟩ := x; exact ⟨_, e⟩
        | set S n => obtain ⟨o, _, _, _, e, _⟩ := x; exact ⟨_, e⟩
        | ins C dx fs => obtain ⟨_, _, _, e, _⟩ := x; exact ⟨_, e⟩
        | own y => exact x
        | xd fs => obtain ⟨_, ⟨_, _, _, e, _⟩, _⟩ := x; exact ⟨_, e⟩
        | rng lo hi => obtain ⟨_, _, _, e⟩ := x; exact ⟨_, e⟩
        | frz ob u => obtain ⟨e, _⟩ := x; exact ⟨_, e⟩
        | tbl ps => exact ⟨_, (show s.heap.get? a = some _ from x)⟩
        | met f y => exact ⟨_, (show s.heap.get? a = some _ from x)⟩
        | ext φ => obtain ⟨_, e, _⟩ := x; exact e
      rw [ha] at e; cases e
  refine ⟨hn, I.un (Un.laidN k ha hn) fun b u e => ?_⟩
  by_cases hb : b = a
  · subst hb; rw [upd_same] at e; cases e; exact new
  · rw [upd_ne hb] at e
    exact (I.hok b u e).stay (fun c v _ q => k c v q) (fun c q => upd_old q hn) fun c xs q => upd_old q hn
theorem sortedHeap_at {h : Heap} {a : Addr} {vs : List Value} {out : Array Value} {n : Nat} (ho : h.get? a = some (seqObj "list" vs.toArray n)) :
    (∃ e, (sortedHeap h a vs out).get? a = some (seqObj "list" out e)) ∧ ∀ b o, b ≠ a → h.get? b = some o → (sortedHeap h a vs out).get? b = some o := by
  have ha : a < h.objs.size := Heap.lt_size ho
  unfold sortedHeap
  obtain ⟨e1, ho1⟩ : ∃ e1, (h.update a (Obj.mapSeq fun _ => #[])).get? a = some (seqObj "list" #[] e1) := ⟨_, get?_update_seq ho (fun _ => #[])⟩
  have ho2 := Heap.get?_push_of_some (seqObj "list" #[] 0) (Heap.get?_push_of_some (seqObj "tuple" vs.toArray 0) ho1)
  refine ⟨⟨_, get?_update_seq ho2 (fun _ => out)⟩, fun b o hb e => ?_⟩
  rw [Heap.get?_update_other _ _ (Ne.symm hb)]
  refine Heap.get?_push_of_some _ (Heap.get?_push_of_some _ ?_)
  rw [Heap.get?_update_other _ _ (Ne.symm hb)]
  exact e
section
variable {prog : Program} {w : World} {A : Around} {E : Value → Shared → Prop} {s : Shared} {T : String} {r d : Addr} {n : Nat} {P : Nat → Value → Prop} {OK : Heap → Prop} {Q : Value → Shared → Prop}
theorem sorted_src (K : PySem.W.KdlSrc prog w T r d n P OK) (hh : A.handled = none) (hok : OK s.heap) (hn : n < 64) (hint : ∀ vs : List Value, vs.length = n → (∀ (j : Nat) (v : Value), vs[j]? = some v → P j v) → ∃ ns, IntsAre vs ns)
    (h : ∀ (D : Addr) (h' : Heap) (tk e : Nat) (vs : List Value) (ns ns' : List Int) (out : Array Value), (∀ b o, s.heap.get? b = some o → h'.get? b = some o) → s.heap.get? D = none → h'.get? D = some (seqObj "list" out e) →
      vs.length = n → (∀ (j : Nat) (v : Value), vs[j]? = some v → P j v) → IntsAre vs ns → IntsAre out.toList ns' → ns'.Perm ns → ns'.Pairwise (· ≤ ·) → Q (.ref D) { s with heap := h', toks := tk }) :
    wpAny (model prog w) A (call (.builtin "sorted") [.ref r]) Q E s := by
  refine Calls.call_function_entry PyProof.Rows.kind_sorted PyProof.Rows.plain_sorted PyProof.Rows.entry_sorted (PyProof.Rows.args_sorted1 _) ?_
  unfold Builtin.«sorted»
  refine wpAny_bind (m := checkCount "sorted" 1 1 _) (wpAny_pure (wpAny_bind ?_))
  refine PySem.W.kdu_collect (A := A.in1) K hh hok (by rw [sizeLine_eq]; omega) fun h1 tk acc hk hacc => ?_
  have hl : acc.toList.length = n := by rw [Array.length_toList]; exact hacc.1
  have hP : ∀ (j : Nat) (v : Value), acc.toList[j]? = some v → P j v := fun j v e => hacc.2 j v (by rw [← Array.getElem?_toList]; exact e)
  obtain ⟨ns, hI⟩ := hint acc.toList hl hP
  refine wpAny_bind (wpAny_newList ?_ (by rw [hl, sizeLine_eq]; omega))
  have hoL : (h1.push { cls := .type "list", data := .seq acc.toList.toArray }).get? h1.objs.size = some (seqObj "list" acc.toList.toArray 0) := Heap.get?_push_size _ rfl
  have hsz : s.heap.get? h1.objs.size = none := by
    cases q : s.heap.get? h1.objs.size with
    | none => rfl
    | some o => exact absurd (Heap.lt_size (hk _ _ q)) (Nat.lt_irrefl _)
  refine wpAny_bind (wpAny_holding (wpAny_call_entry slot_list_sort ⟨_, hoL, rfl⟩ entry_list_sort (list_sort_tree hoL hI (by rw [hl]; exact hn) fun out ns' i p st => ⟨_, rfl, ?_⟩) (args_list_sort _)))
  obtain ⟨⟨e, g1⟩, g2⟩ := sortedHeap_at (out := out) hoL
  refine wpAny_pure ⟨_, rfl, h _ _ _ e acc.toList ns ns' out (fun b o q => g2 b o ?_ (Heap.get?_push_of_some _ (hk b o q))) hsz g1 hl hP hI i p st⟩
  exact Nat.ne_of_lt (Heap.lt_size (hk b o q))
end

theorem intsAre_vals : ∀ {vs : List Value} {ns : List Int}, IntsAre vs ns → Vals (ns.map V.int) vs
  | _, _, .nil => .nil
  | _, _, .cons n t r => .cons ⟨t, rfl⟩ (intsAre_vals r)
theorem vals_ints_inj {vs : List Value} {ns ms : List Int} (a : Vals (ns.map V.int) vs) (b : IntsAre vs ms) : ns = ms := by
  have := a.inj (intsAre_vals b)
  exact (List.map_inj_right (fun x y e => by injection e)).mp this
section
variable {X : Cx}
/-- sorted(d), keys that are ints -/
theorem call_sorted_dict (hc : X.calm = true) : CallR X (.builtin "sorted") (fun xs H Q => ∃ d kvs ns, xs = [.ref d] ∧ H d = some (.dK kvs) ∧ kvs.map (·.1) = ns.map Sum.inl ∧ ns.length < 64 ∧
    ∀ (l : Addr) (ns' : List Int), H l = none → ns'.Perm ns → ns'.Pairwise (· ≤ ·) → Q (.ref l) (upd H l (.lst (ns'.map V.int)))) := by
  intro pins s σ H xs us Q I r h
  obtain ⟨d, kvs, ns, rfl, hd, hks, hlt, q⟩ := h
  obtain ⟨u, rfl, ru⟩ := vals1 r
  cases ru
  obtain ⟨hz, hS, vs, rk, m⟩ : kvs.length ≤ sizeLine ∧ (d == sysModules) = false ∧ ∃ vs, KV kvs vs ∧ s.heap.DictOf (mixKind X.prog X.w) d vs := I.hok d _ hd
  obtain ⟨ep, hat⟩ := m.dictAt
  have hlen : kvs.length = vs.length := Paired.length rk
  have hl2 : kvs.length = ns.length := by have := congrArg List.length hks; simpa using this
  have hkeys : ∀ acc : List Value, acc.length = vs.length → (∀ (j : Nat) (v : Value), acc[j]? = some v → ∃ k x, vs[j]? = some (k, x) ∧ (mixKind X.prog X.w).is k v = true) → Vals (ns.map V.int) acc := fun acc h1 h2 => by
    have := keys_vals (P := X.prog) (w := X.w) rk h1 h2
    have e : (kvs.map fun p => kV p.1) = ns.map V.int := by
      have : (kvs.map fun p => kV p.1) = (kvs.map (·.1)).map kV := by rw [List.map_map]; rfl
      rw [this, hks, List.map_map]; rfl
    rw [e] at this
    exact this
  refine sorted_src (PySem.W.kdl_dict (knd := mixKind X.prog X.w) (kvs := vs) (ep := ep) hS) (I.ok.hd hc) hat (by omega) (fun acc h1 h2 => ?_) fun D h' tk e acc ms ns' out hk hD ho h1 h2 hI hO hp hs => ?_
  · exact ⟨ns, intsAre_of (hkeys acc h1 h2)⟩
  · have em : ns = ms := vals_ints_inj (hkeys acc h1 h2) hI
    subst em
    have hz' : (ns'.map V.int).length ≤ sizeLine := by rw [List.length_map, hp.length_eq, sizeLine_eq]; omega
    obtain ⟨hn, I'⟩ := I.laidN (t' := tk) (o := .lst (ns'.map V.int)) hk hD ⟨hz', out.toList, e, intsAre_vals hO, by rw [Array.toArray_toList]; exact ho⟩
    exact ⟨.ref D, _, I', rfl, q D ns' hn hp hs⟩
end
end L2

set_option Elab.async false
set_option linter.all false
set_option maxRecDepth 100000
namespace L2
open PySem PySem.Spec PyProof.Rows
abbrev bmVE : List Value := [.type "ValueError", .type "Exception", .type "BaseException", .type "object"]
def XCls (K : PySem.W.Frag) (C : Addr) : Prop := PySem.W.excIn K C bmVE "ValueError.__new__" = true
theorem XCls.obj {K : PySem.W.Frag} {h : Heap} {C : Addr} (X : K.In h) (q : XCls K C) : ∃ bm N nm qn bs hdct sn sub ab col dd k0 k1 k2 k3 k5 mN,
    h.get? C = some (excClassObj nm qn C N bs bm hdct sn sub ab col dd k0 k1 k2 k3 k5 "ValueError.__new__") ∧ h.Ns N mN ∧ mN "__init__" = none ∧ OwnTail h bmVE bm := by
  have q : PySem.W.excIn K C bmVE "ValueError.__new__" = true := q
  unfold PySem.W.excIn at q
  split at q
  · rename_i dct cdt sls found
    split at q
    · rename_i own tailv s0 s1 s2 s3 ident s5 hmro hslots
      simp only [Bool.and_eq_true, beq_iff_eq, Bool.not_eq_true'] at q
      obtain ⟨⟨⟨⟨⟨e1, e2⟩, e3⟩, e4⟩, e5⟩, e6⟩ := q
      subst e1
      subst e2
      obtain ⟨c1, c2, c3, c4, c5, c6, c7, c8, c9, c10, c11⟩ := cdt
      dsimp only at hmro e3 e5 e6
      subst hmro
      subst e3
      have sl6 : sls = #[s0, s1, s2, s3, some (.builtin "ValueError.__new__"), s5] := by
        cases sls with
        | mk l => simp only at hslots; rw [hslots]
      subst sl6
      exact ⟨tailv, c4, c1, c5, c2, c6, c7, c8, c9, c10, dct, s0, s1, s2, s3, s5, _, X _ _ found, .of_isNs (PySem.W.isNs_of_in X e5), PySem.W.nsMap_none_of_in X e5 e6, PySem.W.tail_of_in X e4⟩
    · cases q
  · cases q
theorem HOk.obj {P : Program} {w : World} {H : Hp} {h : Heap} {a : Addr} {u : HO} (x : HOk P w H h) (q : H a = some u) : ∃ ob, h.get? a = some ob := by
  have x := x a u q
  cases u with
  | lst xs => obtain ⟨_, _, _, _, e⟩ := x; exact ⟨_, e⟩
  | tup xs => obtain ⟨_, _, _, p⟩ := x; obtain ⟨_, e, _⟩ := p; exact ⟨_, e⟩
  | dK kvs => obtain ⟨_, _, _, _, o, _, _, e, _⟩ := x; exact ⟨_, e⟩
  | dT kvs => obtain ⟨_, _, _, _, o, _, _, e, _⟩ := x; exact ⟨_, e⟩
  | set S n => obtain ⟨o, _, _, _, e, _⟩ := x; exact ⟨_, e⟩
  | ins C dx fs => obtain ⟨_, _, _, e, _⟩ := x; exact ⟨_, e⟩
  | own y => exact x
  | xd fs => obtain ⟨_, ⟨_, _, _, e, _⟩, _⟩ := x; exact ⟨_, e⟩
  | rng lo hi => obtain ⟨_, _, _, e⟩ := x; exact ⟨_, e⟩
  | frz ob u => obtain ⟨e, _⟩ := x; exact ⟨_, e⟩
  | tbl ps => exact ⟨_, (show h.get? a = some _ from x)⟩
  | met f y => exact ⟨_, (show h.get? a = some _ from x)⟩
  | ext φ => obtain ⟨_, e, _⟩ := x; exact e
section
variable {X : Cx} {pins : List (Addr × Obj)} {σ : St} {H H' : Hp} {s s' : Shared}
end
section
variable {P : Program} {w : World} {K : PySem.W.Frag} {mg : Str → Option Value} {base : Heap} {N : List Str} {qual : Str} {scope : Scope} {f : Addr} {cd : Value} {A : Around} {outer : List Env} {s₀ : Shared} {H₀ : Hp} {E : XK}
end
section
variable {X : Cx}
/-- raise C(e, ..) -/
def tRaise (C : Addr) (E : XK) (t : TA) : TS := fun _ σ H => t σ H fun vs H1 => vs.length ≤ sizeLine ∧ E (.ref C) none H1
end

abbrev Cx.tr (X : Cx) (pn : List (Addr × Obj)) (W : Value → Shared → Prop) : Cx := { X with pn := pn, xe := W }
abbrev Cx.hdl (X : Cx) (e : Value) : Cx := { X with A := X.A.mark (some e), calm := false, xe := fun _ _ => False }
def EX (C : Addr) (R : St → Hp → Prop) : St → XK := fun σ cls _ H' => cls = .ref C ∧ R σ H'
section
variable {X : Cx} {pins : List (Addr × Obj)} {σ : St} {H : Hp} {s : Shared}
theorem Inv.tr (I : Inv X pins σ H s) (W : Value → Shared → Prop) : Inv (X.tr (X.pn ++ pins) W) [] σ H s :=
  ⟨⟨I.ok.mod, I.ok.kind, I.ok.glob, I.ok.blt, I.ok.above, I.ok.inj, I.ok.has, I.ok.cab, I.ok.hd, I.ok.frames, I.ok.stk, I.ok.exf, I.ok.bs, I.ok.bsz, I.ok.noex, I.ok.exfs, I.ok.funs, I.ok.frf⟩,
    I.os, I.bare, I.base, I.loc, I.cell, I.free, I.freeC, fun p hp => I.pin p (by simpa using hp), I.hok, I.len⟩
theorem Inv.hdl (I : Inv X pins σ H s) (e : Value) : Inv (X.hdl e) pins σ H s :=
  ⟨⟨I.ok.mod, I.ok.kind, I.ok.glob, I.ok.blt, I.ok.above, I.ok.inj, I.ok.has, I.ok.cab, (fun z => by cases z), I.ok.frames, I.ok.stk, I.ok.exf, I.ok.bs, I.ok.bsz, I.ok.noex, I.ok.exfs, I.ok.funs, I.ok.frf⟩,
    I.os, I.bare, I.base, I.loc, I.cell, I.free, I.freeC, I.pin, I.hok, I.len⟩
end
section
variable {X : Cx} {k : Nat} {f C : Addr} {fd : FuncData} {ps : List Str} {sp : Sp} {dvs : List V} {ds : List Value} {E : St → XK} {x m : Str} {p pos apos : Pos} {e o : Expr} {es : List Expr} {ta : TE} {t : TA}
def tMethE (C : Addr) (m : Str) (sp : Sp) (dvs : List V) (E : St → XK) (ta : TE) (t : TA) : TE := fun σ H Q => ta σ H fun x H1 => ∃ a dx fs, x = .ref a ∧ H1 a = some (.ins C dx fs) ∧ fs.lookup m = none ∧
  t σ H1 fun vs H2 => sp (x :: (vs ++ dvs)) H2 Q (E σ)
end
section
variable {X : Cx}
end
section
variable {P : Program} {w : World} {K : PySem.W.Frag} {mg : Str → Option Value} {base : Heap}
/-- a def that lets none out -/
theorem Fun.okC {CX : CXT} {x qual : Str} {st : Stmt} {f : Addr} {fd : FuncData} {N ps : List Str} {k : Nat} {sp : Sp} (F : Fun K x qual st f fd) (S : FnScope N ps (defScope st)) (len : ∀ vs H Q E, sp vs H Q E → vs.length = ps.length)
    (hbody : ∀ (cdv : Value) (A : Around) (outer : List Env) (s : Shared) (H : Hp) (vs : List V) (Q : VK) (E : XK), Room k (A.deeper (envOfC qual (defScope st) s.heap.objs.size f cdv)) → sp vs H Q E →
      ∃ t, PSs (cxOf CX P w K mg base N qual (defScope st) f cdv A outer s H E).nox (defBody st) t ∧ t { nx := fun _ H' => Q .non H', rt := Q } (start N vs) H) : FnOk P w K mg base CX (k + 1) f fd ps sp := by
  obtain ⟨oc, od, kV, doc, pm, an, cdv, ct, osl, rfl, lk, hcd⟩ := F.ex
  refine fn_of lk hcd S len fun A outer s H vs Q E hr hsp => ?_
  obtain ⟨t, h, q⟩ := hbody cdv A outer s H vs Q E hr hsp
  exact ⟨t, h.nox, q⟩
end
end L2

set_option Elab.async false
set_option linter.all false
set_option maxRecDepth 100000
namespace L2
open PySem PySem.Spec PyProof.Rows
section
variable {X : Cx}
/-- f'text{int}' -/
def tFstr (te : TE) : TE := fun σ H Q => te σ H fun x H1 => ∃ i, x = .int i ∧ i.natAbs.log2 < 1920 ∧ ∀ z, Q (.str z) H1
end

theorem Inv.turnedL {X : Cx} {pins : List (Addr × Obj)} {σ : St} {H : Hp} {s : Shared} {h' : Heap} {t' : Nat} {ch : List Addr} (I : Inv X pins σ H s) (k : ∀ b o, b ∉ ch → s.heap.get? b = some o → h'.get? b = some o) (hf : ∀ b ∈ ch, FpOk X pins H b) :
    Inv X pins σ H { s with heap := h', toks := t' } := by
  have nit : ∀ b u, H b = some u → b ∉ ch := fun b u e z => by rw [(hf b z).1] at e; cases e
  have hL : X.env.locals ∉ ch := fun z => (hf _ z).2.1 rfl
  refine I.step (g' := s.gens) (d' := s.drawn) (ch := ch) (fun b hb => ⟨(hf b hb).2.2.2.1, (hf b hb).2.1, (hf b hb).2.2.2.2.1, (hf b hb).2.2.2.2.2⟩) (fun b o _ _ hc e _ => k b o hc e) (fun b o _ _ hc e _ => ⟨o.slots, k b o hc e⟩) (fun _ _ _ _ n => n)
    (fun b o hc e => ⟨o, k b o hc e⟩) (fun _ _ e => e) (fun _ _ _ e => e) (fun b ps e => ⟨#[], by rw [e]; simp⟩) (fun m hm => ?_) (fun b u e => ?_) I.bare
  · obtain ⟨o, es, ep, ho, r⟩ := hm
    exact ⟨o, es, ep, k _ o hL ho, r⟩
  · refine (I.hok b u e).stay (fun c v hc q => k c v ?_ q) (fun _ q => q) fun _ _ q => q
    rcases hc with z | z
    · rw [z]; exact nit b u e
    · exact nit c _ z
section
variable {X : Cx}
end
end L2

set_option Elab.async false
set_option linter.all false
set_option maxRecDepth 100000
namespace L2
open PySem PySem.Spec PyProof.Rows
def keyOf : V → Option Key
  | .int i => some (.inl i)
  | .str z => some (.inr z)
  | _ => none
theorem keyOf_int {i : Int} : keyOf (.int i) = some (.inl i) := rfl
theorem keyOf_str {i : Str} : keyOf (.str i) = some (.inr i) := rfl
theorem keyOf_of {y : V} {k : Key} (h : keyOf y = some k) : y = kV k := by
  cases y <;> first | (cases h; rfl) | (cases h)
def tDGetF (td ty : TE) : TE := fun σ H Q => td σ H fun x H1 => ty σ H1 fun y H2 => ∃ d k kvs v, x = .ref d ∧ keyOf y = some k ∧ H2 d = some (.dK kvs) ∧ valV kvs k = some v ∧ Q v H2
def tDInF (ty td : TE) : TE := fun σ H Q => ty σ H fun y H1 => td σ H1 fun x H2 => ∃ d k kvs, x = .ref d ∧ keyOf y = some k ∧ H2 d = some (.dK kvs) ∧ Q (.bl (valV kvs k).isSome) H2
def tDNotInF (ty td : TE) : TE := fun σ H Q => ty σ H fun y H1 => td σ H1 fun x H2 => ∃ d k kvs, x = .ref d ∧ keyOf y = some k ∧ H2 d = some (.dK kvs) ∧ Q (.bl (!(valV kvs k).isSome)) H2
def sDPutF (td ty tv : TE) : TS := fun D σ H => tv σ H fun v H1 => td σ H1 fun x H2 => ty σ H2 fun y H3 => ∃ d k kvs, x = .ref d ∧ keyOf y = some k ∧ H3 d = some (.dK kvs) ∧ kvs.length < sizeLine ∧ D.nx σ (upd H3 d (.dK (putK kvs k v)))
section
variable {X : Cx} {o i e value : Expr} {pos pos' tpos : Pos} {td ty tv : TE}
theorem pc_dnotinF (hu : X.A.units + 1 < cLine) (hi : PE X i ty) (ho : PE X o td) : PC X .NotIn i o (tDNotInF ty td) := by
  intro pins s σ H Q I h
  refine thn (hi pins s σ H _ I h) fun iv s1 ⟨y, H1, I1, ry, q1⟩ => thn (ho pins s1 σ H1 _ I1 q1) fun u s2 ⟨x, H2, I2, rx, d, k, kvs, ex, ek, hd, q2⟩ => ?_
  subst ex
  cases keyOf_of ek
  obtain rfl : u = Value.ref d := rx
  exact d_notIn hu I2 (DGet.k hd) ry fun s3 I3 => ⟨.bl _, H2, I3, rfl, q2⟩
theorem ps_dputF (hu : X.A.units + 1 < cLine) (ho : PE X o td) (hi : PE X i ty) (hv : PE X value tv) (hs : swapsWith value (some (.Subscript o i pos')) pos.line X.env = pure false) :
    PS X (.Assign [.Subscript o i pos'] value pos) (sDPutF td ty tv) := by
  intro pins s σ H D I h
  refine wpAny_Assign_Subscript (thn (hv pins s σ H _ I h) fun r s1 ⟨v, H1, I1, rv, q1⟩ => thn (ho pins s1 σ H1 _ I1 q1) fun u s2 ⟨x, H2, I2, rx, q2⟩ => thn (hi pins s2 σ H2 _ I2 q2) fun iv s3 ⟨y, H3, I3, ry, d, k, kvs, ex, ek, hd, hl, q3⟩ => ?_) hs
  subst ex
  cases keyOf_of ek
  obtain rfl : u = Value.ref d := rx
  exact d_setItem hu I3 (DPut.k hd hl) ry rv fun s4 I4 => ⟨σ, _, I4, q3⟩
end
end L2

set_option Elab.async false
set_option linter.all false
set_option maxRecDepth 100000
namespace L2
open PySem PySem.Spec PyProof.Rows
theorem cxOf_K {CX : CXT} {P : Program} {w : World} {K : PySem.W.Frag} {mg : Str → Option Value} {base : Heap} {N : List Str} {qual : Str} {scope : Scope} {f : Addr} {cd : Value} {A : Around} {outer : List Env} {s₀ : Shared} {H₀ : Hp} {E : XK} :
    (cxOf CX P w K mg base N qual scope f cd A outer s₀ H₀ E).K = K := rfl
structure Fr (M : Addr → Prop) (H H' : Hp) : Prop where
  keep : ∀ q o, H q = some o → ¬ M q → H' q = some o
  tups : ∀ q xs, H q = some (.tup xs) → H' q = some (.tup xs)
theorem Fr.refl {M : Addr → Prop} {H : Hp} : Fr M H H := ⟨fun _ _ h _ => h, fun _ _ h => h⟩
theorem Fr.trans {M : Addr → Prop} {H H1 H2 : Hp} (x : Fr M H H1) (y : Fr M H1 H2) : Fr M H H2 := ⟨fun q o h n => y.keep q o (x.keep q o h n) n, fun q xs h => y.tups q xs (x.tups q xs h)⟩
theorem Fr.of_same {M : Addr → Prop} {H H' : Hp} (s : Same H H') : Fr M H H' := ⟨fun q o h _ => s q o h, fun q xs h => s q _ h⟩
theorem Fr.laid {M : Addr → Prop} {H : Hp} {p : Addr} {u : HO} (hp : H p = none) : Fr M H (upd H p u) := .of_same (.laid hp)
theorem Fr.step {M : Addr → Prop} {H H1 : Hp} {p : Addr} {u : HO} (x : Fr M H H1) (hp : H1 p = none) : Fr M H (upd H1 p u) := x.trans (.laid hp)
theorem Fr.put {M : Addr → Prop} {H : Hp} {p : Addr} {u : HO} (hm : M p) (ht : ∀ xs, H p ≠ some (.tup xs)) : Fr M H (upd H p u) :=
  ⟨fun q o h n => by rw [upd_ne (fun e => n (by rw [e]; exact hm))]; exact h, fun q xs h => by rw [upd_ne (fun e => ht xs (by rw [← e]; exact h))]; exact h⟩
theorem Fr.mono {M M' : Addr → Prop} {H H' : Hp} (x : Fr M H H') (h : ∀ q, M q → M' q) : Fr M' H H' := ⟨fun q o e n => x.keep q o e (fun m => n (h q m)), x.tups⟩
theorem Fr.none {M : Addr → Prop} {H H' : Hp} (x : Fr M H H') (h : ∀ q o, M q → H q = some o → H' q = some o) : Same H H' := fun q o e => by
  by_cases m : M q
  · exact h q o m e
  · exact x.keep q o e m
theorem for1 {ta : TA} {g : TG} {tb : TS} {D : Ends} {σ : St} {H H1 : Hp} (n : Int) (hr : ∀ Q, Q [.int n] H1 → ta σ H Q) (n0 : -(2 ^ 62) ≤ n) (n1 : n < 2 ^ 62) (Pv : Nat → St → Hp → Prop) (h0 : Pv 0 σ H1)
    (hs : ∀ i σ H, i < n.toNat → Pv i σ H → g (.int (0 + i)) σ H fun σ2 H2 => tb { D with nx := Pv (i + 1), ct := Pv (i + 1), bk := D.nx } σ2 H2) (hd : ∀ σ H, Pv n.toNat σ H → D.nx σ H) :
    tFor (iRng1 ta) g tb D σ H := hr _ ⟨n, rfl, n0, n1, for_range Pv h0 hs hd⟩
theorem forL {K : PySem.W.Frag} {tl : TE} {g : TG} {tb : TS} {D : Ends} {σ : St} {H H1 : Hp} (a : Addr) (xs : List V) (hr : ∀ Q, Q (.ref a) H1 → tl σ H Q) (Pv : Nat → St → Hp → Prop) (h0 : Pv 0 σ H1) (hl : ∀ i σ H, i ≤ xs.length → Pv i σ H → SqL K H a xs)
    (hs : ∀ i x σ H, xs[i]? = some x → Pv i σ H → g x σ H fun σ2 H2 => tb { D with nx := Pv (i + 1), ct := Pv (i + 1), bk := D.nx } σ2 H2) (hd : ∀ σ H, Pv xs.length σ H → D.nx σ H) :
    tFor (iList K tl) g tb D σ H := hr _ ⟨a, rfl, ⟨xs, hl 0 σ H1 (Nat.zero_le _) h0⟩, for_list Pv h0 hl hs hd⟩
theorem comp1 {cap : List (Option Nat)} {ta : TA} {g : TG} {tt : TT} {te : TE} {σ : St} {H H1 : Hp} {Q : VK} (n : Int) (hr : ∀ Q, Q [.int n] H1 → ta σ H Q) (n0 : -(2 ^ 62) ≤ n) (n1 : n < 2 ^ 62) (Pv : Addr → Nat → List V → Hp → Prop) (h0 : ∀ D, H1 D = none → Pv D 0 [] (upd H1 D (.lst [])))
    (hl : ∀ D, H1 D = none → ∀ i ys H, i ≤ n.toNat → Pv D i ys H → H D = some (.lst ys) ∧ ys.length ≤ i) (hz : n.toNat ≤ sizeLine)
    (hs : ∀ D, H1 D = none → ∀ i ys H, i < n.toNat → Pv D i ys H → g (.int (0 + i)) (capSt cap σ) H fun σ4 H4 => tt σ4 H4 fun b H5 => if b = true then te σ4 H5 fun y H6 => H6 D = some (.lst ys) ∧ Pv D (i + 1) (ys ++ [y]) (upd H6 D (.lst (ys ++ [y]))) else Pv D (i + 1) ys H5)
    (hd : ∀ D, H1 D = none → ∀ ys H, Pv D n.toNat ys H → Q (.ref D) H) : tComp cap (iRng1 ta) g tt te σ H Q := hr _ ⟨n, rfl, n0, n1, fun D hD => comp_range (R := fun H => Q (.ref D) H) (Pv D) (h0 D hD) (hl D hD) hz (hs D hD) (hd D hD)⟩
theorem compL {K : PySem.W.Frag} {cap : List (Option Nat)} {tl : TE} {g : TG} {tt : TT} {te : TE} {σ : St} {H H1 : Hp} {Q : VK} (a : Addr) (xs : List V) (hr : ∀ Q, Q (.ref a) H1 → tl σ H Q) (hq : SqL K H1 a xs) (Pv : Addr → Nat → List V → Hp → Prop) (h0 : ∀ D, H1 D = none → Pv D 0 [] (upd H1 D (.lst [])))
    (hl : ∀ D, H1 D = none → ∀ i ys H, i ≤ xs.length → Pv D i ys H → SqL K H a xs ∧ H D = some (.lst ys) ∧ ys.length ≤ i) (hz : xs.length ≤ sizeLine)
    (hs : ∀ D, H1 D = none → ∀ i x ys H, xs[i]? = some x → Pv D i ys H → g x (capSt cap σ) H fun σ4 H4 => tt σ4 H4 fun b H5 => if b = true then te σ4 H5 fun y H6 => H6 D = some (.lst ys) ∧ Pv D (i + 1) (ys ++ [y]) (upd H6 D (.lst (ys ++ [y]))) else Pv D (i + 1) ys H5)
    (hd : ∀ D, H1 D = none → ∀ ys H, Pv D xs.length ys H → Q (.ref D) H) : tComp cap (iList K tl) g tt te σ H Q := hr _ ⟨a, rfl, ⟨xs, hq⟩, fun D hD => comp_list (R := fun H => Q (.ref D) H) (Pv D) (h0 D hD) (hl D hD) hz (hs D hD) (hd D hD)⟩
theorem compL_ {K : PySem.W.Frag} {cap : List (Option Nat)} {tl : TE} {g : TG} {tt : TT} {te : TE} {σ : St} {H : Hp} {Q : VK} (Pre : Addr → Hp → Prop) (hr : ∀ Q, (∀ a H1, Pre a H1 → Q (.ref a) H1) → tl σ H Q)
    (h : ∀ a H1, Pre a H1 → tComp cap (iList K (tC (.ref a))) g tt te σ H1 Q) : tComp cap (iList K tl) g tt te σ H Q := hr _ fun a H1 p => h a H1 p
theorem forL_ {K : PySem.W.Frag} {tl : TE} {g : TG} {tb : TS} {D : Ends} {σ : St} {H : Hp} (Pre : Addr → Hp → Prop) (hr : ∀ Q, (∀ a H1, Pre a H1 → Q (.ref a) H1) → tl σ H Q)
    (h : ∀ a H1, Pre a H1 → tFor (iList K (tC (.ref a))) g tb D σ H1) : tFor (iList K tl) g tb D σ H := hr _ fun a H1 p => h a H1 p
theorem gTup_of {K : PySem.W.Frag} {n : Nat} {t : TGs} {a : Addr} {xs : List V} {σ : St} {H : Hp} {Q : St → Hp → Prop} (h : H a = some (.tup xs)) (hl : xs.length = n) (q : t xs σ H Q) : gTup K n t (.ref a) σ H Q := ⟨a, xs, rfl, .of h, hl, q⟩
abbrev Th := Int × List Int × List Int
def thW (t : Th) : List Int := (16 * (t.2.1.length : Int) + t.2.2.length) :: (t.2.1 ++ t.2.2)
def thSz (t : Th) : Int := 1 + t.2.1.length + t.2.2.length
def thWord (t : Th) (z : Int) : Option Int := if z < t.1 then none else (thW t)[(z - t.1).toNat]?
def wordAt (ts : List Th) (z : Int) : Option Int := ts.findSome? fun t => thWord t z
def Lay : Int → List Th → Int → Prop
  | s, [], f => f = s
  | s, t :: r, f => t.1 = s ∧ Lay (s + thSz t) r f
theorem thSz_pos (t : Th) : 1 ≤ thSz t := by unfold thSz; omega
theorem thW_len (t : Th) : ((thW t).length : Int) = thSz t := by unfold thW thSz; simp; omega
theorem thWord_none {t : Th} {z : Int} : thWord t z = none ↔ z < t.1 ∨ t.1 + thSz t ≤ z := by
  unfold thWord
  have h := thW_len t
  by_cases c : z < t.1
  · simp [c]
  · simp only [if_neg c, List.getElem?_eq_none_iff]
    omega
theorem wordAt_cons {t : Th} {r : List Th} {z : Int} : wordAt (t :: r) z = (thWord t z).or (wordAt r z) := by
  unfold wordAt; rw [List.findSome?_cons]; cases thWord t z <;> rfl
theorem Lay.snoc : ∀ {ts : List Th} {s f : Int} {t : Th}, Lay s ts f → t.1 = f → Lay s (ts ++ [t]) (f + thSz t)
  | [], s, f, t, h, e => by
    cases (show f = s from h)
    exact ⟨e, rfl⟩
  | u :: r, s, f, t, ⟨h1, h2⟩, e => ⟨h1, Lay.snoc h2 e⟩
theorem Lay.le : ∀ {ts : List Th} {s f : Int}, Lay s ts f → s ≤ f
  | [], s, f, h => by cases (show f = s from h); exact Int.le_refl _
  | u :: r, s, f, ⟨h1, h2⟩ => by have := Lay.le h2; have := thSz_pos u; omega
theorem Lay.mem : ∀ {ts : List Th} {s f : Int} {t : Th}, Lay s ts f → t ∈ ts → s ≤ t.1 ∧ t.1 + thSz t ≤ f
  | [], s, f, t, h, m => by cases m
  | u :: r, s, f, t, ⟨h1, h2⟩, m => by
    have p := thSz_pos u
    rcases List.mem_cons.mp m with e | m
    · subst e; have := Lay.le h2; omega
    · have := Lay.mem h2 m; omega
theorem Lay.apart : ∀ {ts : List Th} {s f : Int} {t t' : Th}, Lay s ts f → t ∈ ts → t' ∈ ts → t.1 < t'.1 → t.1 + thSz t ≤ t'.1
  | [], s, f, t, t', h, m, _, _ => by cases m
  | u :: r, s, f, t, t', ⟨h1, h2⟩, m, m', lt => by
    rcases List.mem_cons.mp m with e | n <;> rcases List.mem_cons.mp m' with e' | n'
    · subst e; subst e'; omega
    · subst e; have := Lay.mem h2 n'; omega
    · subst e'; have := Lay.mem h2 n; have := thSz_pos t'; omega
    · exact Lay.apart h2 n n' lt
theorem Lay.rising : ∀ {ts : List Th} {s f : Int}, Lay s ts f → (ts.map (·.1)).Pairwise (· < ·)
  | [], s, f, h => .nil
  | u :: r, s, f, ⟨h1, h2⟩ => by
    rw [List.map_cons]
    refine List.Pairwise.cons (fun x hx => ?_) (Lay.rising h2)
    obtain ⟨t, ht, rfl⟩ := List.mem_map.mp hx
    have := Lay.mem h2 ht; have := thSz_pos u; omega
theorem Lay.inj {ts : List Th} {s f : Int} {t t' : Th} (h : Lay s ts f) (m : t ∈ ts) (m' : t' ∈ ts) (e : t.1 = t'.1) : t = t' := by
  have p := Lay.rising h
  rw [List.pairwise_map] at p
  rcases List.getElem_of_mem m with ⟨i, hi, rfl⟩
  rcases List.getElem_of_mem m' with ⟨j, hj, rfl⟩
  rcases Nat.lt_trichotomy i j with c | c | c
  · have := (List.pairwise_iff_getElem.mp p) i j hi hj c; omega
  · subst c; rfl
  · have := (List.pairwise_iff_getElem.mp p) j i hj hi c; omega
theorem Lay.word : ∀ {ts : List Th} {s f : Int} {t : Th} {z : Int}, Lay s ts f → t ∈ ts → t.1 ≤ z → z < t.1 + thSz t → wordAt ts z = thWord t z
  | [], s, f, t, z, h, m, _, _ => by cases m
  | u :: r, s, f, t, z, ⟨h1, h2⟩, m, a, b => by
    rw [wordAt_cons]
    rcases List.mem_cons.mp m with e | m
    · subst e
      cases e : thWord t z with
      | none => rcases thWord_none.mp e with c | c <;> omega
      | some x => rfl
    · have q := Lay.mem h2 m
      rw [thWord_none.mpr (.inr (by omega)), Lay.word h2 m a b]; rfl
theorem Lay.set : ∀ {ts : List Th} {s f : Int} {k : Nat} {t t' : Th}, Lay s ts f → ts[k]? = some t → t'.1 = t.1 → thSz t' = thSz t → Lay s (ts.set k t') f
  | [], s, f, k, t, t', h, hk, _, _ => by simp at hk
  | u :: r, s, f, 0, t, t', ⟨h1, h2⟩, hk, e1, e2 => by
    simp at hk; subst hk
    rw [List.set_cons_zero]
    exact ⟨by omega, by rw [e2]; exact h2⟩
  | u :: r, s, f, k + 1, t, t', ⟨h1, h2⟩, hk, e1, e2 => by
    rw [List.getElem?_cons_succ] at hk
    rw [List.set_cons_succ]
    exact ⟨h1, Lay.set h2 hk e1 e2⟩
structure Yd where
  p : Addr
  dx : Addr
  dw : Addr
  ds : Addr
def yF (y : Yd) (free : Int) : List (Str × V) := [("free", .int free), ("words", .ref y.dw), ("sizes", .ref y.ds)]
structure YardAt (C : Addr) (H : Hp) (y : Yd) (W : Int → Option Int) (S : List (Int × Int × Int)) (free : Int) : Prop where
  ins : H y.p = some (.ins C y.dx (yF y free))
  words : ∃ kw, H y.dw = some (.dK kw) ∧ (∀ z, valV kw (.inl z) = (W z).map V.int) ∧ kw.length ≤ 19 * S.length
  sizes : ∃ ks, H y.ds = some (.dK ks) ∧ ks.map (·.1) = S.map (fun t => Sum.inl t.1) ∧ (∀ t ∈ S, ∃ q, valV ks (.inl t.1) = some (.ref q) ∧ H q = some (.tup [.int t.2.1, .int t.2.2])) ∧ (∀ z, (∀ t ∈ S, t.1 ≠ z) → valV ks (.inl z) = none)
  ne : y.dw ≠ y.ds
theorem YardAt.fr {C : Addr} {H H' : Hp} {y : Yd} {W : Int → Option Int} {S : List (Int × Int × Int)} {free : Int} {M : Addr → Prop} (x : YardAt C H y W S free) (f : Fr M H H') (h1 : ¬ M y.p) (h2 : ¬ M y.dw) (h3 : ¬ M y.ds) : YardAt C H' y W S free := by
  obtain ⟨a, ⟨kw, b1, b2, b3⟩, ⟨ks, c1, c2, c3, c4⟩, d⟩ := x
  refine ⟨f.keep _ _ a h1, ⟨kw, f.keep _ _ b1 h2, b2, b3⟩, ⟨ks, f.keep _ _ c1 h3, c2, fun t ht => ?_, c4⟩, d⟩
  obtain ⟨q, e1, e2⟩ := c3 t ht
  exact ⟨q, e1, f.tups _ _ e2⟩
theorem YardAt.same {C : Addr} {H H' : Hp} {y : Yd} {W : Int → Option Int} {S : List (Int × Int × Int)} {free : Int} (x : YardAt C H y W S free) (s : Same H H') : YardAt C H' y W S free :=
  x.fr (M := fun _ => False) (.of_same s) id id id
theorem keys_putK_there {kvs : List (Key × V)} {k : Key} {v x : V} (h : valV kvs k = some x) : (putK kvs k v).map (·.1) = kvs.map (·.1) := by
  unfold putK
  rw [valV_any, h, if_pos (by rfl), List.map_map]
  refine List.map_congr_left fun p _ => ?_
  show (if p.1 = k then (p.1, v) else p).1 = p.1
  split <;> rfl
structure RowsAt (mk : List V → HO) (H : Hp) (l : Addr) (as : List (Addr × Addr × Addr)) (ts : List Th) : Prop where
  top : H l = some (.lst (as.map fun a => V.ref a.1))
  len : as.length = ts.length
  row : ∀ (k : Nat) (a : Addr × Addr × Addr) (t : Th), as[k]? = some a → ts[k]? = some t → H a.1 = some (.tup [.int t.1, .ref a.2.1, .ref a.2.2]) ∧ H a.2.1 = some (mk (t.2.1.map V.int)) ∧ H a.2.2 = some (mk (t.2.2.map V.int))
theorem RowsAt.at_ {mk : List V → HO} {H : Hp} {l : Addr} {as : List (Addr × Addr × Addr)} {ts : List Th} (x : RowsAt mk H l as ts) {k : Nat} {t : Th} (hk : ts[k]? = some t) :
    ∃ a, as[k]? = some a ∧ H a.1 = some (.tup [.int t.1, .ref a.2.1, .ref a.2.2]) ∧ H a.2.1 = some (mk (t.2.1.map V.int)) ∧ H a.2.2 = some (mk (t.2.2.map V.int)) := by
  have hl := (List.getElem?_eq_some_iff.mp hk).1
  have hl' : k < as.length := by rw [x.len]; exact hl
  exact ⟨as[k], List.getElem?_eq_getElem hl', x.row k _ t (List.getElem?_eq_getElem hl') hk⟩
theorem RowsAt.same {mk : List V → HO} {H H' : Hp} {l : Addr} {as : List (Addr × Addr × Addr)} {ts : List Th} (x : RowsAt mk H l as ts) (s : Same H H') : RowsAt mk H' l as ts :=
  ⟨s _ _ x.top, x.len, fun k a t h1 h2 => by obtain ⟨e1, e2, e3⟩ := x.row k a t h1 h2; exact ⟨s _ _ e1, s _ _ e2, s _ _ e3⟩⟩
abbrev Tag := Nat × Nat × Nat
def Tagged (g : Addr → Tag) (y : Nat) (as : List (Addr × Addr × Addr)) : Prop := ∀ (k : Nat) (a : Addr × Addr × Addr), as[k]? = some a → g a.2.1 = (2 + y, k, 1) ∧ g a.2.2 = (2 + y, k, 2)
theorem RowsAt.fr {H H' : Hp} {l : Addr} {as : List (Addr × Addr × Addr)} {ts : List Th} {M : Addr → Prop} {g : Addr → Tag} {y : Nat} (x : RowsAt HO.lst H l as ts) (f : Fr M H H') (tg : Tagged g y as) (h1 : ¬ M l) (h2 : ∀ q, (g q).1 = 2 + y → ¬ M q) : RowsAt HO.lst H' l as ts :=
  ⟨f.keep _ _ x.top h1, x.len, fun k a t ha ht => by
    obtain ⟨e1, e2, e3⟩ := x.row k a t ha ht
    obtain ⟨g1, g2⟩ := tg k a ha
    exact ⟨f.tups _ _ e1, f.keep _ _ e2 (h2 _ (by rw [g1])), f.keep _ _ e3 (h2 _ (by rw [g2]))⟩⟩
theorem perm_rising {ms ns : List Int} (hp : ms.Perm ns) (hs : ms.Pairwise (· ≤ ·)) (hr : ns.Pairwise (· < ·)) : ms = ns :=
  List.Perm.eq_of_pairwise (le := (· ≤ ·)) (fun a b _ _ h1 h2 => Int.le_antisymm h1 h2) hs (hr.imp fun h => Int.le_of_lt h) hp
end L2

set_option Elab.async false
set_option linter.all false
set_option maxRecDepth 100000
namespace L2
open PySem PySem.Spec PyProof.Rows
def rEqE (neg : Bool) : R2 := fun x y H Q => ∃ l b xs, x = .ref l ∧ y = .ref b ∧ seqV H l = some xs ∧ kindV H l = some true ∧ seqV H b = some [] ∧ kindV H b = some true ∧ Q (.bl (if neg then !xs.isEmpty else xs.isEmpty)) H
theorem none_eqAt {A : Around} {s : Shared} {us : List Value} (h : us.length = 0) (ws : List Value) :
    ∀ j (h1 : j < us.toArray.size) (h2 : j < ws.toArray.size), SeqAt.EqAt A s us.toArray[j] ws.toArray[j] ((fun _ => true) j) := by
  intro j h1 h2
  simp only [List.size_toArray] at h1
  omega
section
variable {X : Cx}
theorem op_eqE (hu : X.A.units + 1 < cLine) : OpR X (compareOp .Eq) (rEqE false) := by
  intro pins s σ H x y v u Q I rx ry h
  obtain ⟨l, b, xs, rfl, rfl, h1, k1, h2, k2, q⟩ := h
  cases rx
  cases ry
  obtain ⟨us, r1, p1, z1⟩ := I.list (kindV_l (K := X.K) h1 k1)
  obtain ⟨ws, r2, p2, z2⟩ := I.list (kindV_l (K := X.K) h2 k2)
  have l1 := r1.length
  have l2 := r2.length
  cases xs with
  | nil =>
    refine SeqAt.eq_listAt p1.isList p2.isList (by simp at l1 l2 ⊢; omega) (by omega) (none_eqAt (by simpa using l1.symm) ws) ⟨.bl _, H, I, rfl, ?_⟩
    have e : (List.range us.toArray.size).all (fun _ => true) = true := by simp
    rw [e]
    exact q
  | cons x xs =>
    refine SeqAt.eq_list_lengthsAt p1.isList p2.isList (by simp at l1 l2 ⊢; omega) (by omega) ⟨.bl _, H, I, rfl, ?_⟩
    exact q
theorem op_neE (hu : X.A.units + 1 < cLine) : OpR X (compareOp .NotEq) (rEqE true) := by
  intro pins s σ H x y v u Q I rx ry h
  obtain ⟨l, b, xs, rfl, rfl, h1, k1, h2, k2, q⟩ := h
  cases rx
  cases ry
  obtain ⟨us, r1, p1, z1⟩ := I.list (kindV_l (K := X.K) h1 k1)
  obtain ⟨ws, r2, p2, z2⟩ := I.list (kindV_l (K := X.K) h2 k2)
  have l1 := r1.length
  have l2 := r2.length
  cases xs with
  | nil =>
    refine SeqAt.RcNeAt.lists p1.isList p2.isList (by simp at l1 l2 ⊢; omega) (by omega) (none_eqAt (by simpa using l1.symm) ws) _ _ _ _ ⟨.bl _, H, I, rfl, ?_⟩
    have e : (List.range us.toArray.size).all (fun _ => true) = true := by simp
    rw [e]
    exact q
  | cons x xs =>
    refine SeqAt.RcNeAt.lists_lengths p1.isList p2.isList (by simp at l1 l2 ⊢; omega) (by omega) _ _ _ _ ⟨.bl _, H, I, rfl, ?_⟩
    exact q
end
end L2

set_option Elab.async false
set_option linter.all false
set_option maxRecDepth 100000
namespace L2
open PySem PySem.Spec PyProof.Rows
section
variable {prog : Program} {w : World} {K : Type} [DecidableEq K] {knd : KeyKind prog w K} {A : Around} {E : Value → Shared → Prop} {s : Shared}
end
end L2

set_option Elab.async false
set_option linter.all false
set_option maxRecDepth 100000
namespace L2
open PySem PySem.Spec PyProof.Rows
section
variable {prog : Program} {w : World} {A : Around} {E : Value → Shared → Prop} {s : Shared} {a₀ : Array Keyed}
end
section
variable {prog : Program} {w : World} {A : Around} {E : Value → Shared → Prop} {s : Shared} {T : String} {r d : Addr} {n : Nat} {P : Nat → Value → Prop} {OK : Heap → Prop} {Q : Value → Shared → Prop}
end
section
variable {X : Cx}
end
end L2

set_option Elab.async false
set_option linter.all false
set_option maxRecDepth 100000
namespace L2
open PySem PySem.Spec PyProof.Rows
def stepO (ord : List Int) (h : Int) : List Int := if h = 0 ∨ h ∈ ord then ord else ord ++ [h]
def layO (ord hs : List Int) : List Int := hs.foldl stepO ord
theorem layO_app {ord a b : List Int} : layO ord (a ++ b) = layO (layO ord a) b := List.foldl_append
theorem layO_snoc {ord a : List Int} {h : Int} : layO ord (a ++ [h]) = stepO (layO ord a) h := by rw [layO_app]; rfl
theorem stepO_pre {ord : List Int} {h : Int} : ord <+: stepO ord h := by
  unfold stepO
  split
  · exact List.prefix_refl _
  · exact List.prefix_append _ _
theorem layO_pre : ∀ {hs ord : List Int}, ord <+: layO ord hs
  | [], _ => List.prefix_refl _
  | h :: hs, ord => stepO_pre.trans (layO_pre (hs := hs))
theorem layO_mono {a b : List Int} (h : a <+: b) : layO [] a <+: layO [] b := by
  obtain ⟨c, rfl⟩ := h
  rw [layO_app]
  exact layO_pre
def thAt (ts : List Th) (z : Int) : Th := (ts.find? fun t => t.1 == z).getD (0, [], [])
def holdsAt (ts : List Th) (z : Int) : List Int := (thAt ts z).2.1
def stream (ts : List Th) (roots ord : List Int) : List Int := roots ++ ord.flatMap (holdsAt ts)
theorem stream_pre {ts : List Th} {roots a b : List Int} (h : a <+: b) : stream ts roots a <+: stream ts roots b := by
  obtain ⟨c, rfl⟩ := h
  unfold stream
  rw [List.flatMap_append, ← List.append_assoc]
  exact List.prefix_append _ _
structure Cart (ts : List Th) (roots ord : List Int) : Prop where
  fix : layO [] (stream ts roots ord) = ord
  led : ∀ n, n < ord.length → ord.take (n + 1) <+: layO [] (stream ts roots (ord.take n))
theorem Cart.one {ts : List Th} {roots o1 o2 : List Int} (c1 : Cart ts roots o1) (c2 : Cart ts roots o2) : ∀ n, n ≤ o1.length → o1.take n = o2.take n ∧ n ≤ o2.length
  | 0, _ => ⟨rfl, Nat.zero_le _⟩
  | n + 1, h => by
    obtain ⟨e, l⟩ := Cart.one c1 c2 n (by omega)
    have p1 := c1.led n (by omega)
    rw [e] at p1
    have p2 : layO [] (stream ts roots (o2.take n)) <+: o2 := by
      have := layO_mono (stream_pre (ts := ts) (roots := roots) (List.take_prefix n o2))
      rw [c2.fix] at this
      exact this
    have p := p1.trans p2
    have len : (o1.take (n + 1)).length = n + 1 := by rw [List.length_take]; omega
    have e2 := List.prefix_iff_eq_take.mp p
    rw [len] at e2
    exact ⟨e2, by have := p.length_le; omega⟩
/-- a step of either loop: what is laid is led to -/
structure Going (ts : List Th) (roots done ord : List Int) : Prop where
  is : layO [] done = ord
  pre : done <+: stream ts roots ord
  led : ∀ n, n < ord.length → ord.take (n + 1) <+: layO [] (stream ts roots (ord.take n))
theorem Going.nil {ts : List Th} {roots : List Int} : Going ts roots [] [] := ⟨rfl, List.nil_prefix, fun n h => by simp at h⟩
theorem Going.step {ts : List Th} {roots done ord : List Int} (g : Going ts roots done ord) {h : Int} (hp : done ++ [h] <+: stream ts roots ord) : Going ts roots (done ++ [h]) (stepO ord h) := by
  have e : layO [] (done ++ [h]) = stepO ord h := by rw [layO_snoc, g.is]
  refine ⟨e, hp.trans (stream_pre stepO_pre), fun n hn => ?_⟩
  unfold stepO at hn ⊢
  split at hn
  · rename_i c
    rw [if_pos c]
    exact g.led n hn
  · rename_i c
    rw [if_neg c]
    rw [List.length_append, List.length_singleton] at hn
    by_cases d : n < ord.length
    · rw [List.take_append_of_le_length (by omega), List.take_append_of_le_length (by omega)]
      exact g.led n d
    · have en : n = ord.length := by omega
      rw [en, List.take_of_length_le (by rw [List.length_append]; simp), List.take_append_of_le_length (Nat.le_refl _), List.take_length]
      have := layO_mono hp
      rw [e] at this
      unfold stepO at this
      rw [if_neg c] at this
      exact this
theorem Going.done {ts : List Th} {roots ord : List Int} (g : Going ts roots (stream ts roots ord) ord) : Cart ts roots ord := ⟨g.is, g.led⟩
end L2

set_option Elab.async false
set_option linter.all false
set_option maxRecDepth 100000
namespace L2
open PySem PySem.Spec PyProof.Rows
def Ite (K : PySem.W.Frag) (l : Addr) : It :=
  ⟨fun i H => ∃ xs x, SqL K H l xs ∧ xs[i]? = some x,
   fun i H v H' => ∃ p x, v = .ref p ∧ H p = none ∧ H' = upd H p (.tup [.int i, x]) ∧ ∀ xs, SqL K H l xs → xs[i]? = some x,
   fun i H => ∃ xs, SqL K H l xs ∧ xs.length ≤ i⟩
structure EnSt (e it l : Addr) (i : Nat) (h : Heap) : Prop where
  e : ∃ old, IsEnum h e it i old
  h1 : h.IsListIter it l i
theorem turn_enum {P : Program} {w : World} {K : PySem.W.Frag} {es : List Expr} {tk : Nat} {tpos : Pos} (e it l : Addr) (ne : e ≠ it) : Turn P w K (.Tuple es tk tpos) (Ite K l) [e, it] e (EnSt e it l) where
  mem := by simp
  obj := fun i h st b hb => by
    simp only [List.mem_cons, List.not_mem_nil, or_false] at hb
    rcases hb with rfl | rfl
    · obtain ⟨old, g⟩ := st.e
      exact ⟨_, g, fun v z => by cases (show Data.fields _ = Data.cell v from z)⟩
    · obtain ⟨o, g, _, d⟩ := st.h1
      exact ⟨o, g, fun v z => by rw [d] at z; cases z⟩
  keep := fun i h h' st k => by
    obtain ⟨old, g⟩ := st.e
    exact ⟨⟨old, k e (by simp) _ g⟩, st.h1.at fun o g => k it (by simp) o g⟩
  item := by
    intro X hP hw hK hc i pins s σ H E I hf st hg
    subst hP hw hK
    obtain ⟨xs, x, hq, hx⟩ := hg
    obtain ⟨us, r1, p1, z1⟩ := I.list hq
    obtain ⟨u, eu, ru⟩ := r1.get hx
    obtain ⟨old, ge⟩ := st.e
    refine wpAny_pyNext_enum_item ge st.h1 p1.isList (x := u) (by simpa using eu) ne fun h' a1 a2 a3 a4 a5 => ?_
    refine ⟨_, rfl, wpAny_letOwnedTupleGo_enum a1 fun h2 b1 b2 => ?_⟩
    have lt1 : e < s.heap.objs.size := Heap.lt_size ge
    have lt2 : it < s.heap.objs.size := by obtain ⟨o, g, _⟩ := st.h1; exact Heap.lt_size g
    have hlt : ∀ c ∈ [e, it], c < s.heap.objs.size := fun c hc => by
      simp only [List.mem_cons, List.not_mem_nil, or_false] at hc
      rcases hc with rfl | rfl
      · exact lt1
      · exact lt2
    have kk : ∀ b o, b ∉ [e, it] → s.heap.get? b = some o → h2.get? b = some o := fun b o hb g => by
      simp only [List.mem_cons, List.not_mem_nil, or_false, not_or] at hb
      exact b2.extBut b o hb.1 (a5 b o hb.1 hb.2 g)
    have gp := b2.extBut _ _ (Nat.ne_of_gt lt1) a3
    have hn : H s.heap.objs.size = none := I.hok.fresh (Nat.le_refl _)
    have nit : ∀ b u, H b = some u → b ∉ [e, it] := fun b u g w => by rw [(hf b w).1] at g; cases g
    have hL : X.env.locals ∉ [e, it] := fun w => (hf _ w).2.1 rfl
    have I2 : Inv X pins σ (upd H s.heap.objs.size (.tup [.int i, x])) { s with heap := h2, toks := s.toks + 1 } := by
      refine I.step (g' := s.gens) (d' := s.drawn) (t' := s.toks + 1) (ch := [e, it]) (fun b hb => ⟨(hf b hb).2.2.2.1, (hf b hb).2.1, (hf b hb).2.2.2.2.1, (hf b hb).2.2.2.2.2⟩) (fun b o _ _ hc g _ => kk b o hc g) (fun b o _ _ hc g _ => ⟨o.slots, kk b o hc g⟩)
        (fun b o _ g n => by rw [upd_ne (Nat.ne_of_lt (Heap.lt_size g))]; exact n) (fun b o hc g => ⟨o, kk b o hc g⟩) (fun _ _ g => upd_old g hn) (fun _ _ _ g => upd_old g hn) (fun b ps g => ⟨#[], by rw [upd_old g hn]; simp⟩) (fun m hm => ?_) (fun b w g => ?_) I.bare
      · obtain ⟨o, es, ep, ho, r⟩ := hm
        exact ⟨o, es, ep, kk _ o hL ho, r⟩
      · by_cases hb : b = s.heap.objs.size
        · subst hb
          rw [upd_same] at g
          cases g
          exact ⟨by rw [sizeLine_eq]; show 2 ≤ 16777216; decide, [.int i s.toks, u], .cons ⟨_, rfl⟩ (.cons ru .nil), ⟨_, gp, rfl, _, rfl⟩⟩
        · rw [upd_ne hb] at g
          refine (I.hok b w g).stay (fun c v hc q => kk c v ?_ q) (fun _ q => upd_old q hn) fun _ _ q => upd_old q hn
          rcases hc with t | t
          · rw [t]; exact nit b w g
          · exact nit c _ t
    refine ⟨.ref s.heap.objs.size, _, I2, rfl, ⟨_, x, rfl, hn, rfl, fun zs hz => by rw [I.list_inj hz hq]; exact hx⟩, ⟨⟨u, by have := b1; simpa using this⟩, a2.extBut b2.extBut ne.symm⟩, fun b hb => ?_⟩
    rw [upd_ne (Nat.ne_of_lt (hlt b hb))]
    exact (hf b hb).1
  done := by
    intro X hP hw hK hc i pins s σ H E I hf st hg
    subst hP hw hK
    obtain ⟨xs, hq, hor⟩ := hg
    obtain ⟨us, r1, p1, z1⟩ := I.list hq
    obtain ⟨old, ge⟩ := st.e
    have ln := r1.length
    refine wpAny_pyNext_enum_end (I.ok.hd hc) ge st.h1 p1.isList (by simp; omega) fun h' kk => ⟨rfl, I.turnedL (t' := s.toks) (ch := [e, it]) (fun b o hb g => ?_) hf⟩
    simp only [List.mem_cons, List.not_mem_nil, or_false, not_or] at hb
    exact kk b o hb.2 g
  self := fun _ _ _ _ _ st h => by
    obtain ⟨old, ge⟩ := st.e
    exact wpAny_pyIter_enum ge h
section
variable {X : Cx}
def iEnum (K : PySem.W.Frag) (ta : TA) : TI := fun σ H R => ta σ H fun vs H1 => ∃ l, vs = [.ref l] ∧ (∃ xs, SqL K H1 l xs) ∧ R (Ite K l) H1
theorem pi_enum {es : List Expr} {tk : Nat} {tpos : Pos} {a : Expr} {ta : TA} {p pos : Pos} (hg : Gl X "enumerate") (hm : X.mg "enumerate" = none) (ha : PA X [a] ta) (hs : starEach [a] X.env = [(false, eval a X.env)] := by rfl) (hs2 : starEach [] X.env = [] := by rfl) :
    PI X (.Tuple es tk tpos) (.Call (.Name "enumerate" p) [a] [] pos) (iEnum X.K ta) := by
  intro pins s σ H R I h
  refine Call_ (ld_blt I hg hm boot_enumerate (PyProof.Rows.callWith_type1 (thn (ha pos pins s σ H _ I h) fun us s1 ⟨vs, H1, I1, r1, q1⟩ => ?_) (by rw [hs, hs2]) (by rw [hs2]; rfl)))
  obtain ⟨l, rfl, ⟨xs, hq⟩, q⟩ := q1
  obtain ⟨u1, rfl, ru1⟩ := vals1 r1
  cases ru1
  obtain ⟨us, rv, p1, z1⟩ := I1.list hq
  refine call_enumerate_list p1.isList fun h2 g1 g2 g3 g4 => wpAny_pyIter_enum g1 ?_
  refine ⟨_, [s1.heap.objs.size + 1, s1.heap.objs.size], _, _, H1, rfl, I1.kept (t' := s1.toks) g4, turn_enum _ _ l (Nat.ne_of_gt (Nat.lt_succ_self _)), ⟨⟨_, g1⟩, g2⟩, fun b hb => ?_, q⟩
  have hb2 : s1.heap.objs.size ≤ b := by
    simp only [List.mem_cons, List.not_mem_nil, or_false] at hb
    rcases hb with rfl | rfl
    · exact Nat.le_add_right _ _
    · exact Nat.le_refl _
  exact I1.fpOk hb2 (I1.hok.fresh hb2)
end
theorem forE {K : PySem.W.Frag} {ta : TA} {g : TG} {tb : TS} {D : Ends} {σ : St} {H H1 : Hp} (l : Addr) (xs : List V) (hr : ∀ Q, Q [.ref l] H1 → ta σ H Q) (Pv : Nat → St → Hp → Prop) (h0 : Pv 0 σ H1) (hl : ∀ i σ H, i ≤ xs.length → Pv i σ H → SqL K H l xs)
    (hs : ∀ i x p σ H, xs[i]? = some x → Pv i σ H → H p = none → g (.ref p) σ (upd H p (.tup [.int i, x])) fun σ2 H2 => tb { D with nx := Pv (i + 1), ct := Pv (i + 1), bk := D.nx } σ2 H2) (hd : ∀ σ H, Pv xs.length σ H → D.nx σ H) : tFor (iEnum K ta) g tb D σ H := by
  refine hr _ ⟨l, rfl, ⟨xs, hl 0 σ H1 (Nat.zero_le _) h0⟩, fun i m σ H => m = xs.length - i ∧ i ≤ xs.length ∧ Pv i σ H, ⟨xs.length, by simp, Nat.zero_le _, h0⟩, ?_⟩
  rintro i m σ H ⟨rfl, hi, p⟩
  have q := hl i σ H hi p
  by_cases c : i < xs.length
  · refine .inr ⟨⟨xs, xs[i], q, List.getElem?_eq_getElem c⟩, Pv (i + 1), fun σ' H' p' => ⟨xs.length - (i + 1), by omega, rfl, c, p'⟩, fun x H' y => ?_⟩
    obtain ⟨pp, x', rfl, hn, rfl, hx⟩ := y
    exact hs i x' pp σ H (hx xs q) p hn
  · have e : i = xs.length := by omega
    subst e
    exact .inl ⟨⟨xs, q, Nat.le_refl _⟩, hd _ _ p⟩
end L2

set_option Elab.async false
set_option linter.all false
set_option maxRecDepth 100000
namespace PySem
namespace F
theorem owner_set_iterator : Manifest.owners.lookup (String.ofList ['r', 'o', 't', 'a', 'r', 'e', 't', 'i', '_', 't', 'e', 's'].reverse) = some Manifest.sig_set_iterator := by kernel_rfl
theorem slot_set_iterator_next : Slot "set_iterator" "__next__" "set_iterator.__next__" :=
  .of (owner := "set_iterator") (n := "__next__") (by rw [typeLookup_type, builtinLookup_eq_fast]; kernel_rfl) (by decide +kernel) (by decide +kernel) (by decide +kernel)
    (by first | exact .inl (by decide +kernel) | exact .inr (by decide +kernel)) (by rw [isSubtype_type]; kernel_rfl)
theorem slot_set_iterator_iter : Slot "set_iterator" "__iter__" "set_iterator.__iter__" :=
  .of (owner := "set_iterator") (n := "__iter__") (by rw [typeLookup_type, builtinLookup_eq_fast]; kernel_rfl) (by decide +kernel) (by decide +kernel) (by decide +kernel)
    (by first | exact .inl (by decide +kernel) | exact .inr (by decide +kernel)) (by rw [isSubtype_type]; kernel_rfl)
theorem entry_set_iterator_next : entryFor table "set_iterator.__next__" = some Builtin.«set_iterator.__next__» := entryFor_of_tree (by kernel_rfl)
theorem entry_set_iterator_iter : entryFor table "set_iterator.__iter__" = some Builtin.«dict_keyiterator.__iter__» :=
  entryFor_alias (id' := "dict_keyiterator.__iter__") (by kernel_rfl) rfl (by decide +kernel) (by kernel_rfl)
theorem entry_set_iter : entryFor table "set.__iter__" = some Builtin.«frozenset.__iter__» :=
  entryFor_alias (id' := "frozenset.__iter__") (by kernel_rfl) rfl (by decide +kernel) (by kernel_rfl)
theorem args_set_iterator_next_1 (a : Value) : argsOk "set_iterator.__next__" ⟨[a], []⟩ := by
  unfold argsOk; rw [signature?_of (id := "set_iterator.__next__") (n := ['_', '_', 't', 'x', 'e', 'n', '_', '_']) (o := ['r', 'o', 't', 'a', 'r', 'e', 't', 'i', '_', 't', 'e', 's']) (by kernel_rfl) owner_set_iterator]; kernel_rfl
theorem args_set_iterator_iter_1 (a : Value) : argsOk "set_iterator.__iter__" ⟨[a], []⟩ := by
  unfold argsOk; rw [signature?_of (id := "set_iterator.__iter__") (n := ['_', '_', 'r', 'e', 't', 'i', '_', '_']) (o := ['r', 'o', 't', 'a', 'r', 'e', 't', 'i', '_', 't', 'e', 's']) (by kernel_rfl) owner_set_iterator]; kernel_rfl
end F
/-- what a walk of a set finds at its place i, and where it stands then -/
structure SetWalked (w : World) (a : Addr) (es : Array (Int × Value)) (ep : Nat) (t : SetTable) : Prop where
  fits : t.fits es.size = true
  plain : t.plain = true
  led : t.led = !w.params.followText "set-order"
  rise : ∀ i j, i < j → j < es.size → t.place.getD i 0 < t.place.getD j 0
def setStand (t : SetTable) (i : Nat) : Nat := if i = 0 then 0 else t.place.getD (i - 1) 0 + 1
def Heap.IsSetIter (h : Heap) (it a : Addr) (sl i n ep : Nat) : Prop :=
  h.get? it = some { cls := .type "set_iterator", data := .fields #[.int sl 0, .int i 0, .ref a, .int n 0, .int ep 0] }
theorem below_go (xs : Array Nat) (j p : Nat) (h1 : ∀ i, i < p → xs.getD i j < j) (h2 : ∀ i, p ≤ i → i < xs.size → ¬ xs.getD i j < j) :
    ∀ (fuel lo hi : Nat), lo ≤ p → p ≤ hi → hi ≤ xs.size → hi - lo ≤ fuel → SetTable.below.go xs j fuel lo hi = p
  | 0, lo, hi, a, b, c, d => by unfold SetTable.below.go; omega
  | fuel + 1, lo, hi, a, b, c, d => by
    unfold SetTable.below.go
    by_cases e : lo < hi
    · rw [if_pos e]
      dsimp only
      by_cases f : xs.getD ((lo + hi) / 2) j < j
      · rw [if_pos f]
        have : (lo + hi) / 2 < p := by
          by_cases g : (lo + hi) / 2 < p
          · exact g
          · exact absurd f (h2 _ (by omega) (by omega))
        exact below_go xs j p h1 h2 fuel _ _ (by omega) b c (by omega)
      · rw [if_neg f]
        have : p ≤ (lo + hi) / 2 := by
          by_cases g : (lo + hi) / 2 < p
          · exact absurd (h1 _ g) f
          · omega
        exact below_go xs j p h1 h2 fuel _ _ a this (by omega) (by omega)
    · rw [if_neg e]; omega
theorem below_at {t : SetTable} {n i : Nat} (hn : t.place.size = n) (hr : ∀ i j, i < j → j < n → t.place.getD i 0 < t.place.getD j 0) (hi : i ≤ n) : SetTable.below t.place (setStand t i) = i := by
  have gd : ∀ k d, k < n → t.place.getD k d = t.place.getD k 0 := fun k d h => by
    simp only [Array.getD_eq_getD_getElem?, Array.getElem?_eq_getElem (show k < t.place.size by omega), Option.getD_some]
  refine below_go _ _ i (fun k hk => ?_) (fun k hk hk2 => ?_) _ _ _ (Nat.zero_le _) (by omega) (Nat.le_refl _) (by omega)
  · rw [gd k _ (by omega)]
    unfold setStand
    rw [if_neg (by omega)]
    by_cases c : k = i - 1
    · rw [c]; omega
    · have := hr k (i - 1) (by omega) (by omega); omega
  · rw [gd k _ (by omega)]
    unfold setStand
    by_cases c : i = 0
    · rw [if_pos c]; omega
    · rw [if_neg c]
      have := hr (i - 1) k (by omega) (by omega)
      omega
end PySem
namespace PySem
section
variable {prog : Program} {w : World} {A : Around} {E : Value → Shared → Prop} {s : Shared}
/-- the order in which a set is walked -/
def setOrd (w : World) (a : Addr) (es : Array (Int × Value)) (ep : Nat) : Array (Int × Value) := if w.params.followText "set-order" then pickOrder (w.params.setOrder a ep) es else es
theorem wpAny_pyIter_set {a : Addr} {es : Array (Int × Value)} {ep : Nat} {t : SetTable} {Q : Value → Shared → Prop} (ho : s.heap.get? a = some { cls := .type "set", data := .set es ep t }) (hw : SetWalked w a es ep t)
    (hQ : Q (.ref s.heap.objs.size) { s with heap := s.heap.push { cls := .type "set_iterator", data := .fields #[.int 0 0, .int 0 0, .ref a, .int es.size 0, .int ep 0] } }) :
    wpAny (model prog w) A (pyIter (.ref a)) Q E s := by
  have hT : s.TypeIs (.ref a) "set" := ⟨_, ho, rfl⟩
  refine wpAny_pyIter_slot hT F.slot_set_iter (wpAny_call_entry F.slot_set_iter hT F.entry_set_iter ?_ (F.args_set_iter_1 _))
  unfold Builtin.«frozenset.__iter__» Builtin.Frozenset.slot0 slotArgs
  simp only [List.isEmpty_nil, Bool.not_true, Bool.false_eq_true, ↓reduceIte, bind_assoc, List.length_nil, bne_self_eq_false]
  unfold Builtin.Frozenset.addrOf Builtin.Frozenset.sizeOf
  refine wpAny_bind (wpAny_pure ?_)
  try dsimp only
  refine wpAny_bind (wpAny_pure ?_)
  refine wpAny_bind (wpAny_bind (wpAny_setEntries_of ho rfl hw.fits (wpAny_pure ?_)))
  refine wpAny_bind ?_
  unfold setDrawn
  refine wpAny_bind (wpAny_setState_of ho rfl hw.fits ?_)
  dsimp only
  unfold setsByText
  refine wpAny_bind (wpAny_bind (wpAny_askSetting (wpAny_pure ?_)))
  refine wpAny_pure ?_
  rw [if_neg (by
    show ¬ (!_ && (!t.plain && _)) = true
    rw [hw.plain]
    simp)]
  refine wpAny_bind (wpAny_pure ?_)
  refine wpAny_bind (wpAny_setEpoch_of ho rfl hw.fits ?_)
  unfold newFields
  refine wpAny_bind (wpAny_newObj_type (wpAny_pure ⟨_, rfl, "set_iterator", _, ⟨_, Heap.get?_push_size _ rfl, rfl⟩, F.slot_set_iterator_next.lookup, ?_⟩))
  exact hQ
theorem Heap.IsSetIter.typeIs {it a sl i n ep} (x : s.heap.IsSetIter it a sl i n ep) : s.TypeIs (.ref it) "set_iterator" := ⟨_, x, rfl⟩
theorem wpAny_pyIter_setiter {it a : Addr} {sl i n ep : Nat} {Q : Value → Shared → Prop} (hit : s.heap.IsSetIter it a sl i n ep) (h : Q (.ref it) s) : wpAny (model prog w) A (pyIter (.ref it)) Q E s := by
  refine wpAny_pyIter_slot hit.typeIs F.slot_set_iterator_iter (wpAny_call_entry F.slot_set_iterator_iter hit.typeIs F.entry_set_iterator_iter ?_ (F.args_set_iterator_iter_1 _))
  show wpAny _ _ (ret (.ref it)) _ _ s
  exact wpAny_pure ⟨_, rfl, "set_iterator", _, hit.typeIs, F.slot_set_iterator_next.lookup, h⟩
/-- where a walk stands at place i -/
def SetStand (w : World) (t : SetTable) (sl i : Nat) : Prop := w.params.followText "set-order" = true ∨ sl = setStand t i
theorem wpAny_setNext {a : Addr} {es : Array (Int × Value)} {ep sl i : Nat} {t : SetTable} {Q : Option (Value × Nat) → Shared → Prop} (ho : s.heap.get? a = some { cls := .type "set", data := .set es ep t }) (hw : SetWalked w a es ep t)
    (hs : SetStand w t sl i) (hi : i ≤ es.size) (h1 : ∀ x, (setOrd w a es ep)[i]? = some x → ∀ sl', SetStand w t sl' (i + 1) → Q (some (x.2, sl')) s) (h2 : (setOrd w a es ep)[i]? = none → Q none s) :
    wpAny (model prog w) A (setNext a sl i ep) Q E s := by
  unfold setNext setsByText
  refine wpAny_bind (wpAny_setState_of ho rfl hw.fits ?_)
  dsimp only
  refine wpAny_bind (wpAny_bind (wpAny_askSetting (wpAny_pure ?_)))
  cases ht : w.params.followText "set-order" with
  | true =>
    rw [show (model prog w).w.params.followText "set-order" = true from ht]
    rw [if_pos rfl]
    rw [if_neg (by simp)]
    unfold setWalk setsByText
    refine wpAny_bind (wpAny_bind (wpAny_setState_of ho rfl hw.fits ?_))
    dsimp only
    refine wpAny_bind (wpAny_bind (wpAny_askSetting (wpAny_pure ?_)))
    rw [show (model prog w).w.params.followText "set-order" = true from ht]
    rw [if_pos rfl]
    refine wpAny_bind (wpAny_askSetting ?_)
    refine wpAny_pure (wpAny_pure ?_)
    have eo : setOrd w a es ep = pickOrder (w.params.setOrder a ep) es := by unfold setOrd; rw [if_pos ht]
    rw [eo] at h1 h2
    show Q (((pickOrder (w.params.setOrder a ep) es)[i]?).map fun e => (e.2, sl)) s
    cases e : (pickOrder (w.params.setOrder a ep) es)[i]? with
    | none => exact h2 e
    | some x => exact h1 x e sl (.inl ht)
  | false =>
    rw [show (model prog w).w.params.followText "set-order" = false from ht]
    rw [if_neg (by simp)]
    rw [if_neg (by
      show ¬ (!t.plain && _) = true
      rw [hw.plain]
      simp)]
    have hl : t.led = true := by rw [hw.led, ht]; rfl
    have eo : setOrd w a es ep = es := by unfold setOrd; rw [if_neg (by rw [ht]; simp)]
    rw [eo] at h1 h2
    have hsz : t.place.size = es.size := by have := hw.fits; simp only [SetTable.fits, Bool.and_eq_true, beq_iff_eq] at this; exact this.1
    have hst : sl = setStand t i := by rcases hs with z | z; (· rw [ht] at z; cases z); exact z
    rw [hst, below_at hsz hw.rise hi]
    refine wpAny_bind (show wpAny (model prog w) A (if (!t.led && !es.isEmpty) = true then unsupported "set:maker-not-led" else pure ()) _ E s from ?_)
    rw [hl, if_neg (by simp)]
    refine wpAny_pure (wpAny_pure ?_)
    by_cases c : i < es.size
    · have e1 : es[i]? = some es[i] := Array.getElem?_eq_getElem c
      have e2 : t.place[i]? = some (t.place[i]'(by omega)) := Array.getElem?_eq_getElem (by omega)
      rw [e1, e2]
      refine h1 _ e1 _ (.inr ?_)
      unfold setStand
      rw [if_neg (by omega), Nat.add_sub_cancel]
      simp [Array.getD_eq_getD_getElem?, e2]
    · have e1 : es[i]? = none := Array.getElem?_eq_none (by omega)
      rw [e1]
      exact h2 e1
theorem wpAny_pyNext_set_item {it a : Addr} {es : Array (Int × Value)} {ep sl i : Nat} {t : SetTable} {x : Int × Value} {Q : Option Value → Shared → Prop} (hit : s.heap.IsSetIter it a sl i es.size ep)
    (ho : s.heap.get? a = some { cls := .type "set", data := .set es ep t }) (hw : SetWalked w a es ep t) (hs : SetStand w t sl i) (hi : i ≤ es.size) (hx : (setOrd w a es ep)[i]? = some x)
    (hQ : ∀ h' sl', SetStand w t sl' (i + 1) → h'.IsSetIter it a sl' (i + 1) es.size ep → Heap.SameBut it s.heap h' → Q (some x.2) { s with heap := h' }) :
    wpAny (model prog w) A (pyNext (.ref it)) Q E s := by
  unfold pyNext
  refine wpAny_bind (wpAny_attempt (wpAny_callSpecial?_slot (name := Str.ofString "__next__") hit.typeIs F.slot_set_iterator_next
    (wpAny_call_entry F.slot_set_iterator_next hit.typeIs F.entry_set_iterator_next ?_ (F.args_set_iterator_next_1 _))))
  unfold Builtin.«set_iterator.__next__» slotArgs
  simp only [List.isEmpty_nil, Bool.not_true, Bool.false_eq_true, ↓reduceIte, bind_assoc, List.length_nil, bne_self_eq_false]
  refine wpAny_bind (wpAny_pure ?_)
  refine wpAny_bind (wpAny_fieldsOf hit rfl ?_)
  dsimp only
  refine wpAny_bind (wpAny_setEntries_of ho rfl hw.fits ?_)
  rw [if_neg (by simp)]
  simp only [Int.toNat_natCast]
  refine wpAny_bind (wpAny_setNext ho hw hs hi (fun y hy sl' hs' => ?_) (fun h => by rw [hx] at h; cases h))
  rw [hx] at hy
  cases hy
  dsimp only
  refine wpAny_bind (wpAny_setField (vs := #[.int sl 0, .int i 0, .ref a, .int es.size 0, .int ep 0]) hit rfl (by simp) ?_)
  have g1 := Heap.get?_update_self (Obj.mapFields (·.setIfInBounds 0 (rawInt ((sl' : Nat) : Int)))) hit rfl
  refine wpAny_bind (wpAny_setField (vs := #[.int sl' 0, .int i 0, .ref a, .int es.size 0, .int ep 0]) g1 rfl (by simp) ?_)
  have g2 := Heap.get?_update_self (Obj.mapFields (·.setIfInBounds 1 (rawInt (((i : Nat) : Int) + 1)))) g1 rfl
  refine wpAny_pure ⟨_, rfl, wpAny_pure (hQ _ sl' hs' ?_ ((Heap.SameBut.update ..).trans (Heap.SameBut.update ..)))⟩
  exact g2
theorem wpAny_pyNext_set_end {it a : Addr} {es : Array (Int × Value)} {ep sl i : Nat} {t : SetTable} {Q : Option Value → Shared → Prop} (hh : A.handled = none) (hit : s.heap.IsSetIter it a sl i es.size ep)
    (ho : s.heap.get? a = some { cls := .type "set", data := .set es ep t }) (hw : SetWalked w a es ep t) (hs : SetStand w t sl i) (hi : i ≤ es.size) (hx : (setOrd w a es ep)[i]? = none)
    (hQ : ∀ h', Heap.ExtBut it s.heap h' → Q none { s with heap := h' }) :
    wpAny (model prog w) A (pyNext (.ref it)) Q E s := by
  unfold pyNext
  refine wpAny_bind (wpAny_attempt (wpAny_callSpecial?_slot (name := Str.ofString "__next__") hit.typeIs F.slot_set_iterator_next
    (wpAny_call_entry F.slot_set_iterator_next hit.typeIs F.entry_set_iterator_next ?_ (F.args_set_iterator_next_1 _))))
  unfold Builtin.«set_iterator.__next__» slotArgs
  simp only [List.isEmpty_nil, Bool.not_true, Bool.false_eq_true, ↓reduceIte, bind_assoc, List.length_nil, bne_self_eq_false]
  refine wpAny_bind (wpAny_pure ?_)
  refine wpAny_bind (wpAny_fieldsOf hit rfl ?_)
  dsimp only
  refine wpAny_bind (wpAny_setEntries_of ho rfl hw.fits ?_)
  rw [if_neg (by simp)]
  simp only [Int.toNat_natCast]
  refine wpAny_bind (wpAny_setNext ho hw hs hi (fun y hy sl' hs' => by rw [hx] at hy; cases hy) (fun _ => ?_))
  dsimp only
  refine wpAny_bind (wpAny_setField (vs := #[.int sl 0, .int i 0, .ref a, .int es.size 0, .int ep 0]) hit rfl (by simp) ?_)
  show wpAny _ _ (newExc (.type "StopIteration") [] >>= _) _ _ _
  refine wpAny_bind ?_
  simp only [newExc, newTuple]
  refine wpAny_bind (wpAny_newObj_type ?_ (by size_fits))
  refine wpAny_bind (m := firstArgMember _ _) (wpAny_of_eq (a := Value.none) (by first | rfl | (simp only [firstArgMember]; rfl)) ?_)
  refine wpAny_newObj_type ?_ (by size_fits)
  simp only [raiseNew]
  refine wpAny_bind (wpAny_handled ?_)
  rw [show A.in1.handled = none from hh]
  refine wpAny_bind (wpAny_pure (wpAny_throw ?_))
  refine wpAny_bind (wpAny_isInstance (T := "StopIteration") (b := true) ⟨_, Heap.get?_push_size _ rfl, rfl⟩ isSubtype_stop ?_)
  exact wpAny_pure (hQ _ (((Heap.SameBut.update ..).extBut.push _).push _))
theorem eraseIdx_perm {α : Type} : ∀ {l : List α} {i : Nat} (h : i < l.length), (l[i] :: l.eraseIdx i).Perm l
  | x :: r, 0, _ => .refl _
  | x :: r, i + 1, h => by
    have h' : i < r.length := by simpa using h
    show (r[i] :: x :: r.eraseIdx i).Perm (x :: r)
    exact (List.Perm.swap ..).trans ((eraseIdx_perm h').cons _)
theorem pick_go_perm {α : Type} (next : Nat → Nat) : ∀ (fuel k : Nat) (left : List α) (out : Array α), left.length ≤ fuel → (pickOrder.go next fuel k left out).toList.Perm (out.toList ++ left)
  | 0, k, left, out, h => by
    have : left = [] := List.eq_nil_of_length_eq_zero (by omega)
    subst this
    unfold pickOrder.go
    simp
  | fuel + 1, k, left, out, h => by
    unfold pickOrder.go
    cases e : left[next k % left.length]? with
    | none =>
      have : left = [] := by
        cases left with
        | nil => rfl
        | cons x r =>
          have := Nat.mod_lt (next k) (show 0 < (x :: r).length by simp)
          rw [List.getElem?_eq_getElem this] at e; cases e
      subst this
      simp
    | some x =>
      obtain ⟨hl, hx⟩ := List.getElem?_eq_some_iff.mp e
      dsimp only
      refine (pick_go_perm next fuel (k + 1) _ _ (by rw [List.length_eraseIdx, if_pos hl]; omega)).trans ?_
      rw [Array.toList_push, List.append_assoc]
      refine List.Perm.append_left _ ?_
      have := (eraseIdx_perm hl)
      rw [hx] at this
      exact this
theorem setOrd_perm (w : World) (a : Addr) (es : Array (Int × Value)) (ep : Nat) : (setOrd w a es ep).toList.Perm es.toList := by
  unfold setOrd
  split
  · have := pick_go_perm (w.params.setOrder a ep) es.size 0 es.toList #[] (by simp)
    simpa [pickOrder] using this
  · exact .refl _
theorem setOrd_size (w : World) (a : Addr) (es : Array (Int × Value)) (ep : Nat) : (setOrd w a es ep).size = es.size := by
  have := (setOrd_perm w a es ep).length_eq
  simpa using this
theorem Walks.setKeys (hh : A.handled = none) (I a : Addr) (hne : a ≠ I) {es : Array (Int × Value)} {ep : Nat} {t : SetTable} (hw : SetWalked w a es ep t) :
    Walks prog w A I [I, a] [I] es.size (fun i v => ∃ x, (setOrd w a es ep)[i]? = some x ∧ v = x.2) (fun i h => (∃ sl, SetStand w t sl i ∧ h.IsSetIter I a sl i es.size ep) ∧ h.get? a = some { cls := .type "set", data := .set es ep t } ∧ i ≤ es.size) where
  sub := fun b hb => by simp at hb; simp [hb]
  frame := fun _ _ _ st hk => by
    obtain ⟨⟨sl, h1, h2⟩, h3, h4⟩ := st
    exact ⟨⟨sl, h1, hk I (by simp) _ h2⟩, hk a (by simp) _ h3, h4⟩
  item := fun i s Q E hi st hQ => by
    obtain ⟨⟨sl, h1, h2⟩, h3, h4⟩ := st
    obtain ⟨x, hx⟩ : ∃ p, (setOrd w a es ep)[i]? = some p := ⟨_, Array.getElem?_eq_getElem (by rw [setOrd_size]; exact hi)⟩
    refine wpAny_pyNext_set_item h2 h3 hw h1 h4 hx fun h' sl' hs' hi' sb => ?_
    exact hQ _ h' s.toks ⟨x, hx, rfl⟩ ⟨⟨sl', hs', hi'⟩, sb.extBut a _ hne h3, hi⟩ fun b o hb e => sb.extBut b o (fun h => hb (by simp [h])) e
  done := fun s Q E st hQ => by
    obtain ⟨⟨sl, h1, h2⟩, h3, h4⟩ := st
    exact wpAny_pyNext_set_end hh h2 h3 hw h1 h4 (Array.getElem?_eq_none (by rw [setOrd_size]; exact Nat.le_refl _)) fun h' he' => hQ h' s.toks fun b o hb e => he' b o (fun h => hb (by simp [h])) e
  self := fun _ _ _ _ st hQ => by
    obtain ⟨⟨sl, h1, h2⟩, h3, h4⟩ := st
    exact wpAny_pyIter_setiter h2 hQ
end
end PySem
namespace PySem
/-- the table after one, and after two -/
def setOne (x : Int) (led : Bool) : SetTable := ((SetTable.fresh 0 0 led).put (((SetTable.fresh 0 0 led).freeSlot x).getD (0, false)).1).1
def setTwo (x y : Int) (led : Bool) : SetTable × Nat := (setOne x led).put (((setOne x led).freeSlot y).getD (0, false)).1
def oneOk (x : Int) (led : Bool) : Bool := ((SetTable.fresh 0 0 led).freeSlot x).map (·.2) == some false && (setOne x led).fits 1 && (setOne x led).plain && ((setOne x led).led == led) && !(setOne x led).tooFull
def twoOk (x y : Int) (led : Bool) : Bool := ((setOne x led).freeSlot y).map (·.2) == some false && (setTwo x y led).1.fits 2 && (setTwo x y led).1.plain && ((setTwo x y led).1.led == led) && !(setTwo x y led).1.tooFull && decide ((setTwo x y led).1.place.getD 0 0 < (setTwo x y led).1.place.getD 1 0)
theorem one_ok : ∀ x : Nat, x < 48 → oneOk x true = true ∧ oneOk x false = true := by decide +kernel
theorem two_ok : ∀ x : Nat, x < 48 → ∀ y : Nat, y < 48 → x ≠ y → twoOk x y true = true ∧ twoOk x y false = true := by decide +kernel
theorem hash_small : ∀ x : Nat, x < 48 → hashInt x = x := by decide +kernel
end PySem
namespace PySem
section
variable {prog : Program} {w : World} {A : Around} {E : Value → Shared → Prop} {s : Shared}
theorem setAdd_new {a : Addr} {es es' : Array (Int × Value)} {ep : Nat} {t t' : SetTable} {v : Int} {tk : Nat} {Q : Bool → Shared → Prop} (ho : s.heap.get? a = some { cls := .type "set", data := .set es ep t }) (hf : t.fits es.size = true)
    (hel : ElemsOf (intKind prog w) es.toList) (hb : es.size + 1 < scanBound) (hz : es'.size ≤ sizeLine) (hnew : List.findIdx? (fun e => (intKind prog w).is v e.2) es.toList = none) (hL : layNew t es (hashInt v) (.int v tk) = (es', t', false, false)) (hp : t'.plain = true) (hfull : t'.tooFull = false)
    (h : ∀ h', Heap.SameBut a s.heap h' → h'.get? a = some { cls := .type "set", data := .set es' (ep + 1) t' } → Q true { s with heap := h' }) :
    wpAny (model prog w) A (setAddHashed a (.int v tk) ((intKind prog w).hash v)) Q E s := by
  have hkey : (intKind prog w).is v (.int v tk) = true := by simp [intKind, Value.isInt]
  unfold setAddHashed setAddHashedIn
  refine wpAny_holding (wpAny_bind (wpAny_setState_of ho rfl hf ?_))
  dsimp only
  rw [byScan_of (knd := intKind prog w) rfl (by omega) hel]
  simp only [↓reduceIte]
  unfold setAddByScan
  refine wpAny_bind ?_
  refine wpAny_bind (wpAny_rule ?_)
  refine wpAny_bind (wpAny_setScan_of hkey ho rfl hf hel ?_)
  rw [hnew]
  dsimp only
  rw [show (intKind prog w).hash v = hashInt v from rfl, hL]
  dsimp only
  have hgw : ∀ {s₁ : Shared} {Q' : Unit → Shared → Prop}, Q' () s₁ → wpAny (model prog w) A (match false with | true => rule "set.scan.the-table-gave-way" | false => pure ()) Q' E s₁ := fun hq => wpAny_pure hq
  refine wpAny_bind (hgw ?_)
  rw [if_pos hp]
  rw [hashByValue_scannable 8 rfl]
  refine wpAny_bind (wpAny_pure ?_)
  rw [show plainKind (.int v tk) = true from rfl, if_pos rfl]
  refine wpAny_bind (wpAny_storeSet_of ho rfl ?_ hz)
  rw [hfull, if_neg (by simp)]
  refine wpAny_pure ?_
  dsimp only
  refine wpAny_pure (h _ (Heap.SameBut.update s.heap a (Obj.putSet es' t')) ?_)
  have := Heap.get?_update_self (Obj.putSet es' t') ho rfl
  exact this
theorem setAdd_old {a : Addr} {es : Array (Int × Value)} {ep j : Nat} {t : SetTable} {v : Int} {tk : Nat} {Q : Bool → Shared → Prop} (ho : s.heap.get? a = some { cls := .type "set", data := .set es ep t }) (hf : t.fits es.size = true)
    (hel : ElemsOf (intKind prog w) es.toList) (hb : es.size + 1 < scanBound) (hold : List.findIdx? (fun e => (intKind prog w).is v e.2) es.toList = some j)
    (h : Q false s) :
    wpAny (model prog w) A (setAddHashed a (.int v tk) ((intKind prog w).hash v)) Q E s := by
  have hkey : (intKind prog w).is v (.int v tk) = true := by simp [intKind, Value.isInt]
  unfold setAddHashed setAddHashedIn
  refine wpAny_holding (wpAny_bind (wpAny_setState_of ho rfl hf ?_))
  dsimp only
  rw [byScan_of (knd := intKind prog w) rfl (by omega) hel]
  simp only [↓reduceIte]
  unfold setAddByScan
  refine wpAny_bind ?_
  refine wpAny_bind (wpAny_rule ?_)
  refine wpAny_bind (wpAny_setScan_of hkey ho rfl hf hel ?_)
  rw [hold]
  dsimp only
  exact wpAny_pure (wpAny_pure h)
theorem layNew_one {x : Int} {u : Value} {led : Bool} (h : oneOk x led = true) : layNew (.fresh 0 0 led) #[] x u = (#[(x, u)], setOne x led, false, false) := by
  simp only [oneOk, Bool.and_eq_true, beq_iff_eq] at h
  obtain ⟨⟨⟨⟨h1, h2⟩, h3⟩, h4⟩, h5⟩ := h
  unfold layNew
  cases e : (SetTable.fresh 0 0 led).freeSlot x with
  | none => rw [e] at h1; cases h1
  | some p =>
    obtain ⟨sl, b⟩ := p
    rw [e] at h1
    cases (show b = false from Option.some.inj h1)
    have eo : setOne x led = ((SetTable.fresh 0 0 led).put sl).1 := by unfold setOne; rw [e]; rfl
    dsimp only
    rw [← eo]
    have ep : ((SetTable.fresh 0 0 led).put sl).2 = 0 := rfl
    rw [ep]
    have ei : SetTable.insertAt (#[] : Array (Int × Value)) 0 (x, u) = #[(x, u)] := rfl
    rw [ei]
    show (_, (setOne x led).orStandIn 1, false, !(setOne x led).fits 1) = _
    unfold SetTable.orStandIn
    rw [h2]; rfl
theorem layNew_two {x y : Int} {u v : Value} {led : Bool} (h : twoOk x y led = true) : ∃ es' : Array (Int × Value), layNew (setOne x led) #[(x, u)] y v = (es', (setTwo x y led).1, false, false) ∧ es'.toList.Perm [(x, u), (y, v)] := by
  simp only [twoOk, Bool.and_eq_true, beq_iff_eq] at h
  obtain ⟨⟨⟨⟨⟨h1, h2⟩, h3⟩, h4⟩, h5⟩, h6⟩ := h
  have hp := layNew_perm (setOne x led) #[(x, u)] y v
  refine ⟨(layNew (setOne x led) #[(x, u)] y v).1, ?_, hp⟩
  have hs : (layNew (setOne x led) #[(x, u)] y v).1.size = 2 := by
    have := hp.length_eq
    simpa using this
  revert hs
  unfold layNew
  cases e : (setOne x led).freeSlot y with
  | none => rw [e] at h1; cases h1
  | some p =>
    obtain ⟨sl, b⟩ := p
    rw [e] at h1
    cases (show b = false from Option.some.inj h1)
    have eo : setTwo x y led = (setOne x led).put sl := by unfold setTwo; rw [e]; rfl
    dsimp only
    rw [← eo]
    intro hs
    rw [hs]
    unfold SetTable.orStandIn
    rw [h2]; rfl
end
end PySem
namespace PySem
section
variable {prog : Program} {w : World} {A : Around} {R : Result → Shared → Prop} {I : Addr} {fp wr : List Addr} {G : Array GenState → Array GenState → Prop} {n : Nat} {P : Nat → Value → Prop} {St : Nat → Shared → Prop}
theorem set_loop (W : WalksS prog w A.in1 I fp wr G n P St) (S : Addr) (hSf : S ∉ fp) (val : Nat → Int) (hval : ∀ i v, P i v → ∃ t, v = .int (val i) t) (J : Nat → Heap → Prop)
    (hJ : ∀ i h h', J i h → (∀ o, h.get? S = some o → h'.get? S = some o) → J i h')
    (hadd : ∀ i (s : Shared) tk (Q : Bool → Shared → Prop) (E : Value → Shared → Prop), i < n → J i s.heap → (∀ b h', Heap.SameBut S s.heap h' → J (i + 1) h' → Q b { s with heap := h' }) → wpAny (model prog w) A.in1 (setAddHashed S (.int (val i) tk) ((intKind prog w).hash (val i))) Q E s) :
    ∀ (k i : Nat) (s : Shared), n - i = k → i ≤ n → St i s → J i s.heap →
      (∀ s', Moved (S :: wr) G s s' → J n s'.heap → R (.ok (.ret .none)) s') →
      codeAny (model prog w) A (.builtin "set.update.loop" ⟨[.ref S, .ref I], []⟩) R s := by
  have hSw : S ∉ wr := fun h => hSf (W.sub _ h)
  have hsub : ∀ b ∈ wr, b ∈ S :: wr := fun b hb => List.mem_cons_of_mem _ hb
  intro k
  induction k with
  | zero =>
    intro i s hk hi hst hS hR
    have hin : i = n := by omega
    subst hin
    refine codeAny_builtin PyProof.Rows.F.entry_set_update_loop ?_
    rw [Around.under_plainId PyProof.Rows.F.plain_set_update_loop _]
    show wpAny _ A.in1 (pyNext (.ref I) >>= _) _ _ s
    refine wpAny_bind (W.done s _ _ hst fun s' hm => ?_)
    show wpAny _ A.in1 (ret Value.none) _ _ s'
    exact wpAny_pure (hR s' (hm.mono hsub) (hJ _ _ _ hS fun o e => hm.heap S _ hSw e))
  | succ k ih =>
    intro i s hk hi hst hS hR
    have hlt : i < n := by omega
    refine codeAny_builtin PyProof.Rows.F.entry_set_update_loop ?_
    rw [Around.under_plainId PyProof.Rows.F.plain_set_update_loop _]
    show wpAny _ A.in1 (pyNext (.ref I) >>= _) _ _ s
    refine wpAny_bind (W.item i s _ _ hlt hst fun v s' hP hst' hm => ?_)
    obtain ⟨t, rfl⟩ := hval i v hP
    have hS' : J i s'.heap := hJ _ _ _ hS fun o e => hm.heap S _ hSw e
    show wpAny _ A.in1 (holding [Value.int (val i) t] (setAdd S (.int (val i) t)) >>= _) _ _ s'
    refine wpAny_bind (wpAny_holding ?_)
    unfold setAdd
    refine wpAny_holding ?_
    refine wpAny_bind ((intKind prog w).pyHash (k := val i) (intKind_is _ _ _ _) ?_)
    refine hadd i { s' with toks := s'.toks + 1 } t _ _ hlt hS' fun b h' hsb hSi => ?_
    refine wpAny_pure ⟨plainId_quiet PyProof.Rows.F.plain_set_update_loop _, ih (i + 1) _ (by omega) hlt (W.frame _ s' _ _ hst' (Nat.le_succ _) fun b hb o e => ?_) hSi fun s'' hm'' hS'' => ?_⟩
    · rw [hsb.2 b (fun h : b = S => hSf (by rw [← h]; exact hb))]; exact e
    · refine hR s'' (Moved.trans W.gtrans ((hm.mono hsub).then_heap (Nat.le_succ _) fun b o hb e => ?_) hm'') hS''
      rw [hsb.2 b (fun h : b = S => hb (by rw [h]; exact List.mem_cons_self))]; exact e
end
section
variable {prog : Program} {w : World} {A : Around} {E : Value → Shared → Prop} {s : Shared}
theorem code_set_new_x (a : Value) {Q₁ : Value → Shared → Prop}
    (h : Q₁ (.ref s.heap.objs.size) { s with heap := s.heap.push { cls := .type "set", dict := none, data := .set #[] 0 (.fresh 0 0 (!w.params.followText "set-order")) } }) :
    codeAny (model prog w) A (.call (.builtin "set.__new__") ⟨[.type "set", a], []⟩) (wants Q₁ E) s := by
  refine codeAny_of_tree ?_
  show wpAny _ A.in1 (do checkBuiltinCall "set.__new__" ⟨[.type "set", a], []⟩; again (.builtin "set.__new__" ⟨[.type "set", a], []⟩)) _ _ s
  refine wpAny_bind (wpAny_of_eq (F.newCall_set_1 a) (wpAny_pure ⟨plainId_quiet F.plain_set_new _, codeAny_builtin F.entry_set_new ?_⟩))
  rw [Around.under_plainId F.plain_set_new _]
  unfold Builtin.«set.__new__» Builtin.Frozenset.newClass
  have hsub := sub_set_self
  obtain ⟨hp, g, d, tk, os⟩ := s
  dsimp only
  wp_walk
  refine wpAny_askSetting (wpAny_pure ?_)
  dsimp only
  simp only [newObj]
  refine wpAny_bind (wpAny_alloc (wpAny_pure ?_))
  exact wpAny_pure h
set_option maxHeartbeats 3200000 in
theorem call_set_by {l : Addr} {items : Array Value} (val : Nat → Int) (J : Nat → Heap → Prop) {Q : Value → Shared → Prop}
    (hh : A.handled = none) (hl : s.heap.IsList l items) (hval : ∀ (i : Nat) (v : Value), items[i]? = some v → ∃ t, v = .int (val i) t)
    (h0 : J 0 (s.heap.push { cls := .type "set", dict := none, data := .set #[] 0 (.fresh 0 0 (!w.params.followText "set-order")) }))
    (hJ : ∀ i h h', J i h → (∀ o, h.get? s.heap.objs.size = some o → h'.get? s.heap.objs.size = some o) → J i h')
    (hadd : ∀ i (A : Around) (s1 : Shared) tk (Q : Bool → Shared → Prop) (E : Value → Shared → Prop), i < items.size → J i s1.heap → (∀ b h', Heap.SameBut s.heap.objs.size s1.heap h' → J (i + 1) h' → Q b { s1 with heap := h' }) → wpAny (model prog w) A (setAddHashed s.heap.objs.size (.int (val i) tk) ((intKind prog w).hash (val i))) Q E s1)
    (h : ∀ (h' : Heap) (tk : Nat), J items.size h' → (∀ b o, b < s.heap.objs.size → s.heap.get? b = some o → h'.get? b = some o) → Q (.ref s.heap.objs.size) { s with heap := h', toks := tk }) :
    wpAny (model prog w) A (call (.type "set") [.ref l]) Q E s := by
  obtain ⟨c, tl, hmro⟩ := F.called_set.mro
  have hmade := F.called_set.made
  have hsub := F.called_set.sub
  refine wpAny_call (codeAny_of_tree ?_)
  show wpAny _ _ (callAny (.type "set") _) _ _ _
  refine wpAny_pure ⟨Code.quiet_builtin _ (by decide +kernel), codeAny_builtin F.entry_type_call ?_⟩
  rw [Around.under_plain (weight_type_call_type "set" [.ref l] []) rfl]
  have h1 := F.called_set.notType
  have h2 := F.called_set.canCreate
  have hct := F.typeCall_set_1 (.ref l)
  repeat (any_goals (first | assumption | wp_step))
  refine codeAny_mono (code_set_new_x (.ref l) (E := E) (Q₁ := fun obj s₁ => obj = .ref s.heap.objs.size ∧ s₁ = { s with heap := s.heap.push { cls := .type "set", dict := none, data := .set #[] 0 (.fresh 0 0 (!w.params.followText "set-order")) } }) ⟨rfl, rfl⟩) fun r s₁ hr => ?_
  revert h0
  generalize (!w.params.followText "set-order") = led at hr
  intro h0
  cases r with
  | error e => exact hr
  | ok fl =>
    cases fl with
    | ret obj =>
      obtain ⟨rfl, rfl⟩ := hr
      have hS : (s.heap.push { cls := .type "set", dict := none, data := .set #[] 0 (.fresh 0 0 led) }).get? s.heap.objs.size = some { cls := .type "set", dict := none, data := .set #[] 0 (.fresh 0 0 led) } := Heap.get?_push_size _ rfl
      have hT : Shared.TypeIs { s with heap := s.heap.push { cls := .type "set", dict := none, data := .set #[] 0 (.fresh 0 0 led) } } (.ref s.heap.objs.size) "set" := ⟨_, hS, rfl⟩
      have hli := F.called_set.init.lookup
      have hbi := F.called_set.init.bind (.ref s.heap.objs.size)
      repeat (any_goals (first | assumption | wp_step))
      refine codeAny_mono (codeAny_call_builtin (R := wants (fun r s₂ => r = .none ∧ ∃ h' tk, s₂ = { s with heap := h', toks := tk } ∧ J items.size h' ∧
          (∀ b o, b < s.heap.objs.size → s.heap.get? b = some o → h'.get? b = some o)) E) F.called_set.init.plain F.entry_set_init (check_set_init_1 hT ?_)) fun r₂ s₂ hr₂ => ?_
      · obtain ⟨ol, hol, hcl, nl, hdl⟩ := hl
        obtain ⟨ocls, odict, odata, oslots⟩ := ol
        simp only at hcl hdl
        subst hcl; subst hdl
        have hol' : (s.heap.push { cls := .type "set", dict := none, data := .set #[] 0 (.fresh 0 0 led) }).get? l = some { cls := .type "list", dict := odict, data := .seq items nl, slots := oslots } := Heap.get?_push_of_some _ hol
        have hsls := F.sub_list_set
        have hslf := F.sub_list_frozenset
        have hne : (Value.type "list" == Value.type "dict") = false := by decide
        have hl1 : (s.heap.push { cls := .type "set", dict := none, data := .set #[] 0 (.fresh 0 0 led) }).IsList l items := ⟨_, hol', rfl, nl, rfl⟩
        unfold Builtin.«set.__init__» noKeywords Builtin.Frozenset.updateFrom
        generalize hPI : pyIter = PI
        wp_walk
        subst hPI
        refine wpAny_pyIter_list hl1 ?_
        refine wpAny_bind (wpAny_runValue ?_)
        have hlS : l < s.heap.objs.size := Heap.lt_size hol
        have hh3 : A.in1.in1.in1.handled = none := by simp [hh]
        have hneI : l ≠ (s.heap.push { cls := .type "set", dict := none, data := .set #[] 0 (.fresh 0 0 led) }).objs.size := by
          rw [Heap.size_push]; exact Nat.ne_of_lt (Nat.lt_succ_of_lt hlS)
        have hSf : s.heap.objs.size ∉ [(s.heap.push { cls := .type "set", dict := none, data := .set #[] 0 (.fresh 0 0 led) }).objs.size, l] := by
          rw [Heap.size_push]; simp only [List.mem_cons, List.mem_singleton, List.not_mem_nil, or_false, not_or]
          exact ⟨Nat.ne_of_lt (Nat.lt_succ_self _), Nat.ne_of_gt hlS⟩
        refine set_loop ((Walks.list hh3 _ l hneI items).toS) s.heap.objs.size hSf val hval J hJ (fun i s1 tk Q E hi j k => hadd i _ s1 tk Q E hi j k) (items.size - 0) 0 _ (by omega) (Nat.zero_le _)
          ⟨⟨_, Heap.get?_push_size _ rfl, rfl, rfl⟩, (hl1.push _)⟩ (hJ _ _ _ h0 fun o e => Heap.get?_push_of_some _ e) ?hR
        case hR =>
          intro s' hm hS'
          obtain ⟨h', g', d', tk', os'⟩ := s'
          have eg : g' = s.gens := hm.gens
          have ed : d' = s.drawn := hm.drawn
          have eo : os' = s.os := hm.os
          subst eg; subst ed; subst eo
          show wpAny _ _ _ _ _ _
          refine wpAny_pure ?_
          show wpAny _ _ (ret Value.none) _ _ _
          refine wpAny_pure ⟨rfl, h', tk', rfl, hS', fun b o hb e => ?_⟩
          have hb1 : b ≠ s.heap.objs.size := Nat.ne_of_lt hb
          have hb2 : b ≠ (s.heap.push { cls := .type "set", dict := none, data := .set #[] 0 (.fresh 0 0 led) }).objs.size := by
            rw [Heap.size_push]; exact Nat.ne_of_lt (Nat.lt_succ_of_lt hb)
          exact hm.heap b o (by simp only [List.mem_cons, List.mem_singleton, List.not_mem_nil, or_false, not_or]; exact ⟨hb1, hb2⟩) (Heap.get?_push_of_some _ (Heap.get?_push_of_some _ e))
      · cases r₂ with
        | error e => exact hr₂
        | ok fl₂ =>
          cases fl₂ with
          | ret r =>
            obtain ⟨rfl, h', tk, rfl, hS', hk'⟩ := hr₂
            repeat (any_goals (first | assumption | wp_step))
            exact h _ _ hS' hk'
          | _ => exact hr₂.elim
    | _ => exact hr.elim
end
end PySem

namespace PySem.W
section
variable {prog : Program} {w : World} {A : Around} {E : Value → Shared → Prop} {s : Shared} {r : Addr} {Q : Bool → Shared → Prop}
theorem kdl_hint_set (hT : s.TypeIs (.ref r) "set") (h : Q false s) : wpAny (model prog w) A (Builtin.List.listLengthHint (.ref r)) Q E s := by
  unfold Builtin.List.listLengthHint
  refine wpAny_bind (wpAny_specialOf hT PySem.F.slot_set_len.lookup ?_)
  generalize hid : ("set.__len__" : String) = id0
  wp_delta
  rw [show splitId id0 = some ("set", "__len__") from by subst hid; decide +kernel]
  subst hid
  refine wpAny_bind (wpAny_isInstance (T := "set") (b := true) hT (by rw [isSubtype_type]; kernel_rfl) ?_)
  refine wpAny_ite_split (fun hab => absurd hab (by decide)) (fun _ => ?_)
  refine wpAny_ite_split (fun _ => ?_) (fun hab => absurd (by decide +kernel) hab)
  refine wpAny_bind (wpAny_typeOf hT ?_)
  exact wpAny_pure h
end
theorem kdl_set {prog : Program} {w : World} {a : Addr} {es : Array (Int × Value)} {ep : Nat} {t : SetTable} (hw : SetWalked w a es ep t) :
    KdlSrc prog w "set" a a es.size (fun i v => ∃ x, (setOrd w a es ep)[i]? = some x ∧ v = x.2) (fun h => h.get? a = some { cls := .type "set", data := .set es ep t }) where
  type := fun _ hm => ⟨_, hm, rfl⟩
  there := fun _ hm => ⟨Heap.lt_size hm, Heap.lt_size hm⟩
  keep := fun _ _ hm hk => hk a (.inl rfl) _ hm
  notList := by decide
  notTuple := by decide
  hint := fun _ _ _ _ hm hq => kdl_hint_set ⟨_, hm, rfl⟩ hq
  iter := fun _ _ hh hm => ⟨_, _, (fun _ _ hq => wpAny_pyIter_set hm hw hq), Walks.setKeys hh _ a (Nat.ne_of_lt (Heap.lt_size hm)) hw, ⟨⟨0, .inr rfl, Heap.get?_push_size _ rfl⟩, Heap.get?_push_of_some _ hm, Nat.zero_le _⟩⟩
end PySem.W

set_option Elab.async false
set_option linter.all false
set_option maxRecDepth 100000
namespace L2
open PySem PySem.Spec PyProof.Rows
/-- a set of ints at a that holds just ns -/
def SetO (w : World) (a : Addr) (ns : List Int) : HO := .ext fun h => ∃ es ep t ms, h.get? a = some { cls := .type "set", data := .set es ep t } ∧ SetWalked w a es ep t ∧ IntsAre (es.toList.map (·.2)) ms ∧ ms.Perm ns
theorem intsAre_perm : ∀ {vs us : List Value} {ns : List Int}, us.Perm vs → IntsAre vs ns → ∃ ms, IntsAre us ms ∧ ms.Perm ns := by
  intro vs us ns p
  induction p generalizing ns with
  | nil => intro h; exact ⟨ns, h, .refl _⟩
  | cons x _ ih =>
    intro h
    cases h with
    | cons n t r =>
      obtain ⟨ms, h1, h2⟩ := ih r
      exact ⟨n :: ms, .cons n t h1, h2.cons _⟩
  | swap x y l =>
    intro h
    cases h with
    | cons n t r =>
      cases r with
      | cons m u r => exact ⟨m :: n :: _, .cons m u (.cons n t r), .swap ..⟩
  | trans _ _ ih1 ih2 =>
    intro h
    obtain ⟨ms, h1, h2⟩ := ih2 h
    obtain ⟨ms', h3, h4⟩ := ih1 h1
    exact ⟨ms', h3, h4.trans h2⟩
section
variable {X : Cx}
/-- sorted(a set) -/
theorem call_sorted_set {w : World} (hw : X.w = w) (hc : X.calm = true) : CallR X (.builtin "sorted") (fun xs H Q => ∃ a ns, xs = [.ref a] ∧ H a = some (SetO w a ns) ∧ ns.length < 64 ∧
    ∀ (l : Addr) (ns' : List Int), H l = none → ns'.Perm ns → ns'.Pairwise (· ≤ ·) → Q (.ref l) (upd H l (.lst (ns'.map V.int)))) := by
  subst hw
  intro pins s σ H xs us Q I r h
  obtain ⟨a, ns, rfl, ha, hlt, q⟩ := h
  obtain ⟨u, rfl, ru⟩ := vals1 r
  cases ru
  obtain ⟨⟨es, ep, t, ms, hg, hw, hI, hp⟩, _, _⟩ := I.hok a _ ha
  have hlen : es.size = ns.length := by
    have := IntsAre.length hI
    rw [List.length_map, Array.length_toList, hp.length_eq] at this
    exact this
  have hvals : ∀ vs : List Value, vs.length = es.size → (∀ (j : Nat) (v : Value), vs[j]? = some v → ∃ x, (setOrd X.w a es ep)[j]? = some x ∧ v = x.2) → vs.Perm (es.toList.map (·.2)) := fun vs h1 h2 => by
    have e : vs = (setOrd X.w a es ep).toList.map (·.2) := by
      refine List.ext_getElem? fun j => ?_
      by_cases c : j < vs.length
      · obtain ⟨x, e1, e2⟩ := h2 j _ (List.getElem?_eq_getElem c)
        rw [List.getElem?_eq_getElem c, List.getElem?_map, Array.getElem?_toList, e1, e2]; rfl
      · rw [List.getElem?_eq_none (by omega), List.getElem?_eq_none (by rw [List.length_map, Array.length_toList, setOrd_size]; omega)]
    rw [e]
    exact (setOrd_perm X.w a es ep).map _
  refine sorted_src (PySem.W.kdl_set hw) (I.ok.hd hc) hg (by omega) (fun vs h1 h2 => ?_) fun D h' tk e vs ms1 ns' out hk hD ho h1 h2 hI1 hO hp1 hs => ?_
  · obtain ⟨ms', h3, _⟩ := intsAre_perm (hvals vs h1 h2) hI
    exact ⟨ms', h3⟩
  · obtain ⟨ms', h3, h4⟩ := intsAre_perm (hvals vs h1 h2) hI
    have em : ms' = ms1 := vals_ints_inj (intsAre_vals h3) hI1
    subst em
    have pp := (hp1.trans h4).trans hp
    have hz' : (ns'.map V.int).length ≤ sizeLine := by rw [List.length_map, pp.length_eq, sizeLine_eq]; omega
    obtain ⟨hn, I'⟩ := I.laidN (t' := tk) (o := .lst (ns'.map V.int)) hk hD ⟨hz', out.toList, e, intsAre_vals hO, by rw [Array.toArray_toList]; exact ho⟩
    exact ⟨.ref D, _, I', rfl, q D ns' hn pp hs⟩
def setNs (x y : Int) : List Int := if x = y then [x] else [x, y]
/-- set of a list of two small ints -/
theorem call_set_two {w : World} (hw : X.w = w) (hc : X.calm = true) : CallR X (.type "set") (fun xs H Q => ∃ l x y, xs = [.ref l] ∧ H l = some (.lst [.int x, .int y]) ∧ 0 ≤ x ∧ x < 48 ∧ 0 ≤ y ∧ y < 48 ∧
    ∀ a : Addr, H a = none → Q (.ref a) (upd H a (SetO w a (setNs x y)))) := by
  subst hw
  intro pins s σ H xs us Q I r h
  obtain ⟨l, x, y, rfl, hl, x0, x1, y0, y1, q⟩ := h
  obtain ⟨u, rfl, ru⟩ := vals1 r
  cases ru
  obtain ⟨its, rv, p, hz⟩ := I.list (.of hl)
  obtain ⟨ux, uy, rfl, rx, ry⟩ := vals2 rv
  obtain ⟨tx, rfl⟩ := rx
  obtain ⟨ty, rfl⟩ := ry
  obtain ⟨xN, rfl⟩ := Int.eq_ofNat_of_zero_le x0
  obtain ⟨yN, rfl⟩ := Int.eq_ofNat_of_zero_le y0
  have xl : xN < 48 := by omega
  have yl : yN < 48 := by omega
  have hx := hash_small xN xl
  have hy := hash_small yN yl
  have o1 : oneOk xN (!X.w.params.followText "set-order") = true := by
    cases (!X.w.params.followText "set-order")
    · exact (one_ok xN xl).2
    · exact (one_ok xN xl).1
  have o2 : xN ≠ yN → twoOk xN yN (!X.w.params.followText "set-order") = true := fun ne => by
    cases (!X.w.params.followText "set-order")
    · exact (two_ok xN xl yN yl ne).2
    · exact (two_ok xN xl yN yl ne).1
  generalize hled : (!X.w.params.followText "set-order") = led at o1 o2
  have b1 := o1
  simp only [oneOk, Bool.and_eq_true, beq_iff_eq, Bool.not_eq_true'] at b1
  obtain ⟨⟨⟨⟨_, f1⟩, p1⟩, d1⟩, u1⟩ := b1
  have kOf : ∀ (n t : Nat), n < 48 → ElemsOf (intKind X.prog X.w) [((n : Int), Value.int n t)] := fun n t hn e he => by
    rw [List.mem_singleton.mp he]
    exact ⟨⟨(n : Int), by simp [intKind, Value.isInt], (hash_small n hn).symm⟩, rfl⟩
  have len0 : ([Value.int xN tx, Value.int yN ty].toArray).size = 2 := rfl
  refine call_set_by (items := [Value.int xN tx, Value.int yN ty].toArray) (fun i => if i = 0 then (xN : Int) else yN)
    (fun i h => ∃ es ep t, h.get? s.heap.objs.size = some { cls := .type "set", data := .set es ep t } ∧ (i = 0 → es = #[] ∧ t = .fresh 0 0 led) ∧ (i = 1 → (∃ t1, es = #[((xN : Int), Value.int xN t1)]) ∧ t = setOne xN led) ∧ (i = 2 → SetWalked X.w s.heap.objs.size es ep t ∧ ∃ ms, IntsAre (es.toList.map (·.2)) ms ∧ ms.Perm (setNs xN yN)))
    (I.ok.hd hc) p.isList (fun i v hv => ?_) ⟨_, _, _, Heap.get?_push_size _ rfl, fun _ => ⟨rfl, by rw [hled]⟩, fun z => by omega, fun z => by omega⟩ (fun i h h' j k => ?_) (fun i A s1 tk Q E hi j k => ?_) fun h' tk j hk => ?_
  · match i, hv with
    | 0, hv => simp at hv; exact ⟨tx, by rw [← hv]; rfl⟩
    | 1, hv => simp at hv; exact ⟨ty, by rw [← hv]; rfl⟩
    | n + 2, hv => simp at hv
  · obtain ⟨es, ep, t, h1, h2⟩ := j
    exact ⟨es, ep, t, k _ h1, h2⟩
  · obtain ⟨es, ep, t, h1, h2, h3, h4⟩ := j
    match i, hi with
    | 0, _ =>
      obtain ⟨rfl, rfl⟩ := h2 rfl
      show wpAny _ _ (setAddHashed _ (.int (xN : Int) tk) ((intKind X.prog X.w).hash (xN : Int))) _ _ _
      refine setAdd_new h1 rfl (fun e he => by simp at he) (by decide) (es' := #[((xN : Int), Value.int xN tk)]) (by rw [sizeLine_eq]; simp) rfl (by rw [hx]; exact layNew_one o1) p1 u1 fun h' sb g => k _ h' sb ⟨_, _, _, g, fun z => by omega, fun _ => ⟨⟨tk, rfl⟩, rfl⟩, fun z => by omega⟩
    | 1, _ =>
      obtain ⟨⟨t1, rfl⟩, rfl⟩ := h3 rfl
      show wpAny _ _ (setAddHashed _ (.int (yN : Int) tk) ((intKind X.prog X.w).hash (yN : Int))) _ _ _
      by_cases c : xN = yN
      · subst c
        refine setAdd_old (j := 0) h1 f1 (kOf xN t1 xl) (by simp [scanBound]) (by simp [intKind, Value.isInt]) ?_
        refine k _ s1.heap (Heap.SameBut.refl _ _) ⟨_, _, _, h1, fun z => by omega, fun z => by omega, fun _ => ⟨⟨f1, p1, by rw [d1, hled], fun i j hij hj => by simp at hj; omega⟩, [(xN : Int)], .cons _ _ .nil, ?_⟩⟩
        unfold setNs
        rw [if_pos rfl]
      · have ok2 := o2 c
        obtain ⟨es', hL, hp⟩ := layNew_two (x := (xN : Int)) (y := (yN : Int)) (u := Value.int xN t1) (v := Value.int yN tk) ok2
        have b2 := ok2
        simp only [twoOk, Bool.and_eq_true, beq_iff_eq, Bool.not_eq_true', decide_eq_true_eq] at b2
        obtain ⟨⟨⟨⟨⟨_, f2⟩, p2⟩, d2⟩, u2⟩, r2⟩ := b2
        have sz : es'.size = 2 := by have := hp.length_eq; simpa using this
        refine setAdd_new h1 f1 (kOf xN t1 xl) (by simp [scanBound]) (by rw [sz, sizeLine_eq]; decide) ?_ (by rw [hy]; exact hL) p2 u2 fun h' sb g => k _ h' sb ⟨_, _, _, g, fun z => by omega, fun z => by omega, fun _ => ⟨⟨by rw [sz]; exact f2, p2, by rw [d2, hled], fun i j hij hj => ?_⟩, ?_⟩⟩
        · have c' : ¬ (xN : Int) = yN := by omega
          have c2 : ¬ xN = yN := c
          simp [intKind, Value.isInt, c', c2]
        · have e1 : i = 0 := by omega
          have e2 : j = 1 := by omega
          rw [e1, e2]; exact r2
        · obtain ⟨ms, g1, g2⟩ := intsAre_perm (vs := [Value.int xN t1, Value.int yN tk]) (us := es'.toList.map (·.2)) (by simpa using hp.map (·.2)) (.cons (xN : Int) t1 (.cons (yN : Int) tk .nil))
          refine ⟨ms, g1, ?_⟩
          unfold setNs
          rw [if_neg (by omega)]
          exact g2
    | n + 2, h => exact absurd h (by rw [len0]; omega)
  · obtain ⟨es, ep, t, h1, _, _, h4⟩ := j
    obtain ⟨w1, ms, h5, h6⟩ := h4 rfl
    refine ⟨.ref s.heap.objs.size, _, I.laid (t' := tk) (o := SetO X.w s.heap.objs.size (setNs xN yN)) (fun b u e => hk b u (Heap.lt_size e) e) (Nat.le_refl _) ?_, rfl, q _ (I.hok.fresh (Nat.le_refl _))⟩
    exact ⟨⟨es, ep, t, ms, h1, w1, h5, h6⟩, ⟨_, h1⟩, fun ha hb ⟨es, ep, t, ms, h1, r⟩ k => ⟨es, ep, t, ms, k _ h1, r⟩⟩
end
end L2

set_option Elab.async false
set_option linter.all false
set_option maxRecDepth 100000
namespace L2
open PySem PySem.Spec PyProof.Rows
inductive RepD (H : Hp) : V → PyData → Prop
  | non : RepD H .non .none
  | bl (b : Bool) : RepD H (.bl b) (.bool b)
  | int (i : Int) : RepD H (.int i) (.int i)
  | str (x : Str) : RepD H (.str x) (.str x)
  | lst {p : Addr} {vs : List V} {ds : List PyData} : H p = some (.lst vs) → vs.length = ds.length → (∀ (i : Nat) (v : V) (d : PyData), vs[i]? = some v → ds[i]? = some d → RepD H v d) → RepD H (.ref p) (.list ds)
  | tup {p : Addr} {vs : List V} {ds : List PyData} : H p = some (.tup vs) → vs.length = ds.length → (∀ (i : Nat) (v : V) (d : PyData), vs[i]? = some v → ds[i]? = some d → RepD H v d) → RepD H (.ref p) (.tuple ds)
theorem RepD.same {H H' : Hp} {v : V} {d : PyData} (S : Same H H') (r : RepD H v d) : RepD H' v d := by
  induction r with
  | non => exact .non
  | bl b => exact .bl b
  | int i => exact .int i
  | str x => exact .str x
  | lst h l _ ih => exact .lst (S _ _ h) l ih
  | tup h l _ ih => exact .tup (S _ _ h) l ih
theorem readsAll {h : Heap} : ∀ {vs : List V} {its : List Value} {ds : List PyData}, Vals vs its → vs.length = ds.length → (∀ (i : Nat) (v : V) (d : PyData) (u : Value), vs[i]? = some v → ds[i]? = some d → RelV v u → ∃ as, Reads h u d as) → ∃ as, ReadsAll h its ds as
  | [], _, [], .nil, _, _ => ⟨_, .nil⟩
  | [], _, _ :: _, .nil, l, _ => by simp at l
  | v :: vs, u :: its, [], .cons _ _, l, _ => by simp at l
  | v :: vs, u :: its, d :: ds, .cons r t, l, k => by
    obtain ⟨as, h1⟩ := k 0 v d u rfl rfl r
    obtain ⟨bs, h2⟩ := readsAll t (by simpa using l) fun i v d u a b c => k (i + 1) v d u (by simpa using a) (by simpa using b) c
    exact ⟨_, .cons h1 h2⟩
theorem RepD.reads {P : Program} {w : World} {H : Hp} {h : Heap} (hok : HOk P w H h) {v : V} {d : PyData} (r : RepD H v d) : ∀ {u : Value}, RelV v u → ∃ as, Reads h u d as := by
  induction r with
  | non => intro u e; cases e; exact ⟨_, .none⟩
  | bl b => intro u e; cases e; exact ⟨_, .bool b⟩
  | int i => intro u e; obtain ⟨t, rfl⟩ := e; exact ⟨_, .int i t⟩
  | str x => intro u e; obtain ⟨t, rfl⟩ := e; exact ⟨_, .str x t⟩
  | @lst p vs ds hp l _ ih =>
    intro u e
    cases e
    obtain ⟨_, its, n, rv, g⟩ := hok p _ hp
    obtain ⟨as, ra⟩ := readsAll (h := h) rv l fun i v d u a b c => ih i v d a b c
    exact ⟨_, .list g rfl rfl ra⟩
  | @tup p vs ds hp l _ ih =>
    intro u e
    cases e
    obtain ⟨_, its, rv, g⟩ := hok p _ hp
    obtain ⟨o, g1, g2, n, g3⟩ := g
    obtain ⟨as, ra⟩ := readsAll (h := h) rv l fun i v d u a b c => ih i v d a b c
    exact ⟨_, .tuple g1 g2 g3 ra⟩
section
variable {X : Cx}
end
section
variable {X : Cx} {K : PySem.W.Frag}
theorem op_in_seqK (hk : X.K = K) : OpR X (compareOp .In) (rIn K false) := by subst hk; exact op_in_seq
theorem op_notIn_seqK (hk : X.K = K) : OpR X (compareOp .NotIn) (rIn K true) := by subst hk; exact op_notIn_seq
end
end L2

set_option Elab.async false
set_option linter.all false
set_option maxRecDepth 100000
namespace L2
open PySem PySem.Spec PyProof.Rows
structure KDct (K : PySem.W.Frag) (a : Addr) (D : List (Str × V)) : Prop where
  lo : (a == sysModules) = false
  at_ : ∃ o es ep, K.lookup a = some o ∧ o.ExactDict ∧ o.data = .dict es ep ∧ KTD.Rows RelV es.toList D
section
variable {prog : Program} {w : World} {A : Around} {E : Value → Shared → Prop} {s : Shared} {a : Addr} {D : List (Str × V)} {k : Str} {tk : Tok}
def KHere (h : Heap) (a : Addr) (D : List (Str × V)) : Prop := KTD.TabOf RelV h a D
theorem KHere.typeIs (T : KHere s.heap a D) : s.TypeIs (.ref a) "dict" := let ⟨_, o, _, _, ho, hc, _⟩ := T; ⟨o, ho, hc.1⟩
end
theorem KDct.here {X : Cx} {pins : List (Addr × Obj)} {σ : St} {H : Hp} {s : Shared} {a : Addr} {D : List (Str × V)} (I : Inv X pins σ H s) (g : KDct X.K a D) : KHere s.heap a D := by
  obtain ⟨lo, o, es, ep, hk, hc, hd, hr⟩ := g
  exact ⟨lo, o, es, ep, I.kIn a o hk, hc, hd, hr⟩
section
variable {X : Cx} {o i e : Expr} {pos apos cpos : Pos} {td ty : TE} {K : PySem.W.Frag}
end
def CMulB (i j : Int) : Prop := i.natAbs < 2 ^ 1000 ∧ j.natAbs < 2 ^ 1000
theorem intBits_small {i : Int} (h : i.natAbs < 2 ^ 1000) : Builtin.Int.intBits i ≤ 1000 := by
  unfold Builtin.Int.intBits
  split
  · omega
  · rename_i c
    have c' : i.natAbs ≠ 0 := by intro e; exact c (by simpa using Int.natAbs_eq_zero.mp e)
    have := (Nat.log2_lt c').mpr h
    omega
theorem CMulB.ok {i j : Int} (h : CMulB i j) : IntMulOk i j := by
  have h1 := intBits_small h.1
  have h2 := intBits_small h.2
  unfold IntMulOk
  have : Builtin.Int.intTooBig ((Builtin.Int.intBits i : Int) + (Builtin.Int.intBits j : Int)) = false := by
    unfold Builtin.Int.intTooBig
    have hb : (2000 : Int) ≤ bitsLine := by decide
    simp
    omega
  rw [this]; simp
end L2

set_option Elab.async false
set_option linter.all false
set_option maxRecDepth 100000
namespace L2
open PySem PySem.Spec PyProof.Rows
section
variable {X : Cx}
theorem upd_newS {H1 H : Hp} {D : Addr} {u : HO} (S : Same H1 H) (hD : H1 D = none) : Same H1 (upd H D u) := fun q o h => by
  rw [upd_ne (fun e => by rw [e, hD] at h; cases h)]
  exact S q o h
theorem take_fm {α β : Type} (f : α → Option β) (xs : List α) (i : Nat) (x : α) (h : xs[i]? = some x) : (xs.take (i + 1)).filterMap f = (xs.take i).filterMap f ++ (f x).toList := by
  rw [List.take_succ, h, List.filterMap_append]
  cases e : f x <;> simp [e]
theorem compLS {K : PySem.W.Frag} {cap : List (Option Nat)} {tl : TE} {g : TG} {tt : TT} {te : TE} {σ : St} {H H1 : Hp} {Q : VK} (a : Addr) (xs : List V) (f : V → Option V) (hr : ∀ Q, Q (.ref a) H1 → tl σ H Q) (hq : SqL K H1 a xs) (hz : xs.length ≤ sizeLine)
    (hs : ∀ x H (R : V → Hp → Prop) (N : Hp → Prop), x ∈ xs → Same H1 H → (∀ y H', f x = some y → Same H H' → R y H') → (f x = none → ∀ H', Same H H' → N H') → g x (capSt cap σ) H fun σ4 H4 => tt σ4 H4 fun b H5 => if b = true then te σ4 H5 R else N H5)
    (hd : ∀ D H', H1 D = none → Same H1 H' → H' D = some (.lst (xs.filterMap f)) → Q (.ref D) H') : tComp cap (iList K tl) g tt te σ H Q := by
  refine compL a xs hr hq (fun D i ys H2 => Same H1 H2 ∧ H2 D = some (.lst ys) ∧ ys = (xs.take i).filterMap f) (fun D hD => ⟨upd_newS (fun _ _ h => h) hD, upd_same, rfl⟩) ?_ hz ?_ ?_
  · rintro D hD i ys H2 hi ⟨S, h2, e⟩
    refine ⟨S.seq hq, h2, ?_⟩
    rw [e]
    exact Nat.le_trans (List.length_filterMap_le _ _) (by rw [List.length_take]; omega)
  · rintro D hD i x ys H2 hx ⟨S, h2, e⟩
    refine hs x H2 _ _ (List.mem_of_getElem? hx) S (fun y H' ey S2 => ⟨S2 _ _ h2, upd_newS (fun q o h => S2 _ _ (S _ _ h)) hD, upd_same, ?_⟩) (fun ey H' S2 => ⟨fun q o h => S2 _ _ (S _ _ h), S2 _ _ h2, ?_⟩)
    · rw [take_fm f xs i x hx, ey, e]; rfl
    · rw [take_fm f xs i x hx, ey, e]; simp
  · rintro D hD ys H2 ⟨S, h2, e⟩
    refine hd D H2 hD S ?_
    rw [h2, e, List.take_length]
end
end L2

set_option Elab.async false
set_option linter.all false
set_option maxRecDepth 100000
namespace L2
open PySem PySem.Spec PyProof.Rows
section
variable {X : Cx}
end
end L2

set_option Elab.async false
set_option linter.all false
set_option maxRecDepth 100000
namespace L2
open PySem PySem.Spec PyProof.Rows
section
variable {X : Cx} {es : List Expr} {t te : TA} {s : Str} {i : Int} {j : Nat} {p : Pos}
theorem pa_cstr (h : PA X es t) : PA X (.Constant (.str s) j p :: es) (tCons (tC (.str s)) t) := pa_cons pe_str h rfl
theorem pa_cint (h : PA X es t) : PA X (.Constant (.int i) j p :: es) (tCons (tC (.int i)) t) := pa_cons pe_int h rfl
theorem pa_cname {x : Str} {te : TE} (h1 : PE X (.Name x p) te) (h : PA X es t) : PA X (.Name x p :: es) (tCons te t) := pa_cons h1 h rfl
end
theorem ps_setL {X : Cx} {i : Nat} {x : Str} {es : List Expr} {t : TA} {pos pos' p : Pos} (hN : X.N.Nodup) (hi : X.N[i]? = some x) (hx : Loc X.env.scope x) (he : PA X es t) (hf : X.fn x = true ∨ X.env.scope.names.lookup x = some .local := by first | exact .inl rfl | exact .inr rfl | assumption) :
    PS X (.Assign [.Name x pos'] (.List es p) pos) (tAsg (tLst t) (gName i)) := ps_set hN hi hx (pe_lst he) rfl hf
section
variable {X : Cx} {e : Expr} {te : TE} {p p1 p2 pos cpos : Pos} {j : Nat} {K : PySem.W.Frag}
theorem call_sorted_list : CallR X (.builtin "sorted") (fun xs H Q => ∃ d ns, xs = [.ref d] ∧ SqL X.K H d (ns.map V.int) ∧ ns.length < 64 ∧
    ∀ (l : Addr) (ns' : List Int), H l = none → ns'.Perm ns → ns'.Pairwise (· ≤ ·) → Q (.ref l) (upd H l (.lst (ns'.map V.int)))) := by
  intro pins s σ H xs us Q I r h
  obtain ⟨d, ns, rfl, hd, hlt, q⟩ := h
  obtain ⟨u, rfl, ru⟩ := vals1 r
  cases ru
  obtain ⟨its, rr, ht, hz⟩ := I.list hd
  have hl := rr.length
  rw [List.length_map] at hl
  refine sorted_ints ht.isList (intsAre_of rr) (by omega) fun out ns' hI hp hs => ?_
  obtain ⟨e, he⟩ := sortedAll_at s.heap its out
  have hz' : (ns'.map V.int).length ≤ sizeLine := by rw [List.length_map, hp.length_eq, sizeLine_eq]; omega
  have hn : s.heap.get? (s.heap.objs.size + 1) = none := by
    cases c : s.heap.get? (s.heap.objs.size + 1) with
    | none => rfl
    | some o => exact absurd (Nat.lt_of_succ_lt (Heap.lt_size c)) (Nat.lt_irrefl _)
  obtain ⟨hn2, I'⟩ := I.laidN (t' := s.toks) (o := .lst (ns'.map V.int)) (fun b o g => sortedAll_old (vs := its) (out := out) g) hn ⟨hz', out.toList, e, intsAre_vals hI, by rw [Array.toArray_toList]; exact he⟩
  exact ⟨.ref _, _, I', rfl, q _ ns' hn2 hp hs⟩
def tSortR (K : PySem.W.Frag) (te : TE) : TE := fun σ H Q => te σ H fun x H1 => ∃ d ns, x = .ref d ∧ SqL K H1 d (ns.map V.int) ∧ ns.length < 64 ∧
    ∀ (l : Addr) (ns' : List Int), H1 l = none → ns'.Perm ns → ns'.Pairwise (· ≥ ·) → Q (.ref l) (upd H1 l (.lst (ns'.map V.int)))
theorem pe_sorted_rev (hk : X.K = K) (hg : Gl X "sorted") (hm : X.mg "sorted" = none) (he : PE X e te)
    (hs : backTo pos (starEach [e] X.env) = (false, eval e X.env) :: backTo pos (starEach [] X.env) := by rfl) : PE X (.Call (.Name "sorted" p) [e] [⟨some "reverse", .Constant (.bool true) j p1, p2⟩] pos) (tSortR K te) := by
  subst hk
  intro pins s σ H Q I h
  refine wpAny_Call_Name_kw (ld_blt I hg hm boot_sorted ?_)
  refine callWith_kw ?_ hs (by rw [hs]; rfl)
  rw [hs]
  refine Calls.spliced_cons (thn (he pins s σ H _ I h) fun u s1 ⟨x, H1, I1, r1, d, ns, ex, hd, hlt, q⟩ => Calls.spliced_nil ?_)
  subst ex
  cases r1
  refine PyProof.Rows.evalAll_cons (wpAny_bind ?_)
  refine thn ((pe_bl (X := X) (b := true) (j := j) (pos := p1)) pins s1 σ H1 (fun y H2 => y = .bl true ∧ H2 = H1) I1 ⟨rfl, rfl⟩) fun v s2 ⟨y, H2, I2, r2, e1, e2⟩ => ?_
  subst e1 e2
  obtain rfl : v = .bool true := r2
  refine wpAny_bind (wpAny_standAt (wpAny_pure (PyProof.Rows.evalAll_nil ?_)))
  show wpAny _ _ (call (.builtin "sorted") [.ref d] [(Str.ofString "reverse", .bool true)]) _ _ _
  obtain ⟨its, rr, ht, hz⟩ := I2.list hd
  have hl := rr.length
  rw [List.length_map] at hl
  refine sorted_ints_rev ht.isList (intsAre_of rr) (by omega) fun out ns' hI hp hs => ?_
  obtain ⟨e, he⟩ := sortedAll_at s2.heap its out
  have hz' : (ns'.map V.int).length ≤ sizeLine := by rw [List.length_map, hp.length_eq, sizeLine_eq]; omega
  have hn : s2.heap.get? (s2.heap.objs.size + 1) = none := by
    cases c : s2.heap.get? (s2.heap.objs.size + 1) with
    | none => rfl
    | some o => exact absurd (Nat.lt_of_succ_lt (Heap.lt_size c)) (Nat.lt_irrefl _)
  obtain ⟨hn2, I'⟩ := I2.laidN (t' := s2.toks) (o := .lst (ns'.map V.int)) (fun b o g => sortedAll_old (vs := its) (out := out) g) hn ⟨hz', out.toList, e, intsAre_vals hI, by rw [Array.toArray_toList]; exact he⟩
  exact ⟨.ref _, _, I', rfl, q _ ns' hn2 hp (by unfold Ordered at hs; simpa using hs)⟩
end
end L2

set_option Elab.async false
set_option linter.all false
set_option maxRecDepth 100000
namespace L2
open PySem PySem.Spec PyProof.Rows
section
variable {prog : Program} {w : World} {A : Around}
def KeptBut (I S : Addr) (h0 h : Heap) : Prop := ∀ b o, b ≠ I → b ≠ S → h0.get? b = some o → h.get? b = some o
theorem KeptBut.one {I S : Addr} {h0 h h' : Heap} (k : KeptBut I S h0 h) (e : ∀ b o, b ≠ I → b ≠ S → h.get? b = some o → h'.get? b = some o) : KeptBut I S h0 h' := fun b o n1 n2 q => e b o n1 n2 (k b o n1 n2 q)
set_option maxHeartbeats 2000000 in
theorem minlen_loop {l I S : Addr} {vs : List Value} {kf : Nat → Int} {h0 : Heap} {d : Value} {R : Result → Shared → Prop} {s : Shared} (hh : A.handled = none) (hne : I ≠ S)
    (hl : ∀ h : Heap, KeptBut I S h0 h → h.IsList l vs.toArray)
    (hkey : ∀ (i : Nat) (v : Value), vs[i]? = some v → ∀ (A' : Around) (s' : Shared) (E' : Value → Shared → Prop) (Q' : Value → Shared → Prop), KeptBut I S h0 s'.heap → (∀ t tk, Q' (.int (kf i) t) { s' with toks := tk }) → wpAny (model prog w) A' (call (.builtin "len") [v]) Q' E' s')
    (fin : ∀ (i : Nat) (v : Value) (h' : Heap) (tk : Nat), vs[i]? = some v → KeptBut I S h0 h' → R (.ok (.ret v)) { s with heap := h', toks := tk })
    (fin0 : vs = [] → ∀ (h' : Heap) (tk : Nat), KeptBut I S h0 h' → R (.ok (.ret d)) { s with heap := h', toks := tk }) :
    ∀ (r j : Nat) (h : Heap) (tk : Nat) (old : List Value) (c : Nat), vs.length - j = r → j ≤ vs.length → KeptBut I S h0 h → h.IsListIter I l j → h.get? S = some (seqObj "list" old.toArray c) →
      ((old = [] ∧ j = 0) ∨ ∃ (i : Nat) (vb : Value) (tb : Tok), old = [vb, .int (kf i) tb] ∧ vs[i]? = some vb) →
      codeAny (model prog w) A (.builtin "min.loop" { pos := [.ref I, .builtin "len", .ref S], kw := [("default", d)] }) R { s with heap := h, toks := tk } := by
  intro r
  induction r with
  | zero =>
    intro j h tk old c hr hj K hI hS ho
    refine codeAny_builtin PySem.F.entry_min_loop ?_
    refine wpAny_bind ?_
    refine wpAny_bind (wpAny_load hS ?_)
    refine wpAny_pure ?_
    refine wpAny_bind (wpAny_tryCatch (wpAny_pyNext_list_end (show (A.under _).handled = none from hh) hI (hl h K) (by rw [List.getElem?_toArray]; exact List.getElem?_eq_none (by omega)) fun h' he => ?_))
    have K' : KeptBut I S h0 h' := K.one fun b o n1 _ q => he b o n1 q
    have hS' : h'.get? S = some (seqObj "list" old.toArray c) := he S _ (Ne.symm hne) hS
    rcases ho with ⟨rfl, rfl⟩ | ⟨i, vb, tb, rfl, hi⟩
    · exact wpAny_bind (wpAny_rule (wpAny_pure (fin0 (List.length_eq_zero_iff.mp (by omega)) h' tk K')))
    · refine wpAny_bind (wpAny_updateSeq hS' rfl ?_ (by simp [sizeLine_eq]) (by simp))
      refine wpAny_bind (wpAny_letGo (wpAny_pure ?_))
      exact fin i vb _ _ hi (K'.one fun b o _ n2 q => by rw [Heap.get?_update_other _ _ (Ne.symm n2)]; exact q)
  | succ r ih =>
    intro j h tk old c hr hj K hI hS ho
    refine codeAny_builtin PySem.F.entry_min_loop ?_
    refine wpAny_bind ?_
    refine wpAny_bind (wpAny_load hS ?_)
    refine wpAny_pure ?_
    have jl : j < vs.length := by omega
    refine wpAny_bind (wpAny_tryCatch (wpAny_pyNext_list_item hI (hl h K) (x := vs[j]) (by rw [List.getElem?_toArray]; exact List.getElem?_eq_getElem jl) fun h' hI' hs => ?_))
    have K' : KeptBut I S h0 h' := K.one fun b o n1 _ q => by rw [hs.2 b n1]; exact q
    have hS' : h'.get? S = some (seqObj "list" old.toArray c) := by rw [hs.2 S (Ne.symm hne)]; exact hS
    have hvj := List.getElem?_eq_getElem jl
    refine wpAny_bind (wpAny_tryCatch (wpAny_holding (hkey j vs[j] hvj _ _ _ _ K' fun t tk2 => ?_)))
    have step : ∀ (u : Value) (i : Nat) (tb : Tok) (c' : Nat) (h2 : Heap) (tk3 : Nat), vs[i]? = some u → KeptBut I S h0 h2 → h2.IsListIter I l (j + 1) → h2.get? S = some (seqObj "list" [u, .int (kf i) tb].toArray c') → codeAny (model prog w) A (.builtin "min.loop" { pos := [.ref I, .builtin "len", .ref S], kw := [("default", d)] }) R { s with heap := h2, toks := tk3 } :=
      fun u i tb c' h2 tk3 g1 g2 g3 g4 => ih (j + 1) h2 tk3 _ c' (by omega) (by omega) g2 g3 g4 (.inr ⟨i, u, tb, rfl, g1⟩)
    have put : ∀ (u : Value) (i : Nat) (tb : Tok) (tk3 : Nat), vs[i]? = some u → codeAny (model prog w) A (.builtin "min.loop" { pos := [.ref I, .builtin "len", .ref S], kw := [("default", d)] }) R { s with heap := h'.update S (Obj.mapSeq fun _ => #[u, .int (kf i) tb]), toks := tk3 } := fun u i tb tk3 g1 => by
      refine step u i tb _ _ tk3 g1 (K'.one fun b o _ n2 q => by rw [Heap.get?_update_other _ _ (Ne.symm n2)]; exact q) ?_ (get?_update_seq hS' (fun _ => #[u, .int (kf i) tb]))
      obtain ⟨o, e1, e2, e3⟩ := hI'
      exact ⟨o, by rw [Heap.get?_update_other _ _ (Ne.symm hne)]; exact e1, e2, e3⟩
    rcases ho with ⟨rfl, rfl⟩ | ⟨i, vb, tb, rfl, hi⟩
    · refine wpAny_bind (wpAny_updateSeq hS' rfl ?_ (by simp [sizeLine_eq]) (by simp [sizeLine_eq]))
      refine wpAny_pure ⟨rfl, put _ _ t _ hvj⟩
    · refine wpAny_bind (wpAny_tryCatch (wpAny_holding (wpAny_bind (wpAny_richCompare_same (T := "int") (op := .Lt) rfl rfl PySem.F.slot_int_lt (call_int_lt ⟨by simp, ?_⟩) rfl))))
      refine wpAny_bind (wpAny_holding (wpAny_truthy_bool (wpAny_bind (wpAny_letGo (wpAny_pure ?_)))))
      by_cases lt : kf j < kf i
      · rw [decide_eq_true lt, if_pos rfl]
        refine wpAny_bind (wpAny_updateSeq hS' rfl ?_ (by simp [sizeLine_eq]) (by simp [sizeLine_eq]))
        exact wpAny_bind (wpAny_letGo (wpAny_pure ⟨rfl, put _ _ t _ hvj⟩))
      · rw [decide_eq_false lt, if_neg Bool.false_ne_true]
        exact wpAny_bind (wpAny_letGo (wpAny_pure ⟨rfl, step vb i tb c h' _ hi K' hI' hS'⟩))
end
def lenAt (H : Hp) (v : Option Value) : Nat := match v with
  | some (.ref p) => (match H p with | some (.lst xs) => xs.length | _ => 0)
  | _ => 0
def tMinLen (te : TE) : TE := fun σ H Q => te σ H fun x H1 => ∃ (a : Addr) (as : List Addr), x = .ref a ∧ H1 a = some (.lst (as.map V.ref)) ∧ (∀ p ∈ as, ∃ xs, H1 p = some (.lst xs)) ∧ (as = [] → Q .non H1) ∧ ∀ p ∈ as, Q (.ref p) H1
section
variable {X : Cx} {e : Expr} {te : TE} {p p1 p2 p3 p4 pos : Pos} {j : Nat} {K : PySem.W.Frag}
set_option maxHeartbeats 2000000 in
theorem pe_min_len (hc : X.calm = true) (hg : Gl X "min") (hm : X.mg "min" = none) (hg2 : Gl X "len") (hm2 : X.mg "len" = none) (he : PE X e te)
    (hs : backTo pos (starEach [e] X.env) = (false, eval e X.env) :: backTo pos (starEach [] X.env) := by rfl) : PE X (.Call (.Name "min" p) [e] [⟨some "key", .Name "len" p1, p2⟩, ⟨some "default", .Constant .none j p3, p4⟩] pos) (tMinLen te) := by
  intro pins s σ H Q I h
  refine wpAny_Call_Name_kw (ld_blt I hg hm (u := .builtin "min") (by decide +kernel) ?_)
  refine callWith_kw ?_ hs (by rw [hs]; rfl)
  rw [hs]
  refine Calls.spliced_cons (thn (he pins s σ H _ I h) fun u s1 ⟨x, H1, I1, r1, a, as, ex, ha, hp, q0, q1⟩ => Calls.spliced_nil ?_)
  subst ex
  cases r1
  refine PyProof.Rows.evalAll_cons (wpAny_bind (ld_blt I1 hg2 hm2 (u := .builtin "len") (by decide +kernel) (wpAny_bind (wpAny_standAt (wpAny_pure ?_)))))
  refine PyProof.Rows.evalAll_cons (wpAny_bind ?_)
  refine thn ((pe_non (X := X) (j := j) (pos := p3)) pins s1 σ H1 (fun y H2 => y = .non ∧ H2 = H1) I1 ⟨rfl, rfl⟩) fun v s2 ⟨y, H2, I2, r2, e1, e2⟩ => ?_
  subst e1 e2
  obtain rfl : v = .none := r2
  refine wpAny_bind (wpAny_standAt (wpAny_pure (PyProof.Rows.evalAll_nil ?_)))
  show wpAny _ _ (call (.builtin "min") [.ref a] [(Str.ofString "key", .builtin "len"), (Str.ofString "default", .none)]) _ _ _
  obtain ⟨its, rr, ht, hz⟩ := I2.list (.of ha)
  refine kmb_tree rfl (by decide +kernel) PySem.F.entry_min rfl ?_
  refine wpAny_bind (m := Builtin.Builtins.bindParams "min" _ 0 _) (wpAny_pure (a := [some (Value.builtin "len"), some Value.none]) ?_)
  refine wpAny_bind (wpAny_pure ?_)
  refine wpAny_bind (wpAny_pyIter_list ht.isList ?_)
  refine wpAny_bind (wpAny_newList ?_)
  obtain ⟨I0, eI⟩ : ∃ I0, I0 = s2.heap.objs.size := ⟨_, rfl⟩
  obtain ⟨h1, e1⟩ : ∃ h1, h1 = s2.heap.push { cls := Value.type "list_iterator", data := Data.fields #[Value.ref a, Value.int 0 0] } := ⟨_, rfl⟩
  have g1 : h1.get? I0 = some { cls := Value.type "list_iterator", data := Data.fields #[Value.ref a, Value.int 0 0] } := by rw [e1, eI]; exact Heap.get?_push_size _ rfl
  have k1 : ∀ b u, s2.heap.get? b = some u → h1.get? b = some u := fun b u q => by rw [e1]; exact Heap.get?_push_of_some _ q
  have lIS := Heap.lt_size g1
  obtain ⟨h2, e2⟩ : ∃ h2, h2 = h1.push { cls := Value.type "list", data := Data.seq #[] } := ⟨_, rfl⟩
  have g2 : h2.get? h1.objs.size = some (seqObj "list" #[] 0) := by rw [e2]; exact Heap.get?_push_size _ rfl
  have k2 : ∀ b u, h1.get? b = some u → h2.get? b = some u := fun b u q => by rw [e2]; exact Heap.get?_push_of_some _ q
  have kp : ∀ {hb : Heap}, KeptBut I0 h1.objs.size s2.heap hb → ∀ b u, s2.heap.get? b = some u → hb.get? b = some u := fun k b u q => by
    have lb := Heap.lt_size q
    rw [← eI] at lb
    exact k b u (Nat.ne_of_lt lb) (Nat.ne_of_lt (Nat.lt_trans lb lIS)) q
  have vr : ∀ (i : Nat) (v : Value), its[i]? = some v → ∃ p ∈ as, v = .ref p := fun i v hv => by
    have il := (List.getElem?_eq_some_iff.mp hv).1
    have hl := rr.length
    rw [List.length_map] at hl
    have hp := List.getElem?_eq_getElem (l := as) (i := i) (by omega)
    obtain ⟨v', hv', rv⟩ := Vals.get rr (i := i) (x := .ref as[i]) (by rw [List.getElem?_map, hp]; rfl)
    rw [hv] at hv'
    cases hv'
    exact ⟨_, List.mem_of_getElem? hp, rv⟩
  rw [← e1, ← e2, ← eI]
  refine wpAny_pure ⟨rfl, ?_⟩
  show codeAny _ _ (.builtin "min.loop" { pos := [.ref I0, .builtin "len", .ref h1.objs.size], kw := [("default", .none)] }) _ { s2 with heap := h2, toks := s2.toks }
  refine minlen_loop (A := X.A) (l := a) (I := I0) (S := h1.objs.size) (vs := its) (kf := fun i => ((lenAt H2 its[i]? : Nat) : Int)) (h0 := s2.heap) (s := s2) (I2.ok.hd hc) (Nat.ne_of_lt lIS) (fun hb k => ?_) (fun i v hv A' s' E' Q' k qq => ?_) (fun i v hb tk hv k => ?_) (fun hv hb tk k => ?_) its.length 0 h2 _ [] 0 rfl (Nat.zero_le _) ?_ ?_ g2 (.inl ⟨rfl, rfl⟩)
  · obtain ⟨o, e1, e2⟩ := ht.isList
    exact ⟨o, kp k _ _ e1, e2⟩
  · obtain ⟨p, mp, rfl⟩ := vr i v hv
    obtain ⟨xs, hx⟩ := hp p mp
    obtain ⟨its', r', pl, hz'⟩ := I2.list (.of hx)
    have hlen := r'.length
    have pl' : s'.heap.IsList p its'.toArray := by
      obtain ⟨o, e1, e2⟩ := pl.isList
      exact ⟨o, kp k _ _ e1, e2⟩
    have hl63 := line63
    have hsz : sizeLine = 16777216 := sizeLine_eq
    have el : lenAt H2 its[i]? = its'.toArray.size := by
      rw [hv]
      show (match H2 p with | some (.lst xs) => xs.length | _ => 0) = _
      rw [hx, List.size_toArray]
      exact hlen
    refine Calls.call_len_list pl' (by simp only [List.size_toArray]; omega) ?_
    have := qq (s'.toks + 1) (s'.toks + 1 + 1)
    rw [el] at this
    exact this
  · obtain ⟨p, mp, rfl⟩ := vr i v hv
    exact ⟨.ref p, H2, I2.kept (kp k), rfl, q1 p mp⟩
  · have e : as = [] := by
      have hl := rr.length
      rw [hv, List.length_map] at hl
      exact List.length_eq_zero_iff.mp hl
    exact ⟨.non, H2, I2.kept (kp k), rfl, q0 e⟩
  · exact fun b o _ _ q => k2 b o (k1 b o q)
  · exact ⟨_, k2 _ _ g1, rfl, rfl⟩
end
def rCount (K : PySem.W.Frag) : V → List V → Hp → VK → Prop := fun x vs H Q => ∃ l ns i, x = .ref l ∧ vs = [.int i] ∧ SqL K H l (ns.map V.int) ∧ Q (.int (List.count i ns)) H
theorem count_eqU (i : Int) : ∀ {ns : List Int} {its : List Value}, Vals (ns.map V.int) its → its.countP (eqU (.int i)) = List.count i ns
  | [], its, r => by cases r; rfl
  | n :: ns, its, r => by
    cases r with
    | cons r1 r2 =>
      obtain ⟨t, rfl⟩ := r1
      rw [List.countP_cons, count_eqU i r2, List.count_cons]
      congr 1
section
variable {X : Cx}
theorem mt_count : MtR X "list.count" (rCount X.K) := by
  intro pins s σ H x vs v us Q I rx rv h
  obtain ⟨l, ns, i, rfl, rfl, hl, q⟩ := h
  cases rx
  obtain ⟨u, rfl, ru⟩ := rv.one
  obtain ⟨its, r, pl, hz⟩ := I.list hl
  obtain ⟨o, e1, e2, n, e3⟩ := pl.isList
  have e : s.heap.get? l = some { cls := .type "list", dict := o.dict, data := .seq its.toArray n, slots := o.slots } := by rw [e1, ← e2, ← e3]
  refine call_meets F.slot_list_count ⟨_, e, rfl⟩ F.entry_list_count (F.args_list_count_2 _ _) (SeqAt.list_countAt l its.toArray n o.dict o.slots u (eqU (.int i))) ⟨e, fun y hy => mem_eqAt ru rfl r (by rw [List.all_map]; exact List.all_eq_true.mpr fun x _ => rfl) y (by simpa using hy), ?_⟩
  refine ⟨.int _, H, I.tok _, ⟨_, rfl⟩, ?_⟩
  rw [count_eqU i (its := its.toArray.toList) r]
  exact q
end
end L2

set_option Elab.async false
set_option linter.all false
set_option maxRecDepth 100000
namespace Law
open PySem L2
local macro_rules | `(tactic| simp! [$ls,*]) => `(tactic| simp only [tSeq, tAsg, gName, tVar, tC, tOp, tUn, rI0, rI, rU, tCB, tCons, tNil, tRet, tRetN, tIfS, tTest, tB, tAnd, tOr, tNot, tAndV, tOrV, tNotV, tIf, tDrop, tNext, tCall, tMeth, tIsN, tNotN, L2.start, List.map_cons, List.map_nil, List.length_cons, List.length_nil, List.nil_append, List.cons_append, List.append_nil, Nat.reduceAdd, Nat.reduceSub, Nat.sub_self, List.replicate_succ, List.replicate_zero, List.set_cons_zero, List.set_cons_succ, List.getElem?_cons_zero, List.getElem?_cons_succ, Option.some.injEq, V.int.injEq, V.bl.injEq, V.str.injEq, V.ref.injEq, List.cons.injEq, exists_eq_left', exists_eq_left, exists_and_left, and_true, true_and, if_true, if_false, ite_true, ite_false, Bool.true_eq_false, Bool.false_eq_true, decide_eq_true_eq, Bool.not_true, Bool.not_false, Bool.not_eq_true', decide_eq_false_iff_not, reduceCtorEq, false_and, and_false, exists_false, tTup, tLst, sizeLine_eq, Nat.reduceLeDiff, Nat.zero_le, rEq, rNe, rIxF, rEqF, gSub, rSetL, HO.lst.injEq, HO.tup.injEq, HO.ins.injEq, HO.dK.injEq, scal_int, scal_bl, scal_str, tyF_ref, tyF_int, tyF_bl, tyF_str, tyF_non, lenF_ref, seqV_eq, kindV_eq, tyO_lst, tyO_frz, tyO_tup, tyO_dK, lenO_lst, lenO_frz, lenO_tup, seqO_lst, seqO_frz, seqO_tup, kindO_lst, kindO_frz, kindO_tup, isTys, and_assoc, atI_0, atI_1, atI_2, atI_3, atI_4, upd_same, V.ty.injEq, eq_self_iff_true, and_self, String.reduceEq, or_false, or_true, false_or, true_or, Bool.or_true, Bool.or_false, Bool.true_or, Bool.false_or, Bool.and_false, Bool.false_and, Bool.and_true, Bool.true_and, String.reduceBEq, beq_self_eq_true, tDGetF, tDInF, tDNotInF, sDPutF, keyOf_int, keyOf_str, sFld, tFld, tDNewK, tRaise, tMethE, EX, tFstr, tMake, cxOf_K, Nat.reduceLT, Option.join_some, Option.join_none, not_true_eq_false, not_false_eq_true, gCons, gNil, tChain, rEqE, tAug, ipI, $ls,*])
def top (i : Nat) : Stmt := PySem.Challenge.pw_knownholds_k65_whole_rounds_meet_rests.main.body.getD i (.Pass ⟨0, 0, 0, 0⟩)
abbrev s_nexts : Stmt := top 1
abbrev s_reached : Stmt := top 2
abbrev s_bare_rows : Stmt := top 4
abbrev s_round_through : Stmt := top 5
abbrev s_bare_round : Stmt := top 6
abbrev s_told_rests : Stmt := top 7
abbrev s_with_target : Stmt := top 8
abbrev s_rested_rows : Stmt := top 9
abbrev s_rested : Stmt := top 10
abbrev s_law_bag : Stmt := top 12
abbrev s_law_draw : Stmt := top 13
abbrev s_law_loops : Stmt := top 14
abbrev s_law_loop_row : Stmt := top 15
abbrev s_law_nexts : Stmt := top 16
abbrev s_law_walked : Stmt := top 17
abbrev s_law_goes_on : Stmt := top 18
abbrev s_law_lasting : Stmt := top 19
abbrev s_law_round_good : Stmt := top 20
abbrev s_law_left_out : Stmt := top 21
abbrev s_law : Stmt := top 22
structure Ad where
  f_nexts : Addr
  d_nexts : FuncData
  f_reached : Addr
  d_reached : FuncData
  f_bare_rows : Addr
  d_bare_rows : FuncData
  f_round_through : Addr
  d_round_through : FuncData
  f_bare_round : Addr
  d_bare_round : FuncData
  f_told_rests : Addr
  d_told_rests : FuncData
  f_with_target : Addr
  d_with_target : FuncData
  f_rested_rows : Addr
  d_rested_rows : FuncData
  f_rested : Addr
  d_rested : FuncData
  f_law_bag : Addr
  d_law_bag : FuncData
  f_law_draw : Addr
  d_law_draw : FuncData
  f_law_loops : Addr
  d_law_loops : FuncData
  f_law_loop_row : Addr
  d_law_loop_row : FuncData
  f_law_nexts : Addr
  d_law_nexts : FuncData
  f_law_walked : Addr
  d_law_walked : FuncData
  f_law_goes_on : Addr
  d_law_goes_on : FuncData
  f_law_lasting : Addr
  d_law_lasting : FuncData
  f_law_round_good : Addr
  d_law_round_good : FuncData
  f_law_left_out : Addr
  d_law_left_out : FuncData
  f_law : Addr
  d_law : FuncData
structure Txt (K : PySem.W.Frag) (mg : Str → Option Value) (a : Ad) : Prop where
  F_nexts : Fun K "nexts" "nexts" s_nexts a.f_nexts a.d_nexts
  b_nexts : Binds K a.d_nexts ["rows", "at"] []
  m_nexts : mg "nexts" = some (.ref a.f_nexts)
  F_reached : Fun K "reached" "reached" s_reached a.f_reached a.d_reached
  b_reached : Binds K a.d_reached ["rows"] []
  m_reached : mg "reached" = some (.ref a.f_reached)
  F_bare_rows : Fun K "bare_rows" "bare_rows" s_bare_rows a.f_bare_rows a.d_bare_rows
  b_bare_rows : Binds K a.d_bare_rows ["rows", "some"] []
  m_bare_rows : mg "bare_rows" = some (.ref a.f_bare_rows)
  F_round_through : Fun K "round_through" "round_through" s_round_through a.f_round_through a.d_round_through
  b_round_through : Binds K a.d_round_through ["rows", "at", "bare"] []
  m_round_through : mg "round_through" = some (.ref a.f_round_through)
  F_bare_round : Fun K "bare_round" "bare_round" s_bare_round a.f_bare_round a.d_bare_round
  b_bare_round : Binds K a.d_bare_round ["rows", "some"] []
  m_bare_round : mg "bare_round" = some (.ref a.f_bare_round)
  F_told_rests : Fun K "told_rests" "told_rests" s_told_rests a.f_told_rests a.d_told_rests
  b_told_rests : Binds K a.d_told_rests ["rows"] []
  m_told_rests : mg "told_rests" = some (.ref a.f_told_rests)
  F_with_target : Fun K "with_target" "with_target" s_with_target a.f_with_target a.d_with_target
  b_with_target : Binds K a.d_with_target ["row", "rests"] []
  m_with_target : mg "with_target" = some (.ref a.f_with_target)
  F_rested_rows : Fun K "rested_rows" "rested_rows" s_rested_rows a.f_rested_rows a.d_rested_rows
  b_rested_rows : Binds K a.d_rested_rows ["rows", "rests"] []
  m_rested_rows : mg "rested_rows" = some (.ref a.f_rested_rows)
  F_rested : Fun K "rested" "rested" s_rested a.f_rested a.d_rested
  b_rested : Binds K a.d_rested ["program", "rests"] []
  m_rested : mg "rested" = some (.ref a.f_rested)
  F_law_bag : Fun K "_law_bag" "_law_bag" s_law_bag a.f_law_bag a.d_law_bag
  b_law_bag : Binds K a.d_law_bag ["script"] []
  m_law_bag : mg "_law_bag" = some (.ref a.f_law_bag)
  F_law_draw : Fun K "_law_draw" "_law_draw" s_law_draw a.f_law_draw a.d_law_draw
  b_law_draw : Binds K a.d_law_draw ["bag", "many"] []
  m_law_draw : mg "_law_draw" = some (.ref a.f_law_draw)
  F_law_loops : Fun K "_law_loops" "_law_loops" s_law_loops a.f_law_loops a.d_law_loops
  b_law_loops : Binds K a.d_law_loops ["bag"] []
  m_law_loops : mg "_law_loops" = some (.ref a.f_law_loops)
  F_law_loop_row : Fun K "_law_loop_row" "_law_loop_row" s_law_loop_row a.f_law_loop_row a.d_law_loop_row
  b_law_loop_row : Binds K a.d_law_loop_row ["bag", "word", "k", "many", "near"] []
  m_law_loop_row : mg "_law_loop_row" = some (.ref a.f_law_loop_row)
  F_law_nexts : Fun K "_law_nexts" "_law_nexts" s_law_nexts a.f_law_nexts a.d_law_nexts
  b_law_nexts : Binds K a.d_law_nexts ["rows", "at"] []
  m_law_nexts : mg "_law_nexts" = some (.ref a.f_law_nexts)
  F_law_walked : Fun K "_law_walked" "_law_walked" s_law_walked a.f_law_walked a.d_law_walked
  b_law_walked : Binds K a.d_law_walked ["rows"] []
  m_law_walked : mg "_law_walked" = some (.ref a.f_law_walked)
  F_law_goes_on : Fun K "_law_goes_on" "_law_goes_on" s_law_goes_on a.f_law_goes_on a.d_law_goes_on
  b_law_goes_on : Binds K a.d_law_goes_on ["rows", "at", "some"] []
  m_law_goes_on : mg "_law_goes_on" = some (.ref a.f_law_goes_on)
  F_law_lasting : Fun K "_law_lasting" "_law_lasting" s_law_lasting a.f_law_lasting a.d_law_lasting
  b_law_lasting : Binds K a.d_law_lasting ["rows", "some"] []
  m_law_lasting : mg "_law_lasting" = some (.ref a.f_law_lasting)
  F_law_round_good : Fun K "_law_round_good" "_law_round_good" s_law_round_good a.f_law_round_good a.d_law_round_good
  b_law_round_good : Binds K a.d_law_round_good ["rows", "found", "some"] []
  m_law_round_good : mg "_law_round_good" = some (.ref a.f_law_round_good)
  F_law_left_out : Fun K "_law_left_out" "_law_left_out" s_law_left_out a.f_law_left_out a.d_law_left_out
  b_law_left_out : Binds K a.d_law_left_out ["rows", "some", "at"] []
  m_law_left_out : mg "_law_left_out" = some (.ref a.f_law_left_out)
  F_law : Fun K "law" "law" s_law a.f_law a.d_law
  b_law : Binds K a.d_law ["script"] []
  m_law : mg "law" = some (.ref a.f_law)
  z_abs : mg "abs" = none
  z_bool : mg "bool" = none
  z_enumerate : mg "enumerate" = none
  z_int : mg "int" = none
  z_isinstance : mg "isinstance" = none
  z_len : mg "len" = none
  z_list : mg "list" = none
  z_max : mg "max" = none
  z_min : mg "min" = none
  z_range : mg "range" = none
  z_set : mg "set" = none
  z_sorted : mg "sorted" = none
theorem sc_nexts : FnScope ["rows", "at", "row"] ["rows", "at"] (defScope s_nexts) := ⟨rfl, rfl, rfl, by decide +kernel, rfl, by decide +kernel, by decide +kernel⟩
theorem sc_reached : FnScope ["rows", "met", "todo", "at", "t"] ["rows"] (defScope s_reached) := ⟨rfl, rfl, rfl, by decide +kernel, rfl, by decide +kernel, by decide +kernel⟩
theorem sc_bare_rows : FnScope ["rows", "some"] ["rows", "some"] (defScope s_bare_rows) := ⟨rfl, rfl, rfl, by decide +kernel, rfl, by decide +kernel, by decide +kernel⟩
theorem sc_round_through : FnScope ["rows", "at", "bare", "met", "ways", "longer", "way", "after", "t"] ["rows", "at", "bare"] (defScope s_round_through) := ⟨rfl, rfl, rfl, by decide +kernel, rfl, by decide +kernel, by decide +kernel⟩
theorem sc_bare_round : FnScope ["rows", "some", "bare", "found"] ["rows", "some"] (defScope s_bare_round) := ⟨rfl, rfl, rfl, by decide +kernel, rfl, by decide +kernel, by decide +kernel⟩
theorem sc_told_rests : FnScope ["rows", "told", "at", "bare"] ["rows"] (defScope s_told_rests) := ⟨rfl, rfl, rfl, by decide +kernel, rfl, by decide +kernel, by decide +kernel⟩
theorem sc_with_target : FnScope ["row", "rests", "t"] ["row", "rests"] (defScope s_with_target) := ⟨rfl, rfl, rfl, by decide +kernel, rfl, by decide +kernel, by decide +kernel⟩
theorem sc_rested_rows : FnScope ["rows", "rests", "fresh", "at", "row"] ["rows", "rests"] (defScope s_rested_rows) := ⟨rfl, rfl, rfl, by decide +kernel, rfl, by decide +kernel, by decide +kernel⟩
theorem sc_rested : FnScope ["program", "rests", "fresh", "f", "one"] ["program", "rests"] (defScope s_rested) := ⟨rfl, rfl, rfl, by decide +kernel, rfl, by decide +kernel, by decide +kernel⟩
theorem sc_law_bag : FnScope ["script", "stir", "cell"] ["script"] (defScope s_law_bag) := ⟨rfl, rfl, rfl, by decide +kernel, rfl, by decide +kernel, by decide +kernel⟩
theorem sc_law_draw : FnScope ["bag", "many", "found"] ["bag", "many"] (defScope s_law_draw) := ⟨rfl, rfl, rfl, by decide +kernel, rfl, by decide +kernel, by decide +kernel⟩
theorem sc_law_loops : FnScope ["bag", "many", "words", "near", "rows", "last"] ["bag"] (defScope s_law_loops) := ⟨rfl, rfl, rfl, by decide +kernel, rfl, by decide +kernel, by decide +kernel⟩
theorem sc_law_loop_row : FnScope ["bag", "word", "k", "many", "near", "t", "p"] ["bag", "word", "k", "many", "near"] (defScope s_law_loop_row) := ⟨rfl, rfl, rfl, by decide +kernel, rfl, by decide +kernel, by decide +kernel⟩
theorem sc_law_nexts : FnScope ["rows", "at", "row", "due"] ["rows", "at"] (defScope s_law_nexts) := ⟨rfl, rfl, rfl, by decide +kernel, rfl, by decide +kernel, by decide +kernel⟩
theorem sc_law_walked : FnScope ["rows", "met", "todo", "at", "t"] ["rows"] (defScope s_law_walked) := ⟨rfl, rfl, rfl, by decide +kernel, rfl, by decide +kernel, by decide +kernel⟩
theorem sc_law_goes_on : FnScope ["rows", "at", "some", "t"] ["rows", "at", "some"] (defScope s_law_goes_on) := ⟨rfl, rfl, rfl, by decide +kernel, rfl, by decide +kernel, by decide +kernel⟩
theorem sc_law_lasting : FnScope ["rows", "some", "left", "many"] ["rows", "some"] (defScope s_law_lasting) := ⟨rfl, rfl, rfl, by decide +kernel, rfl, by decide +kernel, by decide +kernel⟩
theorem sc_law_round_good : FnScope ["rows", "found", "some", "walked", "at", "k"] ["rows", "found", "some"] (defScope s_law_round_good) := ⟨rfl, rfl, rfl, by decide +kernel, rfl, by decide +kernel, by decide +kernel⟩
theorem sc_law_left_out : FnScope ["rows", "some", "at", "fewer", "longer", "found"] ["rows", "some", "at"] (defScope s_law_left_out) := ⟨rfl, rfl, rfl, by decide +kernel, rfl, by decide +kernel, by decide +kernel⟩
theorem sc_law : FnScope ["script", "bag", "picks", "rows", "some", "longer", "pick"] ["script"] (defScope s_law) := ⟨rfl, rfl, rfl, by decide +kernel, rfl, by decide +kernel, by decide +kernel⟩
section
variable {P : Program} {w : World} {K : PySem.W.Frag} {mg : Str → Option Value} {base : Heap} {a : Ad}

structure BagOk (cs : List Int) (i v st n : Int) : Prop where
  i0 : 0 ≤ i
  i1 : i ≤ cs.length
  v0 : 0 ≤ v
  s0 : 0 ≤ st
  s1 : st < 2147483647
  n0 : 0 ≤ n
def bagL (c : Addr) (i v st n : Int) : List V := [.ref c, .int i, .int v, .int st, .int n]
structure BagAt (H : Hp) (b c : Addr) (cs : List Int) : Prop where
  ex : ∃ i v st n, H b = some (.lst (bagL c i v st n)) ∧ BagOk cs i v st n
  at_ : H c = some (.lst (cs.map V.int))
  ne : c ≠ b
  pos : ∀ z ∈ cs, 0 ≤ z
  len : cs.length ≤ 63
/-- all but b is as it was -/
def Kp (b : Addr) (H H' : Hp) : Prop := ∀ q o, H q = some o → q ≠ b → H' q = some o
theorem Kp.refl {b : Addr} {H : Hp} : Kp b H H := fun _ _ h _ => h
theorem Kp.trans {b : Addr} {H H1 H2 : Hp} (x : Kp b H H1) (y : Kp b H1 H2) : Kp b H H2 := fun q o h n => y q o (x q o h n) n
theorem Kp.laid {b p : Addr} {H H1 : Hp} {u : HO} (x : Kp b H H1) (hp : H1 p = none) : Kp b H (upd H1 p u) := fun q o h n => upd_old (x q o h n) hp
theorem Kp.at_ {b : Addr} {H : Hp} {u : HO} : Kp b H (upd H b u) := fun q o h n => by rw [upd_ne n]; exact h
theorem BagAt.laid {H : Hp} {b c p : Addr} {cs : List Int} {u : HO} (x : BagAt H b c cs) (hp : H p = none) : BagAt (upd H p u) b c cs := by
  obtain ⟨⟨i, v, st, n, e, k⟩, h2, ne, pos, len⟩ := x
  exact ⟨⟨i, v, st, n, upd_old e hp, k⟩, upd_old h2 hp, ne, pos, len⟩
theorem BagAt.other {H : Hp} {b c p : Addr} {cs : List Int} {u : HO} (x : BagAt H b c cs) (h1 : p ≠ b) (h2 : p ≠ c) : BagAt (upd H p u) b c cs := by
  obtain ⟨⟨i, v, st, n, e, k⟩, h3, ne, pos, len⟩ := x
  exact ⟨⟨i, v, st, n, by rw [upd_ne h1.symm]; exact e, k⟩, by rw [upd_ne h2.symm]; exact h3, ne, pos, len⟩
theorem BagAt.keep {H H' : Hp} {b c : Addr} {cs : List Int} (x : BagAt H b c cs) (hs : ∀ q o, H q = some o → H' q = some o) : BagAt H' b c cs := by
  obtain ⟨⟨i, v, st, n, e, k⟩, h3, ne, pos, len⟩ := x
  exact ⟨⟨i, v, st, n, hs _ _ e, k⟩, hs _ _ h3, ne, pos, len⟩
theorem pow3_lt {x : Int} (h0 : 0 ≤ x) : 0 ≤ x ^ 3 := Int.pow_nonneg h0
def sp_draw : Sp := fun vs H Q _ => ∃ (b c : Addr) (cs : List Int) (many : Int), vs = [.ref b, .int many] ∧ BagAt H b c cs ∧ 0 < many ∧ many ≤ 10 ^ 70 ∧ ∀ (r : Int) (H' : Hp), 0 ≤ r → r < many → BagAt H' b c cs → Kp b H H' → Q (.int r) H'
theorem ixN5_0 : ixN 5 0 = some 0 := rfl
theorem ixN5_1 : ixN 5 1 = some 1 := rfl
theorem ixN5_2 : ixN 5 2 = some 2 := rfl
theorem ixN5_3 : ixN 5 3 = some 3 := rfl
theorem ixN5_4 : ixN 5 4 = some 4 := rfl
set_option maxHeartbeats 4000000 in
theorem ok_law_draw (T : Txt K mg a) : FnOk P w K mg base CX0 1 a.f_law_draw a.d_law_draw ["bag", "many"] sp_draw := by
  refine T.F_law_draw.okC sc_law_draw (fun vs H Q E h => ?_) (fun cdv A outer s H vs Q E hr h => ?_)
  · obtain ⟨b, c, cs, m, rfl, _⟩ := h
    rfl
  · obtain ⟨b, c, cs, m, rfl, ⟨⟨i, v, st, n, hb, i0, i1, v0, s0, s1, n0⟩, hc, ne, pos, len⟩, m0, m1, q⟩ := h
    have hu := hu_of hr
    refine ⟨_, (@pss_cons _ _ _ _ _ (@ps_if _ _ _ _ _ _ _ _ (PW.pt (pw_and (pt_cmpR op_eq (pe_ix ix_F (pv 0) pe_int (fun _ _ => rfl)) pe_int (nomark _)) (pw_and1 (pt_cmpR op_lt (pe_ix ix_F (pv 0) pe_int (fun _ _ => rfl)) (pe_callB call_lenF (by rfl) T.z_len (by decide +kernel) (pa_cons (pe_ix ix_F (pv 0) pe_int (fun _ _ => rfl)) pa_nil)) (nomark _))))) (@pss_cons _ _ _ _ _ (ps_asg (pe_ix ix_F (pe_ix ix_F (pv 0) pe_int (fun _ _ => rfl)) (pe_ix ix_F (pv 0) pe_int (fun _ _ => rfl)) (fun _ _ => rfl)) (pg_sub (pv 0) pe_int set_list))
      (@pss_one _ _ _ (ps_asg (pe_op op_add (pe_ix ix_F (pv 0) pe_int (fun _ _ => rfl)) pe_int) (pg_sub (pv 0) pe_int set_list)))) (@pss_one _ _ _ (@ps_if _ _ _ _ _ _ _ _ (pt_cmpR op_eq (pe_ix ix_F (pv 0) pe_int (fun _ _ => rfl)) pe_int (nomark _)) (@pss_cons _ _ _ _ _ (ps_asg (pe_op op_add (pe_ix ix_F (pv 0) pe_int (fun _ _ => rfl)) pe_int) (pg_sub (pv 0) pe_int set_list))
      (@pss_cons _ _ _ _ _ (ps_asg (pe_op op_mod (pe_op op_add (pe_op op_add (pe_op op_add (pe_op op_pow (pe_ix ix_F (pv 0) pe_int (fun _ _ => rfl)) pe_int) (pe_op op_mul pe_int (pe_ix ix_F (pv 0) pe_int (fun _ _ => rfl)))) (pe_op op_mul pe_int (pe_ix ix_F (pv 0) pe_int (fun _ _ => rfl)))) pe_int) pe_int) (pg_sub (pv 0) pe_int set_list))
      (@pss_one _ _ _ (ps_ret (pe_op op_mod (pe_op op_fdivB (pe_ix ix_F (pv 0) pe_int (fun _ _ => rfl)) pe_int) (pv 1)))))) pss_nil)))
      (@pss_cons _ _ _ _ _ (ps_set (i := 2) sc_law_draw.nd (by rfl) (Or.inl rfl) (pe_op op_mod (pe_ix ix_F (pv 0) pe_int (fun _ _ => rfl)) (pv 1)))
      (@pss_cons _ _ _ _ _ (ps_asg (pe_op op_fdivB (pe_ix ix_F (pv 0) pe_int (fun _ _ => rfl)) (pv 1)) (pg_sub (pv 0) pe_int set_list))
      (@pss_one _ _ _ (ps_ret (pv 2)))))), ?_⟩
    simp! [hb, hc, bagL, ixN5_0, ixN5_1, ixN5_2, ixN5_3, ixN5_4, upd_upd, List.length_map]
    have fin : ∀ (r i' v' st' n' : Int), 0 ≤ r → r < m → BagOk cs i' v' st' n' → Q (.int r) (upd H b (.lst [.ref c, .int i', .int v', .int st', .int n'])) := fun r i' v' st' n' h1 h2 h3 =>
      q r _ h1 h2 ⟨⟨i', v', st', n', upd_same, h3⟩, by rw [upd_ne ne]; exact hc, ne, pos, len⟩ Kp.at_
    have e3 : (3 : Int).toNat = 3 := rfl
    rw [e3]
    have p3 := pow3_lt s0
    have B1 : CPow st 3 ∧ CMul 69621 st ∧ CMul 1009 (n + 1) ∧ (0 : Int) < 2147483647 ∧ CDivB ((st ^ 3 + 69621 * st + 1009 * (n + 1) + 1) % 2147483647) 16 ∧ 0 < m ∧ Q (V.int ((st ^ 3 + 69621 * st + 1009 * (n + 1) + 1) % 2147483647 / 16 % m)) (upd H b (HO.lst [V.ref c, V.int i, V.int v, V.int ((st ^ 3 + 69621 * st + 1009 * (n + 1) + 1) % 2147483647), V.int (n + 1)])) := by
      refine ⟨⟨by decide, by decide, by omega⟩, .inl ⟨by decide, by decide⟩, .inl ⟨by decide, by decide⟩, by decide, ⟨by decide, by decide⟩, m0, ?_⟩
      generalize (st ^ 3 + 69621 * st + 1009 * (n + 1) + 1) = y
      exact fin _ _ _ _ _ (Int.emod_nonneg _ (by omega)) (Int.emod_lt_of_pos _ m0) ⟨i0, i1, v0, by omega, by omega, by omega⟩
    have B2 : 0 < m ∧ CDivB v m ∧ Q (V.int (v % m)) (upd H b (HO.lst [V.ref c, V.int i, V.int (v / m), V.int st, V.int n])) :=
      ⟨m0, ⟨m0, m1⟩, fin _ _ _ _ _ (Int.emod_nonneg _ (by omega)) (Int.emod_lt_of_pos _ m0) ⟨i0, i1, Int.ediv_nonneg v0 (by omega), s0, s1, n0⟩⟩
    have B3 : i < cs.length → ∃ x, atI (cs.map V.int) i = some x ∧ ∃ i_1, x = V.int i_1 ∧ 0 < m ∧ ∃ i_2, x = V.int i_2 ∧ CDivB i_2 m ∧ Q (V.int (i_1 % m)) (upd H b (HO.lst [V.ref c, V.int (i + 1), V.int (i_2 / m), V.int st, V.int n])) := fun hi => by
      have hj : i.toNat < cs.length := by omega
      have e1 : (cs.map V.int)[i.toNat]? = some (V.int cs[i.toNat]) := by rw [List.getElem?_map, List.getElem?_eq_getElem hj]; rfl
      have e2 := atI_nat e1
      rw [show ((i.toNat : Nat) : Int) = i by omega] at e2
      have p := pos _ (List.getElem_mem hj)
      refine ⟨_, e2, _, rfl, m0, _, rfl, ⟨m0, m1⟩, ?_⟩
      exact fin _ _ _ _ _ (Int.emod_nonneg _ (by omega)) (Int.emod_lt_of_pos _ m0) ⟨by omega, by omega, Int.ediv_nonneg p (by omega), s0, s1, n0⟩
    refine ite2 (fun h1 => ite2 B3 fun h2 => ite2 (fun _ => B1) fun _ => B2) fun h1 => ite2 (fun _ => B1) fun _ => B2

theorem cut63 (ns : List Int) : ∃ zs : List Int, cutV (ns.map V.int) none (some 63) = zs.map V.int ∧ zs.length ≤ 63 ∧ zs.length ≤ ns.length := by
  refine ⟨(ns.drop (HT.sIx (ns.map V.int).length 0 none)).take (HT.sIx (ns.map V.int).length (ns.map V.int).length (some 63) - HT.sIx (ns.map V.int).length 0 none), ?_, ?_, ?_⟩
  · unfold cutV
    rw [List.map_take, List.map_drop]
  · rw [List.length_take, List.length_drop, List.length_map]
    have : HT.sIx ns.length ns.length (some 63) ≤ 63 := by unfold HT.sIx; simp; omega
    omega
  · rw [List.length_take, List.length_drop]; omega
def sp_bag (K : PySem.W.Frag) : Sp := fun vs H Q _ => ∃ (r : Addr) (ns : List Int), vs = [.ref r] ∧ SqL K H r (ns.map V.int) ∧ ∀ (b c : Addr) (cs : List Int) (H' : Hp), H b = none → H c = none → BagAt H' b c cs → Same H H' → Q (.ref b) H'
set_option maxHeartbeats 4000000 in
theorem ok_law_bag (T : Txt K mg a) : FnOk P w K mg base CX0 1 a.f_law_bag a.d_law_bag ["script"] (sp_bag K) := by
  refine T.F_law_bag.okC sc_law_bag (fun vs H Q E h => ?_) (fun cdv A outer s H vs Q E hr h => ?_)
  · obtain ⟨r, ns, rfl, _⟩ := h
    rfl
  · obtain ⟨r, ns, rfl, hS, q⟩ := h
    have hu := hu_of hr
    obtain ⟨zs, ez, lz, _⟩ := cut63 ns
    refine ⟨_, (@pss_cons _ _ _ _ _ (ps_set (i := 1) sc_law_bag.nd (by rfl) (Or.inl rfl) pe_int)
      (@pss_cons _ _ _ _ _ (ps_for PassesOwn.never (by rfl) (pi_list (pe_slice sl_list (pv 0) po_none (po_some pe_int))) (pg_name (i := 2) sc_law_bag.nd (by rfl) (Or.inl rfl))
      (@pss_one _ _ _ (ps_set (i := 1) sc_law_bag.nd (by rfl) (Or.inl rfl) (pe_op op_mod (pe_op op_add (pe_op op_add (pe_op op_mul (pv 1) pe_int) (pe_op op_mod (pv 2) pe_int)) pe_int) pe_int))))
      (@pss_one _ _ _ (ps_ret (pe_lst (pa_cons (pe_comp (N' := ["cell"]) (cap := [none]) ⟨rfl, (by decide +kernel), (by decide +kernel), (by rfl), rfl, (by rfl)⟩ (by rfl) (pi_list (pe_slice sl_list (pv 0) po_none (po_some pe_int))) (fun C_ ex_ s_ H_ => (pg_name (i := 0) (show (["cell"] : List Str).Nodup by decide +kernel) (by rfl) (Or.inl rfl))) gkp_name (fun C_ ex_ s_ H_ => pifs_nil) (fun C_ ex_ s_ H_ => (pe_op op_mod (pe_callB call_abs (by rfl) T.z_abs (by decide +kernel) (@pa_cname _ _ _ _ _ _ (pv 0) pa_nil)) (pe_op op_pow pe_int pe_int)))) (@pa_cint _ _ _ _ _ _ (@pa_cint _ _ _ _ _ _ (@pa_cname _ _ _ _ _ _ (pv 1) (@pa_cint _ _ _ _ _ _ pa_nil)))))))))), ?_⟩
    refine ⟨_, rfl, 63, rfl, r, _, rfl, hS, fun l1 hl1 => ?_⟩
    rw [ez]
    refine ⟨l1, rfl, ⟨_, .of upd_same⟩, for_list (xs := zs.map V.int) (fun i σ H2 => ∃ (st : Int) (v2 : Option V), σ = [some (.ref r), some (.int st), v2] ∧ H2 = upd H l1 (.lst (zs.map V.int)) ∧ 0 ≤ st ∧ st < 2147483647)
      ⟨7, _, rfl, rfl, by decide, by decide⟩ (fun i σ H2 _ ⟨_, _, _, e, _⟩ => by rw [e]; exact .of upd_same) ?_ ?_⟩
    · rintro i x σ H2 hi ⟨st, v2, rfl, rfl, s0, s1⟩
      obtain ⟨z, _, rfl⟩ := of_map_get hi
      simp! []
      exact ⟨.inr ⟨by decide, by decide⟩, by decide, by decide, Int.emod_nonneg _ (by decide), Int.emod_lt_of_pos _ (by decide)⟩
    · rintro σ H2 ⟨st, v2, rfl, rfl, s0, s1⟩
      have hS1 : SqL K (upd H l1 (.lst (zs.map V.int))) r (ns.map V.int) := (Same.laid hl1).seq hS
      refine ⟨_, rfl, 63, rfl, r, _, rfl, hS1, fun l2 hl2 => ?_⟩
      rw [ez]
      refine ⟨l2, rfl, ⟨_, .of upd_same⟩, fun D hD => ?_⟩
      refine comp_list (xs := zs.map V.int) (fun i ys H2 => ∃ ws : List Int, ys = ws.map V.int ∧ ws.length = i ∧ (∀ z ∈ ws, 0 ≤ z) ∧ H2 = upd (upd (upd H l1 (.lst (zs.map V.int))) l2 (.lst (zs.map V.int))) D (.lst ys))
        ⟨[], rfl, rfl, by simp, rfl⟩ (fun i ys H2 _ ⟨ws, e1, e2, _, e3⟩ => ?_) (by rw [sizeLine_eq]; simp; omega) ?_ ?_
      · rw [e3]
        exact ⟨.of (upd_old upd_same hD), upd_same, by rw [e1]; simp; omega⟩
      · rintro i x ys H2 hi ⟨ws, rfl, e2, e3, rfl⟩
        obtain ⟨z, _, rfl⟩ := of_map_get hi
        simp! [tTrue, capSt]
        refine ⟨⟨by decide, by decide, by decide⟩, by decide, ws ++ [(if z < 0 then -z else z) % 10 ^ Int.toNat 60], by simp, by simp; omega, ?_, upd_upd⟩
        intro y hy
        rcases List.mem_append.mp hy with hy | hy
        · exact e3 y hy
        · rw [List.mem_singleton.mp hy]
          exact Int.emod_nonneg _ (by decide)
      · rintro ys H2 ⟨ws, rfl, e2, e3, rfl⟩
        simp! []
        intro b hb
        have n1 : H b = none := Same.free (((Same.laid hl1).step hl2).step hD) hb
        have n2 : H D = none := Same.free ((Same.laid hl1).step hl2) hD
        rw [List.length_map] at e2
        exact q b D ws _ n1 n2 ⟨⟨0, 0, st, 0, upd_same, by decide, by omega, by decide, s0, s1, by decide⟩, upd_old upd_same hb, ne_of_none upd_same hb, e3, by omega⟩ ((((Same.laid hl1).step hl2).step hD).step hb)

end
end Law

namespace Law
open PySem L2
local macro_rules | `(tactic| simp! [$ls,*]) => `(tactic| simp only [tSeq, tAsg, gName, tVar, tC, tOp, tUn, rI0, rI, rU, tCB, tCons, tNil, tRet, tRetN, tIfS, tTest, tB, tAnd, tOr, tNot, tAndV, tOrV, tNotV, tIf, tDrop, tNext, tCall, tMeth, tIsN, tNotN, L2.start, List.map_cons, List.map_nil, List.length_cons, List.length_nil, List.nil_append, List.cons_append, List.append_nil, Nat.reduceAdd, Nat.reduceSub, Nat.sub_self, List.replicate_succ, List.replicate_zero, List.set_cons_zero, List.set_cons_succ, List.getElem?_cons_zero, List.getElem?_cons_succ, Option.some.injEq, V.int.injEq, V.bl.injEq, V.str.injEq, V.ref.injEq, List.cons.injEq, exists_eq_left', exists_eq_left, exists_and_left, and_true, true_and, if_true, if_false, ite_true, ite_false, Bool.true_eq_false, Bool.false_eq_true, decide_eq_true_eq, Bool.not_true, Bool.not_false, Bool.not_eq_true', decide_eq_false_iff_not, reduceCtorEq, false_and, and_false, exists_false, tTup, tLst, sizeLine_eq, Nat.reduceLeDiff, Nat.zero_le, rEq, rNe, rIxF, rEqF, gSub, rSetL, HO.lst.injEq, HO.tup.injEq, HO.ins.injEq, HO.dK.injEq, scal_int, scal_bl, scal_str, tyF_ref, tyF_int, tyF_bl, tyF_str, tyF_non, lenF_ref, seqV_eq, kindV_eq, tyO_lst, tyO_frz, tyO_tup, tyO_dK, lenO_lst, lenO_frz, lenO_tup, seqO_lst, seqO_frz, seqO_tup, kindO_lst, kindO_frz, kindO_tup, isTys, and_assoc, atI_0, atI_1, atI_2, atI_3, atI_4, upd_same, V.ty.injEq, eq_self_iff_true, and_self, String.reduceEq, or_false, or_true, false_or, true_or, Bool.or_true, Bool.or_false, Bool.true_or, Bool.false_or, Bool.and_false, Bool.false_and, Bool.and_true, Bool.true_and, String.reduceBEq, beq_self_eq_true, tDGetF, tDInF, tDNotInF, sDPutF, keyOf_int, keyOf_str, sFld, tFld, tDNewK, tRaise, tMethE, EX, tFstr, tMake, cxOf_K, Nat.reduceLT, Option.join_some, Option.join_none, not_true_eq_false, not_false_eq_true, gCons, gNil, tChain, rEqE, tAug, ipI, $ls,*])
section
variable {P : Program} {w : World} {K : PySem.W.Frag} {mg : Str → Option Value} {base : Heap} {a : Ad}

def LW : List (Str × Str) := [("put", "pi"), ("nil", "p"), ("copy", "pp"), ("plus", "ppp"), ("less", "ppp"), ("make", "pkk"), ("fetch", "ppk"), ("read", "ppk"), ("hang", "pkp"), ("write", "pkp"), ("into", "ppk"), ("look", "ppp"), ("lay", "ppp"), ("jump", "t"), ("zero", "pt"), ("none", "pt"), ("same", "ppt"), ("call", "pfq"), ("back", "p"), ("tell", "p"), ("rest", "")]
def LET : List (Key × V) := LW.map fun p => (.inr p.1, .str p.2)
abbrev Part := Int ⊕ List Int
abbrev Row := Str × List Part
abbrev Sg := Str × Str
def PartAt (H : Hp) (v : V) : Part → Prop
  | .inl x => v = .int x
  | .inr l => ∃ q, v = .ref q ∧ H q = some (.tup (l.map V.int))
structure PartsAt (H : Hp) (vs : List V) (ps : List Part) : Prop where
  len : vs.length = ps.length
  at_ : ∀ (i : Nat) (v : V) (p : Part), vs[i]? = some v → ps[i]? = some p → PartAt H v p
def RowAt (H : Hp) (p : Addr) (r : Row) : Prop := ∃ vs, H p = some (.tup (.str r.1 :: vs)) ∧ PartsAt H vs r.2
/-- the lists of signs: takes and gives -/
structure SgAt (H : Hp) (sl : Addr) (as : List Addr) (sg : List Sg) : Prop where
  top : H sl = some (.lst (as.map V.ref))
  len : as.length = sg.length
  row : ∀ (i : Nat) (p : Addr) (x : Sg), as[i]? = some p → sg[i]? = some x → H p = some (.tup [.str x.1, .str x.2])
def PartFit (words many : Int) (sg : List Sg) (ps : List Part) (c : Nat) (p : Part) : Prop :=
  (c = 112 ∧ ∃ x, p = .inl x ∧ 0 ≤ x ∧ x < 8 + words) ∨ (c = 107 ∧ ∃ x, p = .inl x ∧ 0 ≤ x ∧ x < 10) ∨ (c = 116 ∧ ∃ x, p = .inl x ∧ 0 ≤ x ∧ x < many) ∨ (c = 102 ∧ ∃ x, p = .inl x ∧ 0 ≤ x ∧ x < sg.length) ∨
  (c = 105 ∧ ∃ x, p = .inl x ∧ -(10 ^ 60) < x ∧ x < 10 ^ 60) ∨ (c = 113 ∧ ∃ (f : Nat) (l : List Int) (z : Sg), ps[1]? = some (.inl (f : Int)) ∧ sg[f]? = some z ∧ p = .inr l ∧ l.length = z.1.cps.size ∧ ∀ x ∈ l, 0 ≤ x ∧ x < 8 + words)
structure PartsFit (words many : Int) (sg : List Sg) (ls : Str) (ps : List Part) : Prop where
  at_ : ∀ (i c : Nat) (p : Part), ls.cps[i]? = some c → ps[i]? = some p → PartFit words many sg ps c p
def RowFit (words many : Int) (sg : List Sg) (r : Row) : Prop := ∃ ls, (r.1, ls) ∈ LW ∧ r.2.length = ls.cps.size ∧ PartsFit words many sg ls r.2
theorem LW_ok : ∀ p ∈ LW, p.2.cps.size ≤ 3 ∧ p.2.cps.all (· < 128) = true ∧ valV LET (.inr p.1) = some (.str p.2) := by
  intro p hp
  simp only [LW, List.mem_cons, List.not_mem_nil, or_false] at hp
  rcases hp with rfl | rfl | rfl | rfl | rfl | rfl | rfl | rfl | rfl | rfl | rfl | rfl | rfl | rfl | rfl | rfl | rfl | rfl | rfl | rfl | rfl
  all_goals exact ⟨by decide +kernel, by decide +kernel, by rfl⟩
theorem BagAt.has {H : Hp} {b c : Addr} {cs : List Int} (x : BagAt H b c cs) : ∃ o, H b = some o := by obtain ⟨⟨i, v, s, n, e, _⟩, _⟩ := x; exact ⟨_, e⟩
theorem BagAt.tup {H H' : Hp} {b c q : Addr} {cs : List Int} {xs : List V} (x : BagAt H b c cs) (k : Kp b H H') (h : H q = some (.tup xs)) : H' q = some (.tup xs) := by
  refine k q _ h (fun e => ?_)
  obtain ⟨⟨i, v, st, n, hb, _⟩, _⟩ := x
  rw [e, hb] at h
  cases h
theorem PartAt.kp {H H' : Hp} {b c : Addr} {cs : List Int} {v : V} {p : Part} (x : BagAt H b c cs) (k : Kp b H H') (h : PartAt H v p) : PartAt H' v p := by
  cases p with
  | inl y => exact h
  | inr l => obtain ⟨q, e, h⟩ := h; exact ⟨q, e, x.tup k h⟩
theorem PartsAt.kp {H H' : Hp} {b c : Addr} {cs : List Int} {vs : List V} {ps : List Part} (x : BagAt H b c cs) (k : Kp b H H') (h : PartsAt H vs ps) : PartsAt H' vs ps := ⟨h.len, fun i v p h1 h2 => (h.at_ i v p h1 h2).kp x k⟩
theorem RowAt.kp {H H' : Hp} {b c q : Addr} {cs : List Int} {r : Row} (x : BagAt H b c cs) (k : Kp b H H') (h : RowAt H q r) : RowAt H' q r := by
  obtain ⟨vs, e, h⟩ := h
  exact ⟨vs, x.tup k e, h.kp x k⟩
theorem SgAt.kp {H H' : Hp} {b c sl : Addr} {cs : List Int} {as : List Addr} {sg : List Sg} (x : BagAt H b c cs) (k : Kp b H H') (n : sl ≠ b) (h : SgAt H sl as sg) : SgAt H' sl as sg := ⟨k _ _ h.top n, h.len, fun i p y h1 h2 => x.tup k (h.row i p y h1 h2)⟩
theorem SgAt.at_ {H : Hp} {sl : Addr} {as : List Addr} {sg : List Sg} (x : SgAt H sl as sg) {f : Nat} {z : Sg} (h : sg[f]? = some z) : ∃ p, as[f]? = some p ∧ H p = some (.tup [.str z.1, .str z.2]) := by
  have hf := (List.getElem?_eq_some_iff.mp h).1
  have hf' : f < as.length := by rw [x.len]; exact hf
  exact ⟨as[f], List.getElem?_eq_getElem hf', x.row f _ z (List.getElem?_eq_getElem hf') h⟩
theorem PartFit.app {words many : Int} {sg : List Sg} {ps : List Part} {c : Nat} {p y : Part} (h : PartFit words many sg ps c p) : PartFit words many sg (ps ++ [y]) c p := by
  rcases h with h | h | h | h | h | ⟨e, f, l, z, h1, h2⟩
  · exact .inl h
  · exact .inr (.inl h)
  · exact .inr (.inr (.inl h))
  · exact .inr (.inr (.inr (.inl h)))
  · exact .inr (.inr (.inr (.inr (.inl h))))
  · refine .inr (.inr (.inr (.inr (.inr ⟨e, f, l, z, ?_, h2⟩))))
    rw [List.getElem?_append_left (List.getElem?_eq_some_iff.mp h1).1]
    exact h1
theorem PartsFit.snoc {words many : Int} {sg : List Sg} {ls : Str} {ps : List Part} {c : Nat} {p : Part} (h : PartsFit words many sg ls ps) (hc : ls.cps[ps.length]? = some c) (hp : PartFit words many sg (ps ++ [p]) c p) : PartsFit words many sg ls (ps ++ [p]) := ⟨fun i c' p' h1 h2 => by
  by_cases d : i < ps.length
  · rw [List.getElem?_append_left d] at h2
    exact (h.at_ i c' p' h1 h2).app
  · have e : i = ps.length := by
      have := (List.getElem?_eq_some_iff.mp h2).1
      rw [List.length_append, List.length_singleton] at this
      omega
    rw [e] at h1 h2
    rw [hc] at h1
    cases h1
    rw [List.getElem?_append_right (Nat.le_refl _), Nat.sub_self] at h2
    cases h2
    exact hp⟩
theorem PartsAt.snoc {H : Hp} {vs : List V} {ps : List Part} {v : V} {p : Part} (h : PartsAt H vs ps) (hp : PartAt H v p) : PartsAt H (vs ++ [v]) (ps ++ [p]) := ⟨by rw [List.length_append, List.length_append, h.len]; rfl, fun i v' p' h1 h2 => by
  by_cases d : i < ps.length
  · rw [List.getElem?_append_left d] at h2
    rw [List.getElem?_append_left (by rw [h.len]; exact d)] at h1
    exact h.at_ i v' p' h1 h2
  · have e : i = ps.length := by
      have := (List.getElem?_eq_some_iff.mp h2).1
      rw [List.length_append, List.length_singleton] at this
      omega
    rw [e] at h1 h2
    rw [List.getElem?_append_right (Nat.le_refl _), Nat.sub_self] at h2
    rw [← h.len, List.getElem?_append_right (Nat.le_refl _), Nat.sub_self] at h1
    cases h1
    cases h2
    exact hp⟩
structure RowsOf (H : Hp) (rl : Addr) (rs : List Addr) (rws : List Row) : Prop where
  top : H rl = some (.lst (rs.map V.ref))
  len : rs.length = rws.length
  row : ∀ (i : Nat) (p : Addr) (r : Row), rs[i]? = some p → rws[i]? = some r → RowAt H p r
theorem RowsOf.kp {H H' : Hp} {b c rl : Addr} {cs : List Int} {rs : List Addr} {rws : List Row} (x : BagAt H b c cs) (k : Kp b H H') (n : rl ≠ b) (h : RowsOf H rl rs rws) : RowsOf H' rl rs rws := ⟨k _ _ h.top n, h.len, fun i p y h1 h2 => (h.row i p y h1 h2).kp x k⟩
theorem RowAt.fr {H H' : Hp} {M : Addr → Prop} {q : Addr} {r : Row} (f : Fr M H H') (h : RowAt H q r) : RowAt H' q r := by
  obtain ⟨vs, e, hl, h⟩ := h
  refine ⟨vs, f.tups _ _ e, hl, fun i v p h1 h2 => ?_⟩
  have := h i v p h1 h2
  cases p with
  | inl y => exact this
  | inr l => obtain ⟨t, e, h⟩ := this; exact ⟨t, e, f.tups _ _ h⟩
theorem RowsOf.snoc {H H' : Hp} {M : Addr → Prop} {rl p : Addr} {rs : List Addr} {rws : List Row} {r : Row} (f : Fr M H H') (h : ∀ (i : Nat) (p : Addr) (r : Row), rs[i]? = some p → rws[i]? = some r → RowAt H p r) (len : rs.length = rws.length) (top : H' rl = some (.lst (rs.map V.ref ++ [.ref p]))) (hr : RowAt H' p r) : RowsOf H' rl (rs ++ [p]) (rws ++ [r]) := ⟨by rw [top, List.map_append]; rfl, by rw [List.length_append, List.length_append, len]; rfl, fun i q y h1 h2 => by
  by_cases d : i < rws.length
  · rw [List.getElem?_append_left d] at h2
    rw [List.getElem?_append_left (by rw [len]; exact d)] at h1
    exact (h i q y h1 h2).fr f
  · have e : i = rws.length := by
      have := (List.getElem?_eq_some_iff.mp h2).1
      rw [List.length_append, List.length_singleton] at this
      omega
    rw [e] at h1 h2
    rw [List.getElem?_append_right (Nat.le_refl _), Nat.sub_self] at h2
    rw [← len, List.getElem?_append_right (Nat.le_refl _), Nat.sub_self] at h1
    cases h1
    cases h2
    exact hr⟩
def LastOk (rws : List Row) : Prop := ∃ r, rws.getLast? = some r ∧ (r.1 = "back" ∨ r.1 = "jump")
abbrev Df := Sg × Int × List Row
structure ProgAt (H : Hp) (pl : Addr) (das : List (Addr × Addr × List Addr)) (ds : List Df) : Prop where
  top : H pl = some (.lst (das.map fun a => V.ref a.1))
  len : das.length = ds.length
  def_ : ∀ (i : Nat) (a : Addr × Addr × List Addr) (d : Df), das[i]? = some a → ds[i]? = some d → H a.1 = some (.tup [.str d.1.1, .str d.1.2, .int d.2.1, .ref a.2.1]) ∧ RowsOf H a.2.1 a.2.2 d.2.2
theorem RowsOf.fr {H H' : Hp} {M : Addr → Prop} {rl : Addr} {rs : List Addr} {rws : List Row} (f : Fr M H H') (h : RowsOf H rl rs rws) (n : ¬ M rl) : RowsOf H' rl rs rws := ⟨f.keep _ _ h.top n, h.len, fun i p r h1 h2 => (h.row i p r h1 h2).fr f⟩
theorem none_of_kp {b q : Addr} {H H' : Hp} (k : Kp b H H') (n : q ≠ b) (h : H' q = none) : H q = none := by
  cases e : H q with
  | none => rfl
  | some o => rw [k _ _ e n] at h; cases h
end
end Law

namespace Law
open PySem L2
local macro_rules | `(tactic| simp! [$ls,*]) => `(tactic| simp only [tSeq, tAsg, gName, tVar, tC, tOp, tUn, rI0, rI, rU, tCB, tCons, tNil, tRet, tRetN, tIfS, tTest, tB, tAnd, tOr, tNot, tAndV, tOrV, tNotV, tIf, tDrop, tNext, tCall, tMeth, tIsN, tNotN, L2.start, List.map_cons, List.map_nil, List.length_cons, List.length_nil, List.nil_append, List.cons_append, List.append_nil, Nat.reduceAdd, Nat.reduceSub, Nat.sub_self, List.replicate_succ, List.replicate_zero, List.set_cons_zero, List.set_cons_succ, List.getElem?_cons_zero, List.getElem?_cons_succ, Option.some.injEq, V.int.injEq, V.bl.injEq, V.str.injEq, V.ref.injEq, List.cons.injEq, exists_eq_left', exists_eq_left, exists_and_left, and_true, true_and, if_true, if_false, ite_true, ite_false, Bool.true_eq_false, Bool.false_eq_true, decide_eq_true_eq, Bool.not_true, Bool.not_false, Bool.not_eq_true', decide_eq_false_iff_not, reduceCtorEq, false_and, and_false, exists_false, tTup, tLst, sizeLine_eq, Nat.reduceLeDiff, Nat.zero_le, rEq, rNe, rIxF, rEqF, gSub, rSetL, HO.lst.injEq, HO.tup.injEq, HO.ins.injEq, HO.dK.injEq, scal_int, scal_bl, scal_str, tyF_ref, tyF_int, tyF_bl, tyF_str, tyF_non, lenF_ref, seqV_eq, kindV_eq, tyO_lst, tyO_frz, tyO_tup, tyO_dK, lenO_lst, lenO_frz, lenO_tup, seqO_lst, seqO_frz, seqO_tup, kindO_lst, kindO_frz, kindO_tup, isTys, and_assoc, atI_0, atI_1, atI_2, atI_3, atI_4, upd_same, V.ty.injEq, eq_self_iff_true, and_self, String.reduceEq, or_false, or_true, false_or, true_or, Bool.or_true, Bool.or_false, Bool.true_or, Bool.false_or, Bool.and_false, Bool.false_and, Bool.and_true, Bool.true_and, String.reduceBEq, beq_self_eq_true, tDGetF, tDInF, tDNotInF, sDPutF, keyOf_int, keyOf_str, sFld, tFld, tDNewK, tRaise, tMethE, EX, tFstr, tMake, cxOf_K, Nat.reduceLT, Option.join_some, Option.join_none, not_true_eq_false, not_false_eq_true, gCons, gNil, tChain, rEqE, tAug, ipI, $ls,*])
section
variable {P : Program} {w : World} {K : PySem.W.Frag} {mg : Str → Option Value} {base : Heap} {a : Ad}

def lastI (r : Row) : Int := match r.2.getLast? with
  | some (.inl x) => x
  | _ => 0
def twoI (a b : Int) : List Int := if a = b then [a] else if a < b then [a, b] else [b, a]
def Br (s : Str) : Prop := s = "zero" ∨ s = "none" ∨ s = "same"
instance {s : Str} : Decidable (Br s) := by unfold Br; exact inferInstance
def nxt (r : Row) (k : Int) : List Int := if r.1 = "back" then [] else if r.1 = "jump" then [lastI r] else if Br r.1 then twoI (k + 1) (lastI r) else [k + 1]
theorem LW_t : ∀ p ∈ LW, (p.1 = "jump" → p.2 = ("t" : Str)) ∧ (p.1 = "zero" → p.2 = ("pt" : Str)) ∧ (p.1 = "none" → p.2 = ("pt" : Str)) ∧ (p.1 = "same" → p.2 = ("ppt" : Str)) := by decide +kernel
theorem part_t {words many : Int} {sg : List Sg} {ps : List Part} {p : Part} (h : PartFit words many sg ps 116 p) : ∃ x, p = .inl x ∧ 0 ≤ x ∧ x < many := by
  rcases h with ⟨e, _⟩ | ⟨e, _⟩ | ⟨_, h⟩ | ⟨e, _⟩ | ⟨e, _⟩ | ⟨e, _⟩
  · exact absurd e (by decide)
  · exact absurd e (by decide)
  · exact h
  · exact absurd e (by decide)
  · exact absurd e (by decide)
  · exact absurd e (by decide)
theorem row_to {words many : Int} {sg : List Sg} {r : Row} (F : RowFit words many sg r) (e : r.1 = "jump" ∨ Br r.1) : ∃ pre x, r.2 = pre ++ [.inl x] ∧ 0 ≤ x ∧ x < many ∧ (r.1 = "jump" → pre = []) ∧ lastI r = x := by
  obtain ⟨ls, m, l, pf⟩ := F
  have key : ∃ n, r.2.length = n + 1 ∧ ls.cps[n]? = some 116 ∧ (r.1 = "jump" → n = 0) := by
    obtain ⟨t1, t2, t3, t4⟩ := LW_t _ m
    rcases e with e | e | e | e
    · have := t1 e; dsimp only at this; subst this; exact ⟨0, l, rfl, fun _ => rfl⟩
    · have := t2 e; dsimp only at this; subst this; exact ⟨1, l, rfl, fun z => by rw [e] at z; exact absurd z (by decide)⟩
    · have := t3 e; dsimp only at this; subst this; exact ⟨1, l, rfl, fun z => by rw [e] at z; exact absurd z (by decide)⟩
    · have := t4 e; dsimp only at this; subst this; exact ⟨2, l, rfl, fun z => by rw [e] at z; exact absurd z (by decide)⟩
  obtain ⟨n, hn, hc, h0⟩ := key
  have hl : n < r.2.length := by omega
  obtain ⟨x, ex, x0, x1⟩ := part_t (pf.at_ n 116 _ hc (List.getElem?_eq_getElem hl))
  have es : r.2 = r.2.take n ++ [.inl x] := by
    rw [← ex, ← List.take_succ_eq_append_getElem hl, List.take_of_length_le (by omega)]
  refine ⟨r.2.take n, x, es, x0, x1, fun z => by rw [h0 z]; rfl, ?_⟩
  unfold lastI
  rw [es, List.getLast?_concat]
theorem parts_last {H : Hp} {vs : List V} {pre : List Part} {x : Int} (h : PartsAt H vs (pre ++ [.inl x])) : ∃ us, vs = us ++ [.int x] ∧ us.length = pre.length := by
  have l := h.len
  rw [List.length_append, List.length_singleton] at l
  have hl : pre.length < vs.length := by omega
  have e := h.at_ pre.length _ (.inl x) (List.getElem?_eq_getElem hl) (by rw [List.getElem?_append_right (Nat.le_refl _), Nat.sub_self]; rfl)
  have e' : vs[pre.length] = .int x := e
  refine ⟨vs.take pre.length, ?_, by rw [List.length_take]; omega⟩
  rw [← e', ← List.take_succ_eq_append_getElem hl, List.take_of_length_le (by omega)]
def sp_nexts : Sp := fun vs H Q _ => ∃ (rl : Addr) (k : Nat) (rs : List Addr) (rws : List Row) (r : Row) (words many : Int) (sg : List Sg), vs = [.ref rl, .int k] ∧ RowsOf H rl rs rws ∧ rws[k]? = some r ∧ RowFit words many sg r ∧ many ≤ 40 ∧ k < 40 ∧
  ∀ (l : Addr) (H' : Hp), H l = none → Same H H' → H' l = some (.lst ((nxt r k).map V.int)) → Q (.ref l) H'
theorem two_sorted {a b : Int} {ns : List Int} (h : ns.Perm (setNs a b)) (s : ns.Pairwise (· ≤ ·)) : ns = twoI a b := by
  have r : (twoI a b).Perm (setNs a b) ∧ (twoI a b).Pairwise (· < ·) := by
    unfold twoI setNs
    by_cases c : a = b
    · rw [if_pos c, if_pos c]; exact ⟨.refl _, by simp⟩
    · rw [if_neg c, if_neg c]
      by_cases d : a < b
      · rw [if_pos d]; exact ⟨.refl _, by simp [d]⟩
      · rw [if_neg d]; exact ⟨.swap .., by simp; omega⟩
  exact perm_rising (h.trans r.1.symm) s r.2
theorem inV_strs {s : Str} : ∀ {l : List Str}, inV (.str s) (l.map V.str) = decide (s ∈ l)
  | [] => by simp [inV]
  | x :: l => by
    have ih := inV_strs (s := s) (l := l)
    unfold inV at ih ⊢
    rw [List.map_cons, List.any_cons, ih]
    show ((x == s) || decide (s ∈ l)) = _
    rw [Bool.eq_iff_iff, Bool.or_eq_true, beq_iff_eq, decide_eq_true_eq, decide_eq_true_eq, List.mem_cons]
    exact ⟨fun h => h.imp Eq.symm id, fun h => h.imp Eq.symm id⟩
theorem inV_br {s : Str} : inV (.str s) [.str "zero", .str "none", .str "same"] = decide (Br s) := by
  have := inV_strs (s := s) (l := ["zero", "none", "same"])
  rw [show [V.str "zero", V.str "none", V.str "same"] = (["zero", "none", "same"] : List Str).map V.str from rfl, this]
  rw [Bool.eq_iff_iff, decide_eq_true_eq, decide_eq_true_eq]
  simp only [List.mem_cons, List.not_mem_nil, or_false, Br]
theorem upd_none {H : Hp} {p q : Addr} {u : HO} (h : upd H p u q = none) : q ≠ p ∧ H q = none := by
  by_cases c : q = p
  · rw [c, upd_same] at h; cases h
  · rw [upd_ne c] at h; exact ⟨c, h⟩
theorem in_br {s : Str} {v : V} {H : Hp} {Q : VK} (h : ∃ p, v = .ref p ∧ (H p = some (.tup [.str "zero", .str "none", .str "same"]) ∨ H p = some (.lst [.str "zero", .str "none", .str "same"]))) (q : Q (.bl (decide (Br s))) H) : rIn K false (.str s) v H Q := by
  obtain ⟨p, rfl, h⟩ := h
  refine ⟨p, _, rfl, h.elim (fun h => .inr (.of h)) (fun h => .inl (.of h)), rfl, rfl, ?_⟩
  rw [if_neg (by simp), inV_br]; exact q
set_option maxHeartbeats 1000000 in
theorem ok_nexts (T : Txt K mg a) : FnOk P w K mg base CX0 1 a.f_nexts a.d_nexts ["rows", "at"] sp_nexts := by
  refine T.F_nexts.okC sc_nexts (fun vs H Q E h => ?_) (fun cdv A outer s H vs Q E hr h => ?_)
  · obtain ⟨rl, k, rs, rws, r, words, many, sg, rfl, _⟩ := h
    rfl
  · obtain ⟨rl, k, rs, rws, r, words, many, sg, rfl, R, hk, F, m40, k40, q⟩ := h
    have hu := hu_of hr
    refine ⟨_, (@pss_cons _ _ _ _ _ (ps_set (i := 2) sc_nexts.nd (by rfl) (Or.inl rfl) (pe_ix ix_F (pv 0) (pv 1) (fun _ _ => rfl)))
      (@pss_cons _ _ _ _ _ (@ps_if _ _ _ _ _ _ _ _ (pt_cmpR op_eq (pe_ix ix_F (pv 2) pe_int (fun _ _ => rfl)) pe_str (nomark _)) (@pss_one _ _ _ (ps_ret (pe_lst pa_nil))) pss_nil)
      (@pss_cons _ _ _ _ _ (@ps_if _ _ _ _ _ _ _ _ (pt_cmpR op_eq (pe_ix ix_F (pv 2) pe_int (fun _ _ => rfl)) pe_str (nomark _)) (@pss_one _ _ _ (ps_ret (pe_lst (pa_cons (pe_ix ix_F (pv 2) pe_int (fun _ _ => rfl)) pa_nil)))) pss_nil)
      (@pss_cons _ _ _ _ _ (@ps_if _ _ _ _ _ _ _ _ (pt_cmpR op_in_seq (pe_ix ix_F (pv 2) pe_int (fun _ _ => rfl)) (pe_tup (@pa_cstr _ _ _ _ _ _ (@pa_cstr _ _ _ _ _ _ (@pa_cstr _ _ _ _ _ _ pa_nil)))) (by with_unfolding_all rfl)) (@pss_one _ _ _ (ps_ret (pe_callB (call_sorted_set (by rfl) (by rfl)) (by rfl) T.z_sorted (by decide +kernel) (pa_cons (pe_callTy (call_set_two (by rfl) (by rfl)) (by rfl) T.z_set (by decide +kernel) (pa_cons (pe_lst (pa_cons (pe_op op_add (pv 1) pe_int) (pa_cons (pe_ix ix_F (pv 2) (pe_un un_neg pe_int) (fun _ _ => rfl)) pa_nil))) pa_nil)) pa_nil)))) pss_nil)
      (@pss_one _ _ _ (ps_ret (pe_lst (pa_cons (pe_op op_add (pv 1) pe_int) pa_nil)))))))), ?_⟩
    have kl := (List.getElem?_eq_some_iff.mp hk).1
    have ks : k < rs.length := by rw [R.len]; exact kl
    obtain ⟨vs, hp, PA⟩ := R.row k _ r (List.getElem?_eq_getElem ks) hk
    have top := R.top
    have a1 : atI (rs.map V.ref) ((k : Nat) : Int) = some (.ref rs[k]) := atI_nat (by rw [List.getElem?_map, List.getElem?_eq_getElem ks]; rfl)
    simp! [top, a1, hp]
    refine ite2 (fun e => ?_) fun e1 => ite2 (fun e => ?_) fun e2 => ?_
    · intro l hl
      refine q l _ hl (.laid hl) ?_
      rw [upd_same]; unfold nxt; rw [if_pos e]; rfl
    · obtain ⟨pre, x, er, x0, x1, ep, el⟩ := row_to F (.inl e)
      rw [er, ep e] at PA
      obtain ⟨us, ev, lu⟩ := parts_last PA
      have : us = [] := List.eq_nil_of_length_eq_zero lu
      rw [ev, this]
      refine ⟨_, atI_1, fun l hl => q l _ hl (.laid hl) ?_⟩
      rw [upd_same]; unfold nxt; rw [if_neg e1, if_pos e, el]; rfl
    · intro p np
      refine in_br ⟨p, rfl, .inl upd_same⟩ ?_
      refine ⟨_, rfl, ?_⟩
      have hp' := upd_old (u := .tup [.str "zero", .str "none", .str "same"]) hp np
      by_cases c : Br r.1
      · rw [decide_eq_true c, if_pos rfl]
        obtain ⟨pre, x, er, x0, x1, ep, el⟩ := row_to F (.inr c)
        rw [er] at PA
        obtain ⟨us, ev, lu⟩ := parts_last PA
        refine ⟨_, by rw [hp']; rfl, .int x, by rw [ev, ← List.cons_append]; exact atI_last _ _, fun l1 nl1 => ⟨x, rfl, by omega, by omega, x0, by omega, fun a2 na2 => ⟨_, rfl, ?_, fun l ns' nl pm st => ?_⟩⟩⟩
        · unfold setNs; split <;> simp
        · have S1 : Same H (upd H p (.tup [.str "zero", .str "none", .str "same"])) := .laid np
          have S2 := (S1.step nl1 (u := .lst [.int ((k : Int) + 1), .int x])).step na2 (u := SetO w a2 (setNs ((k : Int) + 1) x))
          refine q l _ (S2.free nl) (S2.step nl) ?_
          rw [upd_same, two_sorted pm st]
          unfold nxt
          rw [if_neg e1, if_neg e2, if_pos c, el]
      · rw [decide_eq_false c, if_neg (by simp)]
        intro l nl
        have S1 : Same H (upd H p (.tup [.str "zero", .str "none", .str "same"])) := .laid np
        refine q l _ (S1.free nl) (S1.step nl) ?_
        rw [upd_same]; unfold nxt; rw [if_neg e1, if_neg e2, if_neg c]; rfl
set_option maxHeartbeats 1000000 in
theorem ok_law_nexts (T : Txt K mg a) : FnOk P w K mg base CX0 1 a.f_law_nexts a.d_law_nexts ["rows", "at"] sp_nexts := by
  refine T.F_law_nexts.okC sc_law_nexts (fun vs H Q E h => ?_) (fun cdv A outer s H vs Q E hr h => ?_)
  · obtain ⟨rl, k, rs, rws, r, words, many, sg, rfl, _⟩ := h
    rfl
  · obtain ⟨rl, k, rs, rws, r, words, many, sg, rfl, R, hk, F, m40, k40, q⟩ := h
    have hu := hu_of hr
    refine ⟨_, (@pss_cons _ _ _ _ _ (ps_set (i := 2) sc_law_nexts.nd (by rfl) (Or.inl rfl) (pe_ix ix_F (pv 0) (pv 1) (fun _ _ => rfl)))
      (@pss_cons _ _ _ _ _ (@ps_if _ _ _ _ _ _ _ _ (pt_cmpR op_eq (pe_ix ix_F (pv 2) pe_int (fun _ _ => rfl)) pe_str (nomark _)) (@pss_one _ _ _ (ps_ret (pe_lst pa_nil))) pss_nil)
      (@pss_cons _ _ _ _ _ (ps_set (i := 3) sc_law_nexts.nd (by rfl) (Or.inl rfl) (pe_disp (pps_cons (pe_op op_add (pv 1) pe_int) pe_bl pps_nil) (by rfl) (by rfl) (List.cons_ne_nil _ _) (Nat.le_of_ble_eq_true (by rfl))))
      (@pss_cons _ _ _ _ _ (@ps_if _ _ _ _ _ _ _ _ (pt_cmpR op_eq (pe_ix ix_F (pv 2) pe_int (fun _ _ => rfl)) pe_str (nomark _)) (@pss_one _ _ _ (ps_set (i := 3) sc_law_nexts.nd (by rfl) (Or.inl rfl) (pe_disp (pps_cons (pe_ix ix_F (pv 2) pe_int (fun _ _ => rfl)) pe_bl pps_nil) (by rfl) (by rfl) (List.cons_ne_nil _ _) (Nat.le_of_ble_eq_true (by rfl))))) pss_nil)
      (@pss_cons _ _ _ _ _ (@ps_if _ _ _ _ _ _ _ _ (pt_cmpR op_in_seq (pe_ix ix_F (pv 2) pe_int (fun _ _ => rfl)) (pe_lst (@pa_cstr _ _ _ _ _ _ (@pa_cstr _ _ _ _ _ _ (@pa_cstr _ _ _ _ _ _ pa_nil)))) (by with_unfolding_all rfl)) (@pss_one _ _ _ (ps_dputF hu (pv 3) (pe_ix ix_F (pv 2) (pe_un un_neg pe_int) (fun _ _ => rfl)) pe_bl (by rfl))) pss_nil)
      (@pss_one _ _ _ (ps_ret (pe_callB (call_sorted_dict (by rfl)) (by rfl) T.z_sorted (by decide +kernel) (@pa_cname _ _ _ _ _ _ (pv 3) pa_nil))))))))), ?_⟩
    have kl := (List.getElem?_eq_some_iff.mp hk).1
    have ks : k < rs.length := by rw [R.len]; exact kl
    obtain ⟨vs, hp, PA⟩ := R.row k _ r (List.getElem?_eq_getElem ks) hk
    have top := R.top
    have a1 : atI (rs.map V.ref) ((k : Nat) : Int) = some (.ref rs[k]) := atI_nat (by rw [List.getElem?_map, List.getElem?_eq_getElem ks]; rfl)
    by_cases e1 : r.1 = "back"
    · simp! [top, a1, hp, e1]
      intro l hl
      refine q l _ hl (.laid hl) ?_
      rw [upd_same]; unfold nxt; rw [if_pos e1]; rfl
    simp! [top, a1, hp, e1]
    intro d nd
    simp! [tPairs]
    refine ⟨[(Sum.inl ((k : Int) + 1), V.bl true)], rfl, by simp, ?_⟩
    rw [upd_upd, show mergeK [] [((Sum.inl ((k : Int) + 1) : Key), V.bl true)] = [(Sum.inl ((k : Int) + 1), V.bl true)] from rfl]
    have hp1 := upd_old (u := .dK [(Sum.inl ((k : Int) + 1), V.bl true)]) hp nd
    have hd1 : upd H d (.dK [(Sum.inl ((k : Int) + 1), V.bl true)]) d = some (.dK [(Sum.inl ((k : Int) + 1), V.bl true)]) := upd_same
    have S1 : Same H (upd H d (.dK [(Sum.inl ((k : Int) + 1), V.bl true)])) := .laid nd
    revert hp1 hd1 S1
    generalize upd H d (.dK [(Sum.inl ((k : Int) + 1), V.bl true)]) = H1
    intro hp1 hd1 S1
    by_cases e2 : r.1 = "jump"
    · obtain ⟨pre, x, er, x0, x1, ep, el⟩ := row_to F (.inl e2)
      rw [er, ep e2] at PA
      obtain ⟨us, ev, lu⟩ := parts_last PA
      have : us = [] := List.eq_nil_of_length_eq_zero lu
      rw [this] at ev
      subst ev
      simp! [hp1, e2]
      intro d2 nd2
      have hp2 := upd_old (u := .dK []) hp1 nd2
      simp! [tPairs, hp2]
      refine ⟨[(Sum.inl x, V.bl true)], rfl, by simp, ?_⟩
      rw [upd_upd, show mergeK [] [((Sum.inl x : Key), V.bl true)] = [(Sum.inl x, V.bl true)] from rfl]
      have hp3 := upd_old (u := .dK [(Sum.inl x, V.bl true)]) hp1 nd2
      have S2 := S1.step nd2 (u := .dK [(Sum.inl x, V.bl true)])
      have hd2 : upd H1 d2 (.dK [(Sum.inl x, V.bl true)]) d2 = some (.dK [(Sum.inl x, V.bl true)]) := upd_same
      revert hp3 S2 hd2
      generalize upd H1 d2 (.dK [(Sum.inl x, V.bl true)]) = H2
      intro hp3 S2 hd2
      have nb : ¬ Br r.1 := fun z => by
        rw [e2] at z
        exact absurd z (by decide)
      simp! [hp3]
      intro p np
      refine in_br ⟨p, rfl, .inr upd_same⟩ ⟨_, rfl, ?_⟩
      rw [decide_eq_false nb, if_neg (by simp)]
      refine ⟨_, upd_old hd2 np, [x], rfl, (by decide : 1 < 64), fun l ns' nl pm st => ?_⟩
      have S3 := S2.step np (u := .lst [.str "zero", .str "none", .str "same"])
      refine q l _ (S3.free nl) (S3.step nl) ?_
      rw [upd_same, List.perm_singleton.mp pm]
      unfold nxt
      rw [if_neg e1, if_pos e2, el]
    simp! [hp1, e2]
    intro p np
    refine in_br ⟨p, rfl, .inr upd_same⟩ ⟨_, rfl, ?_⟩
    have S3 := S1.step np (u := .lst [.str "zero", .str "none", .str "same"])
    have hp3 := upd_old (u := .lst [.str "zero", .str "none", .str "same"]) hp1 np
    have hd3 := upd_old (u := .lst [.str "zero", .str "none", .str "same"]) hd1 np
    by_cases c : Br r.1
    · rw [decide_eq_true c, if_pos rfl]
      obtain ⟨pre, x, er, x0, x1, ep, el⟩ := row_to F (.inr c)
      rw [er] at PA
      obtain ⟨us, ev, lu⟩ := parts_last PA
      have al : atI (V.str r.1 :: vs) (-1) = some (.int x) := by rw [ev, ← List.cons_append]; exact atI_last _ _
      simp! [hp3, hd3, al]
      have key : ((putK [((Sum.inl ((k : Int) + 1) : Key), V.bl true)] (Sum.inl x) (V.bl true)).map (·.1)) = (setNs ((k : Int) + 1) x).map Sum.inl := by
        unfold setNs
        by_cases z : (k : Int) + 1 = x
        · rw [if_pos z, z, keys_putK_there (x := V.bl true) (by simp [valV])]; rfl
        · rw [if_neg z, putK_new _ (by simp [valV, z])]; rfl
      refine ⟨_, key, by unfold setNs; split <;> simp, fun l ns' nl pm st => ?_⟩
      obtain ⟨_, nl'⟩ := upd_none nl
      refine q l _ (S3.free nl') (fun q' o h => upd_old (by rw [upd_ne (ne_of_none h nd)]; exact S3 _ _ h) nl) ?_
      rw [upd_same, two_sorted pm st]
      unfold nxt
      rw [if_neg e1, if_neg e2, if_pos c, el]
    · rw [decide_eq_false c, if_neg (by simp)]
      simp! [hd3]
      refine ⟨[(k : Int) + 1], rfl, (by decide : 1 < 64), fun l ns' nl pm st => ?_⟩
      refine q l _ (S3.free nl) (S3.step nl) ?_
      rw [upd_same, List.perm_singleton.mp pm]
      unfold nxt
      rw [if_neg e1, if_neg e2, if_neg c]
theorem nxt_len (r : Row) (k : Int) : (nxt r k).length ≤ 2 := by
  unfold nxt twoI
  repeat' split
  all_goals simp
def spLaw (K : PySem.W.Frag) : Sp := fun vs H Q _ => ∃ (a : Addr) (ns : List Int), vs = [.ref a] ∧ SqL K H a (ns.map V.int) ∧ ns.length ≤ 63 ∧ ∀ H', Q (.bl true) H'

end
end Law

namespace Law
open PySem L2
local macro_rules | `(tactic| simp! [$ls,*]) => `(tactic| simp only [tSeq, tAsg, gName, tVar, tC, tOp, tUn, rI0, rI, rU, tCB, tCons, tNil, tRet, tRetN, tIfS, tTest, tB, tAnd, tOr, tNot, tAndV, tOrV, tNotV, tIf, tDrop, tNext, tCall, tMeth, tIsN, tNotN, L2.start, List.map_cons, List.map_nil, List.length_cons, List.length_nil, List.nil_append, List.cons_append, List.append_nil, Nat.reduceAdd, Nat.reduceSub, Nat.sub_self, List.replicate_succ, List.replicate_zero, List.set_cons_zero, List.set_cons_succ, List.getElem?_cons_zero, List.getElem?_cons_succ, Option.some.injEq, V.int.injEq, V.bl.injEq, V.str.injEq, V.ref.injEq, List.cons.injEq, exists_eq_left', exists_eq_left, exists_and_left, and_true, true_and, if_true, if_false, ite_true, ite_false, Bool.true_eq_false, Bool.false_eq_true, decide_eq_true_eq, Bool.not_true, Bool.not_false, Bool.not_eq_true', decide_eq_false_iff_not, reduceCtorEq, false_and, and_false, exists_false, tTup, tLst, sizeLine_eq, Nat.reduceLeDiff, Nat.zero_le, rEq, rNe, rIxF, rEqF, gSub, rSetL, HO.lst.injEq, HO.tup.injEq, HO.ins.injEq, HO.dK.injEq, scal_int, scal_bl, scal_str, tyF_ref, tyF_int, tyF_bl, tyF_str, tyF_non, lenF_ref, seqV_eq, kindV_eq, tyO_lst, tyO_frz, tyO_tup, tyO_dK, lenO_lst, lenO_frz, lenO_tup, seqO_lst, seqO_frz, seqO_tup, kindO_lst, kindO_frz, kindO_tup, isTys, and_assoc, atI_0, atI_1, atI_2, atI_3, atI_4, upd_same, V.ty.injEq, eq_self_iff_true, and_self, String.reduceEq, or_false, or_true, false_or, true_or, Bool.or_true, Bool.or_false, Bool.true_or, Bool.false_or, Bool.and_false, Bool.false_and, Bool.and_true, Bool.true_and, String.reduceBEq, beq_self_eq_true, tDGetF, tDInF, tDNotInF, sDPutF, keyOf_int, keyOf_str, sFld, tFld, tDNewK, tRaise, tMethE, EX, tFstr, tMake, cxOf_K, Nat.reduceLT, Option.join_some, Option.join_none, not_true_eq_false, not_false_eq_true, gCons, gNil, tChain, rEqE, tAug, ipI, $ls,*])
section
variable {P : Program} {w : World} {K : PySem.W.Frag} {mg : Str → Option Value} {base : Heap} {a : Ad}

inductive Rch (rws : List Row) : Int → Prop
  | zero : Rch rws 0
  | step {y : Int} {r : Row} {k : Nat} : Rch rws k → rws[k]? = some r → y ∈ nxt r k → Rch rws y
structure RowsFit (rws : List Row) : Prop where
  fit : ∀ r ∈ rws, ∃ (words : Int) (sg : List Sg), RowFit words rws.length sg r ∧ ∀ x ∈ sg, x.1.cps.size ≤ 6
  last : LastOk rws
  n0 : 0 < rws.length
  n1 : rws.length ≤ 40
theorem RowsFit.in_ {rws : List Row} (F : RowsFit rws) {k : Nat} {r : Row} (hk : rws[k]? = some r) {y : Int} (hy : y ∈ nxt r k) : 0 ≤ y ∧ y < rws.length := by
  have kl := (List.getElem?_eq_some_iff.mp hk).1
  obtain ⟨words, sg, rf, _⟩ := F.fit r (List.mem_of_getElem? hk)
  have key : r.1 ≠ "back" → r.1 ≠ "jump" → k + 1 < rws.length := fun n1 n2 => by
    by_cases c : k + 1 = rws.length
    · obtain ⟨r', h1, h2⟩ := F.last
      rw [List.getLast?_eq_getElem?, ← c, Nat.add_sub_cancel, hk] at h1
      cases h1
      rcases h2 with h2 | h2
      · exact absurd h2 n1
      · exact absurd h2 n2
    · omega
  unfold nxt at hy
  by_cases e1 : r.1 = "back"
  · rw [if_pos e1] at hy; cases hy
  rw [if_neg e1] at hy
  by_cases e2 : r.1 = "jump"
  · rw [if_pos e2] at hy
    obtain ⟨pre, x, _, x0, x1, _, el⟩ := row_to rf (.inl e2)
    rw [List.mem_singleton.mp hy, el]
    exact ⟨x0, x1⟩
  rw [if_neg e2] at hy
  have := key e1 e2
  by_cases c : Br r.1
  · rw [if_pos c] at hy
    obtain ⟨pre, x, _, x0, x1, _, el⟩ := row_to rf (.inr c)
    rw [el] at hy
    have : y = (k : Int) + 1 ∨ y = x := by
      unfold twoI at hy
      split at hy
      · exact .inl (List.mem_singleton.mp hy)
      · split at hy
        · simpa using hy
        · have : y = x ∨ y = (k : Int) + 1 := by simpa using hy
          exact this.symm
    omega
  · rw [if_neg c] at hy
    rw [List.mem_singleton.mp hy]; omega
theorem nodup_sub : ∀ {a b : List Int}, a.Nodup → (∀ x ∈ a, x ∈ b) → a.length ≤ b.length
  | [], _, _, _ => Nat.zero_le _
  | x :: r, b, n, h => by
    obtain ⟨nx, nr⟩ := List.nodup_cons.mp n
    have hx := h x List.mem_cons_self
    have := nodup_sub (b := b.erase x) nr fun y hy => (List.mem_erase_of_ne (show y ≠ x from fun e => nx (by rw [← e]; exact hy))).mpr (h y (List.mem_cons_of_mem _ hy))
    rw [List.length_erase_of_mem hx] at this
    have := List.length_pos_of_mem hx
    rw [List.length_cons]; omega
theorem nodup_rng {ks : List Int} {n : Nat} (nd : ks.Nodup) (h : ∀ x ∈ ks, 0 ≤ x ∧ x < n) : ks.length ≤ n := by
  have := nodup_sub (b := (List.range n).map fun (k : Nat) => (k : Int)) nd fun x hx => by
    obtain ⟨x0, x1⟩ := h x hx
    exact List.mem_map.mpr ⟨x.toNat, List.mem_range.mpr (by omega), by omega⟩
  rw [List.length_map, List.length_range] at this
  exact this
/-- met, to do, and what of the row at hand is still to be looked at -/
structure Dfs (rws : List Row) (ks td : List Int) (hold : Int → Prop) : Prop where
  z : (0 : Int) ∈ ks
  nd : ks.Nodup
  sub : ∀ x ∈ td, x ∈ ks
  rch : ∀ x ∈ ks, Rch rws x
  rng : ∀ x ∈ ks, 0 ≤ x ∧ x < rws.length
  cl : ∀ (k : Nat) (r : Row), (k : Int) ∈ ks → (k : Int) ∉ td → ¬ hold k → rws[k]? = some r → ∀ y ∈ nxt r k, y ∈ ks
def no : Int → Prop := fun _ => False
theorem Dfs.init {rws : List Row} (h : 0 < rws.length) : Dfs rws [0] [0] no :=
  ⟨by simp, by simp, by simp, fun x hx => by rw [List.mem_singleton.mp hx]; exact .zero, fun x hx => by rw [List.mem_singleton.mp hx]; omega, fun k r h1 h2 => absurd h1 h2⟩
theorem Dfs.pop {rws : List Row} {ks td : List Int} {x : Int} (D : Dfs rws ks (td ++ [x]) no) : Dfs rws ks td (· = x) :=
  ⟨D.z, D.nd, fun y hy => D.sub y (List.mem_append_left _ hy), D.rch, D.rng, fun k r h1 h2 h3 h4 => D.cl k r h1 (fun m => by
    rcases List.mem_append.mp m with m | m
    · exact h2 m
    · exact h3 (List.mem_singleton.mp m)) (fun z => z) h4⟩
theorem Dfs.add {rws : List Row} {ks td : List Int} {hold : Int → Prop} {t : Int} (D : Dfs rws ks td hold) (F : RowsFit rws) {k : Nat} {r : Row} (hk : (k : Int) ∈ ks) (hr : rws[k]? = some r) (ht : t ∈ nxt r k) (nt : t ∉ ks) : Dfs rws (ks ++ [t]) (td ++ [t]) hold := by
  refine ⟨List.mem_append_left _ D.z, ?_, fun y hy => ?_, fun y hy => ?_, fun y hy => ?_, fun k' r' h1 h2 h3 h4 y hy => ?_⟩
  · rw [List.nodup_append]
    exact ⟨D.nd, by simp, fun x hx y hy e => nt (by rw [← List.mem_singleton.mp hy, ← e]; exact hx)⟩
  · rcases List.mem_append.mp hy with m | m
    · exact List.mem_append_left _ (D.sub y m)
    · exact List.mem_append_right _ m
  · rcases List.mem_append.mp hy with m | m
    · exact D.rch y m
    · rw [List.mem_singleton.mp m]; exact .step (D.rch _ hk) hr ht
  · rcases List.mem_append.mp hy with m | m
    · exact D.rng y m
    · rw [List.mem_singleton.mp m]; exact F.in_ hr ht
  · rcases List.mem_append.mp h1 with m | m
    · exact List.mem_append_left _ (D.cl k' r' m (fun z => h2 (List.mem_append_left _ z)) h3 h4 y hy)
    · exact absurd (List.mem_append_right _ m) h2
theorem Dfs.end_ {rws : List Row} {ks td : List Int} {k : Nat} {r : Row} (D : Dfs rws ks td (· = (k : Int))) (hr : rws[k]? = some r) (h : ∀ y ∈ nxt r k, y ∈ ks) : Dfs rws ks td no :=
  ⟨D.z, D.nd, D.sub, D.rch, D.rng, fun k' r' h1 h2 _ h4 y hy => by
    by_cases c : (k' : Int) = k
    · have : k' = k := by omega
      subst this
      rw [hr] at h4
      cases h4
      exact h y hy
    · exact D.cl k' r' h1 h2 c h4 y hy⟩
theorem Dfs.all {rws : List Row} {ks : List Int} (D : Dfs rws ks [] no) (x : Int) : x ∈ ks ↔ Rch rws x := by
  refine ⟨D.rch x, fun h => ?_⟩
  induction h with
  | zero => exact D.z
  | step _ hr hy ih => exact D.cl _ _ ih (by simp) (fun z => z) hr _ hy
def RchL (rws : List Row) (ns : List Int) : Prop := ns.Pairwise (· < ·) ∧ ∀ x, x ∈ ns ↔ Rch rws x
theorem rise_of {ns ks : List Int} (p : ns.Perm ks) (nd : ks.Nodup) (s : ns.Pairwise (· ≤ ·)) : ns.Pairwise (· < ·) := by
  have n2 : ns.Nodup := p.nodup_iff.mpr nd
  exact (s.and n2).imp fun {a b} h => by
    have h1 := h.1
    have h2 := h.2
    omega
def setK (ks : List Int) : List (Key × V) := ks.map fun k => (Sum.inl k, V.bl true)
theorem setK_in {ks : List Int} {t : Int} : (valV (setK ks) (Sum.inl t)).isSome = decide (t ∈ ks) := by
  rw [← valV_any, Bool.eq_iff_iff]
  unfold setK
  simp [List.any_eq_true]
theorem setK_put {ks : List Int} {t : Int} (h : t ∉ ks) : putK (setK ks) (Sum.inl t) (V.bl true) = setK (ks ++ [t]) := by
  have : valV (setK ks) (Sum.inl t) = none := by
    have := setK_in (ks := ks) (t := t)
    rw [decide_eq_false h] at this
    exact Option.not_isSome_iff_eq_none.mp (by rw [this]; simp)
  rw [putK_new _ this]
  unfold setK
  rw [List.map_append]; rfl
theorem Same.new {H H' : Hp} {p : Addr} {u : HO} (S : Same H H') (hp : H p = none) : Same H (upd H' p u) := fun q o h => by rw [upd_ne (ne_of_none h hp)]; exact S _ _ h
def sp_reached : Sp := fun vs H Q _ => ∃ (rl : Addr) (rs : List Addr) (rws : List Row), vs = [.ref rl] ∧ RowsOf H rl rs rws ∧ RowsFit rws ∧
  ∀ (l : Addr) (ns : List Int) (H' : Hp), Same H H' → RchL rws ns → H' l = some (.lst (ns.map V.int)) → Q (.ref l) H'


set_option maxHeartbeats 1000000 in
theorem dfs_inner {D : Ends} {rl d tl : Addr} {rs : List Addr} {rws : List Row} {k : Nat} {r : Row} {ks td : List Int} {H0 H : Hp} {v4 : Option V} (R : RowsOf H0 rl rs rws) (F : RowsFit rws) (nd : H0 d = none) (ntl : H0 tl = none) (Dk : Dfs rws ks td (· = (k : Int))) (hk : (k : Int) ∈ ks) (hr : rws[k]? = some r)
    (hd : H d = some (.dK (setK ks))) (ht : H tl = some (.lst (td.map V.int))) (ltd : td.length ≤ 2 * rws.length) (S : Same H0 H)
    (q : ∀ (ks' td' : List Int) (v4' : Option V) (H' : Hp), Dfs rws ks' td' no → H' d = some (.dK (setK ks')) → H' tl = some (.lst (td'.map V.int)) → Same H0 H' → 2 * (rws.length - ks'.length) + td'.length ≤ 2 * (rws.length - ks.length) + td.length → D.nx [some (.ref rl), some (.ref d), some (.ref tl), some (.int k), v4'] H') :
    tFor (iList K (tCall sp_nexts [] E0 (tCons (tVar 0) (tCons (tVar 3) tNil)))) (gName 4) (tIfS (tB (tDNotInF (tVar 4) (tVar 1))) (tSeq (sDPutF (tVar 1) (tVar 4) (tC (V.bl true))) (tDrop (tBM K "list" rAppend (tVar 2) (tCons (tVar 4) tNil)))) tNext) D [some (.ref rl), some (.ref d), some (.ref tl), some (.int k), v4] H := by
  have kl := (List.getElem?_eq_some_iff.mp hr).1
  have n40 := F.n1
  refine forL_ (fun l H1 => H1 l = some (.lst ((nxt r k).map V.int)) ∧ Same H H1 ∧ H l = none) (fun Q2 hQ => ?_) ?_
  · obtain ⟨words, sg, rf, _⟩ := F.fit r (List.mem_of_getElem? hr)
    simp! []
    exact ⟨rl, k, rs, rws, r, words, rws.length, sg, rfl, R.fr (M := fun _ => False) (.of_same S) id, hr, rf, by omega, by omega, fun l H1 nl S1 hl => hQ l H1 ⟨hl, S1, nl⟩⟩
  rintro l H1 ⟨hl, S1, nl⟩
  have nld : l ≠ d := (ne_of_none hd nl).symm
  have nlt : l ≠ tl := (ne_of_none ht nl).symm
  have ndt : d ≠ tl := ne_of hd ht (by intro z; cases z)
  refine forL (H1 := H1) l _ (fun Q2 h2 => h2) (fun j σ H3 => ∃ (ks' td' : List Int) (v4' : Option V), σ = [some (.ref rl), some (.ref d), some (.ref tl), some (.int k), v4'] ∧ Dfs rws ks' td' (· = (k : Int)) ∧ (k : Int) ∈ ks' ∧ (∀ y ∈ (nxt r k).take j, y ∈ ks') ∧ H3 d = some (.dK (setK ks')) ∧ H3 tl = some (.lst (td'.map V.int)) ∧ H3 l = some (.lst ((nxt r k).map V.int)) ∧ Same H0 H3 ∧ 2 * (rws.length - ks'.length) + td'.length ≤ 2 * (rws.length - ks.length) + td.length)
    ⟨ks, td, v4, rfl, Dk, hk, by simp, S1 _ _ hd, S1 _ _ ht, hl, S.trans S1, Nat.le_refl _⟩ (fun j σ H3 _ ⟨_, _, _, _, _, _, _, _, _, h, _⟩ => .of h) ?_ ?_
  · rintro j x σ H3 hj ⟨ks', td', v4', rfl, D3, hk3, tk, hd3, ht3, hl3, S3, mu⟩
    obtain ⟨y, hy, rfl⟩ := of_map_get hj
    have my : y ∈ nxt r k := List.mem_of_getElem? hy
    have le := nodup_rng D3.nd D3.rng
    have tk' : ∀ {zs : List Int}, (∀ x ∈ ks', x ∈ zs) → y ∈ zs → ∀ z ∈ (nxt r k).take (j + 1), z ∈ zs := fun h1 h2 z hz => by
      rw [List.take_succ, hy] at hz
      rcases List.mem_append.mp hz with m | m
      · exact h1 _ (tk z m)
      · have e : z = y := by simpa using m
        rw [e]; exact h2
    simp! [hd3, setK_in, tBM]
    refine ite2 (fun c => ?_) fun c => ?_
    · have D4 := D3.add F hk3 hr my c
      have le4 := nodup_rng D4.nd D4.rng
      rw [List.length_append, List.length_singleton] at le4
      have hl4 : (setK ks').length < 16777216 := by unfold setK; rw [List.length_map]; omega
      have g1 : upd H3 d (.dK (putK (setK ks') (Sum.inl y) (V.bl true))) tl = some (.lst (td'.map V.int)) := by rw [upd_ne ndt.symm]; exact ht3
      refine ⟨hl4, .inl ⟨rfl, _, .of g1⟩, tl, _, _, rfl, rfl, g1, by rw [List.length_map, sizeLine_eq]; omega, ks' ++ [y], td' ++ [y], D4, List.mem_append_left _ hk3, tk' (fun x h => List.mem_append_left _ h) (by simp), ?_, ?_, ?_, ?_, ?_⟩
      · rw [upd_ne ndt, upd_same, setK_put c]
      · rw [upd_same, List.map_append]; rfl
      · rw [upd_ne nlt, upd_ne nld]; exact hl3
      · exact Same.new (Same.new S3 nd) ntl
      · rw [List.length_append, List.length_append, List.length_singleton]; omega
    · exact ⟨ks', td', D3, hk3, tk' (fun x h => h) (by simpa using c), rfl, ht3, hl3, S3, mu⟩
  · rintro σ H3 ⟨ks', td', v4', rfl, D3, hk3, tk, hd3, ht3, hl3, S3, mu⟩
    rw [List.length_map, List.take_length] at tk
    exact q ks' td' v4' H3 (D3.end_ hr tk) hd3 ht3 S3 mu
set_option maxHeartbeats 1000000 in
theorem ok_reached (T : Txt K mg a) : FnOk P w K mg base CX0 2 a.f_reached a.d_reached ["rows"] sp_reached := by
  refine T.F_reached.okC sc_reached (fun vs H Q E h => ?_) (fun cdv A outer s H vs Q E hr h => ?_)
  · obtain ⟨rl, rs, rws, rfl, _⟩ := h
    rfl
  · obtain ⟨rl, rs, rws, rfl, R, F, q⟩ := h
    have hu := hu_of hr
    refine ⟨_, (@pss_cons _ _ _ _ _ (ps_set (i := 1) sc_reached.nd (by rfl) (Or.inl rfl) (pe_disp (pps_cons pe_int pe_bl pps_nil) (by rfl) (by rfl) (List.cons_ne_nil _ _) (Nat.le_of_ble_eq_true (by rfl))))
      (@pss_cons _ _ _ _ _ (@ps_setL _ 2 _ _ _ _ _ _ sc_reached.nd (by rfl) (Or.inl rfl) (@pa_cint _ _ _ _ _ _ pa_nil) (by first | exact .inl (by rfl) | exact .inr (by rfl) | assumption))
      (@pss_cons _ _ _ _ _ (ps_while PassesOwn.never (pt_truth (pv 2) (fun _ => rfl)) (@pss_cons _ _ _ _ _ (ps_set (i := 3) sc_reached.nd (by rfl) (Or.inl rfl) (pe_bm0 PySem.F.plainAttrs_list PySem.F.slot_list_pop PySem.F.type_list_pop mt_pop (pv 2)))
      (@pss_one _ _ _ (ps_for PassesOwn.never (by rfl) (pi_list (pe_call (ok_nexts T) (hr.mono (by decide)) (by rfl) T.m_nexts T.F_nexts.kp T.b_nexts .nil pass0 (@pa_cname _ _ _ _ _ _ (pv 0) (@pa_cname _ _ _ _ _ _ (pv 3) pa_nil)))) (pg_name (i := 4) sc_reached.nd (by rfl) (Or.inl rfl))
      (@pss_one _ _ _ (@ps_if _ _ _ _ _ _ _ _ (pt_cmp (pc_dnotinF hu (pv 4) (pv 1))) (@pss_cons _ _ _ _ _ (ps_dputF hu (pv 1) (pv 4) pe_bl (by rfl))
      (@pss_one _ _ _ (ps_expr (pe_bm PySem.F.plainAttrs_list PySem.F.slot_list_append PySem.F.type_list_append mt_append (pv 2) (@pa_cname _ _ _ _ _ _ (pv 4) pa_nil))))) pss_nil))))))
      (@pss_one _ _ _ (ps_ret (pe_callB (call_sorted_dict (by rfl)) (by rfl) T.z_sorted (by decide +kernel) (@pa_cname _ _ _ _ _ _ (pv 1) pa_nil))))))), ?_⟩
    simp! []
    intro d nd
    simp! [tPairs]
    refine ⟨[(Sum.inl 0, V.bl true)], rfl, by simp, ?_⟩
    rw [upd_upd, show mergeK [] [((Sum.inl 0 : Key), V.bl true)] = setK [0] from rfl]
    intro tl ntl
    have S1 : Same H (upd H d (.dK (setK [0]))) := .laid nd
    have S2 := S1.step ntl (u := .lst [.int 0])
    have ntd : H tl = none := S1.free ntl
    have hd2 := upd_old (u := .lst [.int 0]) (upd_same (H := H) (a := d) (o := .dK (setK [0]))) ntl
    have ht2 : upd (upd H d (.dK (setK [0]))) tl (.lst [.int 0]) tl = some (.lst ([(0 : Int)].map V.int)) := upd_same
    revert S2 hd2 ht2
    generalize upd (upd H d (.dK (setK [0]))) tl (.lst [.int 0]) = H0
    intro S2 hd2 ht2
    refine ⟨fun m σ H2 => ∃ (ks td : List Int) (v3 v4 : Option V), σ = [some (.ref rl), some (.ref d), some (.ref tl), v3, v4] ∧ m = 2 * (rws.length - ks.length) + td.length ∧ Dfs rws ks td no ∧ H2 d = some (.dK (setK ks)) ∧ H2 tl = some (.lst (td.map V.int)) ∧ Same H H2 ∧ 2 * (rws.length - ks.length) + td.length ≤ 2 * rws.length,
      ⟨_, [0], [0], _, _, rfl, rfl, Dfs.init F.n0, hd2, ht2, S2, by have := F.n0; simp; omega⟩, ?_⟩
    clear S2 hd2 ht2 S1
    rintro m σ H2 ⟨ks, td, v3, v4, rfl, rfl, D, hd, ht, S, mb⟩
    simp! []
    refine ⟨!(td.map V.int).isEmpty, .inl ⟨_, .of ht, rfl⟩, ?_⟩
    rcases List.eq_nil_or_concat td with e | ⟨td0, x, e⟩
    · subst e
      rw [if_neg (by simp)]
      have le := nodup_rng D.nd D.rng
      have n40 := F.n1
      refine ⟨_, hd, ks, by unfold setK; rw [List.map_map]; rfl, by omega, fun l ns' nl pm st => ?_⟩
      exact q l ns' _ (S.step nl) ⟨rise_of pm D.nd st, fun z => by rw [pm.mem_iff]; exact D.all z⟩ upd_same
    · rw [List.concat_eq_append] at e
      subst e
      rw [List.length_append, List.length_singleton] at mb
      rw [if_pos (by simp)]
      have le := nodup_rng D.nd D.rng
      have mx : x ∈ ks := D.sub x (by simp)
      obtain ⟨x0, x1⟩ := D.rng x mx
      obtain ⟨xN, rfl⟩ := Int.eq_ofNat_of_zero_le x0
      have xl : xN < rws.length := by omega
      refine ⟨fun σ' H' => ∃ (ks' td' : List Int) (v3 v4 : Option V), σ' = [some (.ref rl), some (.ref d), some (.ref tl), v3, v4] ∧ Dfs rws ks' td' no ∧ H' d = some (.dK (setK ks')) ∧ H' tl = some (.lst (td'.map V.int)) ∧ Same H H' ∧ 2 * (rws.length - ks'.length) + td'.length ≤ 2 * (rws.length - ks.length) + td0.length, ?_, ?_⟩
      · rintro σ' H' ⟨ks', td', v3, v4, rfl, h1, h2, h3, h4, h5⟩
        refine ⟨_, ?_, ks', td', v3, v4, rfl, rfl, h1, h2, h3, h4, by omega⟩
        rw [List.length_append, List.length_singleton]; omega
      · simp! [tBM0]
        refine ⟨.inl ⟨rfl, _, .of ht⟩, tl, _, .int xN, rfl, rfl, ht, by simp, ?_⟩
        have e1 : ((td0 ++ [(xN : Int)]).map V.int).dropLast = td0.map V.int := by rw [List.map_append]; simp
        rw [e1]
        have ndt : d ≠ tl := ne_of hd ht (by intro z; cases z)
        have lt : td0.length ≤ 2 * rws.length := by omega
        refine dfs_inner (ks := ks) (td := td0) (H0 := H) (rws := rws) (rs := rs) (r := rws[xN]) R F nd ntd D.pop mx (List.getElem?_eq_getElem xl) (by rw [upd_ne ndt]; exact hd) upd_same lt (Same.new S ntd) fun ks' td' v4' H' h1 h2 h3 h4 h5 => ?_
        exact ⟨ks', td', _, _, rfl, h1, h2, h3, h4, h5⟩

theorem cut_last {xs : List V} {ys : List V} (h : ys.length = 1 := by simp) : cutV (xs ++ ys) none (some (-1)) = xs := by
  unfold cutV HT.sIx
  simp [h]
  rw [show (-1 + ((xs.length : Int) + 1)).toNat = xs.length by omega, List.take_left']
  rfl
set_option maxHeartbeats 1000000 in
theorem ok_law_walked (T : Txt K mg a) : FnOk P w K mg base CX0 2 a.f_law_walked a.d_law_walked ["rows"] sp_reached := by
  refine T.F_law_walked.okC sc_law_walked (fun vs H Q E h => ?_) (fun cdv A outer s H vs Q E hr h => ?_)
  · obtain ⟨rl, rs, rws, rfl, _⟩ := h
    rfl
  · obtain ⟨rl, rs, rws, rfl, R, F, q⟩ := h
    have hu := hu_of hr
    refine ⟨_, (@pss_cons _ _ _ _ _ (ps_set (i := 1) sc_law_walked.nd (by rfl) (Or.inl rfl) (pe_disp (pps_cons pe_int pe_bl pps_nil) (by rfl) (by rfl) (List.cons_ne_nil _ _) (Nat.le_of_ble_eq_true (by rfl))))
      (@pss_cons _ _ _ _ _ (@ps_setL _ 2 _ _ _ _ _ _ sc_law_walked.nd (by rfl) (Or.inl rfl) (@pa_cint _ _ _ _ _ _ pa_nil) (by first | exact .inl (by rfl) | exact .inr (by rfl) | assumption))
      (@pss_cons _ _ _ _ _ (ps_while PassesOwn.never (pt_cmpR (op_neE hu) (pv 2) (pe_lst pa_nil) (nomark _)) (@pss_cons _ _ _ _ _ (ps_set (i := 3) sc_law_walked.nd (by rfl) (Or.inl rfl) (pe_ix ix_F (pv 2) (pe_un un_neg pe_int) (fun _ _ => rfl)))
      (@pss_cons _ _ _ _ _ (ps_set (i := 2) sc_law_walked.nd (by rfl) (Or.inl rfl) (pe_slice sl_list (pv 2) po_none (po_some (pe_un un_neg pe_int))))
      (@pss_one _ _ _ (ps_for PassesOwn.never (by rfl) (pi_list (pe_call (ok_law_nexts T) (hr.mono (by decide)) (by rfl) T.m_law_nexts T.F_law_nexts.kp T.b_law_nexts .nil pass0 (@pa_cname _ _ _ _ _ _ (pv 0) (@pa_cname _ _ _ _ _ _ (pv 3) pa_nil)))) (pg_name (i := 4) sc_law_walked.nd (by rfl) (Or.inl rfl))
      (@pss_one _ _ _ (@ps_if _ _ _ _ _ _ _ _ (pt_cmp (pc_dnotinF hu (pv 4) (pv 1))) (@pss_cons _ _ _ _ _ (ps_dputF hu (pv 1) (pv 4) pe_bl (by rfl))
      (@pss_one _ _ _ (ps_expr (pe_bm PySem.F.plainAttrs_list PySem.F.slot_list_append PySem.F.type_list_append mt_append (pv 2) (@pa_cname _ _ _ _ _ _ (pv 4) pa_nil))))) pss_nil)))))))
      (@pss_one _ _ _ (ps_ret (pe_callB (call_sorted_dict (by rfl)) (by rfl) T.z_sorted (by decide +kernel) (@pa_cname _ _ _ _ _ _ (pv 1) pa_nil))))))), ?_⟩
    simp! []
    intro d nd
    simp! [tPairs]
    refine ⟨[(Sum.inl 0, V.bl true)], rfl, by simp, ?_⟩
    rw [upd_upd, show mergeK [] [((Sum.inl 0 : Key), V.bl true)] = setK [0] from rfl]
    intro tl ntl
    have S1 : Same H (upd H d (.dK (setK [0]))) := .laid nd
    have S2 := S1.step ntl (u := .lst [.int 0])
    have ntd : H tl = none := S1.free ntl
    have hd2 := upd_old (u := .lst [.int 0]) (upd_same (H := H) (a := d) (o := .dK (setK [0]))) ntl
    have ht2 : upd (upd H d (.dK (setK [0]))) tl (.lst [.int 0]) tl = some (.lst ([(0 : Int)].map V.int)) := upd_same
    revert S2 hd2 ht2
    generalize upd (upd H d (.dK (setK [0]))) tl (.lst [.int 0]) = H0
    intro S2 hd2 ht2
    refine ⟨fun m σ H2 => ∃ (tl : Addr) (ks td : List Int) (v3 v4 : Option V), σ = [some (.ref rl), some (.ref d), some (.ref tl), v3, v4] ∧ m = 2 * (rws.length - ks.length) + td.length ∧ Dfs rws ks td no ∧ H2 d = some (.dK (setK ks)) ∧ H2 tl = some (.lst (td.map V.int)) ∧ Same H H2 ∧ H tl = none ∧ 2 * (rws.length - ks.length) + td.length ≤ 2 * rws.length,
      ⟨_, tl, [0], [0], _, _, rfl, rfl, Dfs.init F.n0, hd2, ht2, S2, ntd, by have := F.n0; simp; omega⟩, ?_⟩
    clear S2 hd2 ht2 S1 ntd ntl
    clear tl
    rintro m σ H2 ⟨tl, ks, td, v3, v4, rfl, rfl, D, hd, ht, S, ntl, mb⟩
    simp! [ht]
    intro p np
    have ht' := upd_old (u := .lst []) ht np
    have hd' := upd_old (u := .lst []) hd np
    have S' := S.step np (u := .lst [])
    rcases List.eq_nil_or_concat td with e | ⟨td0, x, e⟩
    · subst e
      refine ⟨_, by rw [ht']; rfl, by rw [ht']; rfl, ?_⟩
      rw [if_neg (by simp)]
      have le := nodup_rng D.nd D.rng
      have n40 := F.n1
      refine ⟨_, hd', ks, by unfold setK; rw [List.map_map]; rfl, by omega, fun l ns' nl pm st => ?_⟩
      exact q l ns' _ (S'.step nl) ⟨rise_of pm D.nd st, fun z => by rw [pm.mem_iff]; exact D.all z⟩ upd_same
    · rw [List.concat_eq_append] at e
      subst e
      refine ⟨_, by rw [ht']; rfl, by rw [ht']; rfl, ?_⟩
      rw [List.length_append, List.length_singleton] at mb
      rw [if_pos (by simp)]
      have le := nodup_rng D.nd D.rng
      have mx : x ∈ ks := D.sub x (by simp)
      obtain ⟨x0, x1⟩ := D.rng x mx
      obtain ⟨xN, rfl⟩ := Int.eq_ofNat_of_zero_le x0
      have xl : xN < rws.length := by omega
      refine ⟨fun σ' H' => ∃ (tl : Addr) (ks' td' : List Int) (v3 v4 : Option V), σ' = [some (.ref rl), some (.ref d), some (.ref tl), v3, v4] ∧ Dfs rws ks' td' no ∧ H' d = some (.dK (setK ks')) ∧ H' tl = some (.lst (td'.map V.int)) ∧ Same H H' ∧ H tl = none ∧ 2 * (rws.length - ks'.length) + td'.length ≤ 2 * (rws.length - ks.length) + td0.length, ?_, ?_⟩
      · rintro σ' H' ⟨tl, ks', td', v3, v4, rfl, h1, h2, h3, h4, h6, h5⟩
        refine ⟨_, ?_, tl, ks', td', v3, v4, rfl, rfl, h1, h2, h3, h4, h6, by omega⟩
        rw [List.length_append, List.length_singleton]; omega
      · refine ⟨_, by rw [ht']; rfl, .int xN, by rw [List.map_append]; exact atI_last _ _, ?_⟩
        simp! [tSl, tNoPart, tPart, rSlL]
        refine ⟨_, .of ht', fun l1 nl1 => ?_⟩
        rw [List.map_append, cut_last]
        have ntd : H l1 = none := S'.free nl1
        refine dfs_inner (ks := ks) (td := td0) (H0 := H) (rws := rws) (rs := rs) (r := rws[xN]) R F nd ntd D.pop mx (List.getElem?_eq_getElem xl) (upd_old hd' nl1) upd_same (by omega) (S'.step nl1) fun ks' td' v4' H' h1 h2 h3 h4 h5 => ?_
        exact ⟨l1, ks', td', _, _, rfl, h1, h2, h3, h4, ntd, h5⟩

end
end Law

namespace Law
open PySem L2
local macro_rules | `(tactic| simp! [$ls,*]) => `(tactic| simp only [tSeq, tAsg, gName, tVar, tC, tOp, tUn, rI0, rI, rU, tCB, tCons, tNil, tRet, tRetN, tIfS, tTest, tB, tAnd, tOr, tNot, tAndV, tOrV, tNotV, tIf, tDrop, tNext, tCall, tMeth, tIsN, tNotN, L2.start, List.map_cons, List.map_nil, List.length_cons, List.length_nil, List.nil_append, List.cons_append, List.append_nil, Nat.reduceAdd, Nat.reduceSub, Nat.sub_self, List.replicate_succ, List.replicate_zero, List.set_cons_zero, List.set_cons_succ, List.getElem?_cons_zero, List.getElem?_cons_succ, Option.some.injEq, V.int.injEq, V.bl.injEq, V.str.injEq, V.ref.injEq, List.cons.injEq, exists_eq_left', exists_eq_left, exists_and_left, and_true, true_and, if_true, if_false, ite_true, ite_false, Bool.true_eq_false, Bool.false_eq_true, decide_eq_true_eq, Bool.not_true, Bool.not_false, Bool.not_eq_true', decide_eq_false_iff_not, reduceCtorEq, false_and, and_false, exists_false, tTup, tLst, sizeLine_eq, Nat.reduceLeDiff, Nat.zero_le, rEq, rNe, rIxF, rEqF, gSub, rSetL, HO.lst.injEq, HO.tup.injEq, HO.ins.injEq, HO.dK.injEq, scal_int, scal_bl, scal_str, tyF_ref, tyF_int, tyF_bl, tyF_str, tyF_non, lenF_ref, seqV_eq, kindV_eq, tyO_lst, tyO_frz, tyO_tup, tyO_dK, lenO_lst, lenO_frz, lenO_tup, seqO_lst, seqO_frz, seqO_tup, kindO_lst, kindO_frz, kindO_tup, isTys, and_assoc, atI_0, atI_1, atI_2, atI_3, atI_4, upd_same, V.ty.injEq, eq_self_iff_true, and_self, String.reduceEq, or_false, or_true, false_or, true_or, Bool.or_true, Bool.or_false, Bool.true_or, Bool.false_or, Bool.and_false, Bool.false_and, Bool.and_true, Bool.true_and, String.reduceBEq, beq_self_eq_true, tDGetF, tDInF, tDNotInF, sDPutF, keyOf_int, keyOf_str, sFld, tFld, tDNewK, tRaise, tMethE, EX, tFstr, tMake, cxOf_K, Nat.reduceLT, Option.join_some, Option.join_none, not_true_eq_false, not_false_eq_true, gCons, gNil, tChain, rEqE, tAug, ipI, $ls,*])
section
variable {P : Program} {w : World} {K : PySem.W.Frag} {mg : Str → Option Value} {base : Heap} {a : Ad}

theorem rowfit_mk {words many : Int} {sg : List Sg} {w ls : Str} {ps : List Part} (cs : List Nat) (m : (w, ls) ∈ LW) (e : ls.cps = cs.toArray) (l : ps.length = cs.length) (h : ∀ q ∈ cs.zip ps, PartFit words many sg ps q.1 q.2) : RowFit words many sg (w, ps) :=
  ⟨ls, m, by rw [e]; simpa using l, ⟨fun i c p h1 h2 => h (c, p) (List.mem_of_getElem? (List.getElem?_zip_eq_some.mpr ⟨by rw [e] at h1; simpa using h1, h2⟩))⟩⟩
theorem partsat_mk {H : Hp} {vs : List V} {ps : List Part} (l : vs.length = ps.length) (h : ∀ q ∈ vs.zip ps, PartAt H q.1 q.2) : PartsAt H vs ps :=
  ⟨l, fun i v p h1 h2 => h (v, p) (List.mem_of_getElem? (List.getElem?_zip_eq_some.mpr ⟨h1, h2⟩))⟩
theorem pf_p {many : Int} {sg : List Sg} {ps : List Part} {p : Int} (h0 : 0 ≤ p) (h1 : p < 8) : PartFit 0 many sg ps 112 (.inl p) := .inl ⟨rfl, p, rfl, h0, by omega⟩
theorem pf_t {many : Int} {sg : List Sg} {ps : List Part} {p : Int} (h0 : 0 ≤ p) (h1 : p < many) : PartFit 0 many sg ps 116 (.inl p) := .inr (.inr (.inl ⟨rfl, p, rfl, h0, h1⟩))
theorem pf_k {many : Int} {sg : List Sg} {ps : List Part} {p : Int} (h0 : 0 ≤ p) (h1 : p < 10) : PartFit 0 many sg ps 107 (.inl p) := .inr (.inl ⟨rfl, p, rfl, h0, h1⟩)
theorem all1 {α : Type} {f : α → Prop} {a : α} (h : f a) : ∀ q ∈ [a], f q := fun q m => by rw [List.mem_singleton.mp m]; exact h
theorem all2 {α : Type} {f : α → Prop} {a b : α} (h : f a) (h2 : f b) : ∀ q ∈ [a, b], f q := fun q m => by
  rcases List.mem_cons.mp m with e | m
  · rw [e]; exact h
  · exact all1 h2 q m
theorem all3 {α : Type} {f : α → Prop} {a b c : α} (h : f a) (h2 : f b) (h3 : f c) : ∀ q ∈ [a, b, c], f q := fun q m => by
  rcases List.mem_cons.mp m with e | m
  · rw [e]; exact h
  · exact all2 h2 h3 q m
def LWD : List Str := ["zero", "none", "same", "jump", "back", "make", "rest", "call", "tell", "put", "nil"]
def sp_lrow : Sp := fun vs H Q _ => ∃ (b c : Addr) (cs : List Int) (word : Str) (k many near : Int), vs = [.ref b, .str word, .int k, .int many, .int near] ∧ BagAt H b c cs ∧ word ∈ LWD ∧ 0 < many ∧ many ≤ 1000 ∧ 0 ≤ near ∧ near < 3 ∧ 0 ≤ k ∧ k ≤ 1000 ∧
  ∀ (p : Addr) (r : Row) (H' : Hp), r.1 = word → RowAt H' p r → RowFit 0 many [("", "n")] r → BagAt H' b c cs → Kp b H H' → Q (.ref p) H'
set_option maxHeartbeats 2000000 in
theorem ok_law_loop_row (T : Txt K mg a) : FnOk P w K mg base CX0 2 a.f_law_loop_row a.d_law_loop_row ["bag", "word", "k", "many", "near"] sp_lrow := by
  refine T.F_law_loop_row.okC sc_law_loop_row (fun vs H Q E h => ?_) (fun cdv A outer s H vs Q E hr h => ?_)
  · obtain ⟨b, c, cs, word, k, many, near, rfl, _⟩ := h
    rfl
  · obtain ⟨b, c, cs, word, k, many, near, rfl, B, wd, m0, m1, n0, n1, k0, k1, q⟩ := h
    have hu := hu_of hr
    refine ⟨_, (@pss_cons _ _ _ _ _ (ps_set (i := 5) sc_law_loop_row.nd (by rfl) (Or.inl rfl) (pe_call (ok_law_draw T) (hr.mono (by decide)) (by rfl) T.m_law_draw T.F_law_draw.kp T.b_law_draw .nil pass0 (@pa_cname _ _ _ _ _ _ (pv 0) (@pa_cname _ _ _ _ _ _ (pv 3) pa_nil))))
      (@pss_cons _ _ _ _ _ (@ps_if _ _ _ _ _ _ _ _ (pt_cmpR op_gt (pv 4) pe_int (nomark _)) (@pss_one _ _ _ (ps_set (i := 5) sc_law_loop_row.nd (by rfl) (Or.inl rfl) (pe_callB (call_min2 (by rfl)) (by rfl) T.z_min (by decide +kernel) (pa_cons (pe_op op_sub (pv 3) pe_int) (pa_cons (pe_callB (call_max2 (by rfl)) (by rfl) T.z_max (by decide +kernel) (@pa_cint _ _ _ _ _ _ (pa_cons (pe_op op_sub (pe_op op_add (pv 2) pe_int) (pe_call (ok_law_draw T) (hr.mono (by decide)) (by rfl) T.m_law_draw T.F_law_draw.kp T.b_law_draw .nil pass0 (@pa_cname _ _ _ _ _ _ (pv 0) (pa_cons (pe_op op_add pe_int (pe_op op_mul pe_int (pv 4))) pa_nil)))) pa_nil))) pa_nil))))) pss_nil)
      (@pss_cons _ _ _ _ _ (ps_set (i := 6) sc_law_loop_row.nd (by rfl) (Or.inl rfl) (pe_call (ok_law_draw T) (hr.mono (by decide)) (by rfl) T.m_law_draw T.F_law_draw.kp T.b_law_draw .nil pass0 (@pa_cname _ _ _ _ _ _ (pv 0) (@pa_cint _ _ _ _ _ _ pa_nil))))
      (@pss_cons _ _ _ _ _ (@ps_if _ _ _ _ _ _ _ _ (PW.pt (pw_or (pt_cmpR op_eq (pv 1) pe_str (nomark _)) (pw_or1 (pt_cmpR op_eq (pv 1) pe_str (nomark _))))) (@pss_one _ _ _ (ps_ret (pe_tup (@pa_cname _ _ _ _ _ _ (pv 1) (@pa_cname _ _ _ _ _ _ (pv 6) (@pa_cname _ _ _ _ _ _ (pv 5) pa_nil)))))) pss_nil)
      (@pss_cons _ _ _ _ _ (@ps_if _ _ _ _ _ _ _ _ (pt_cmpR op_eq (pv 1) pe_str (nomark _)) (@pss_one _ _ _ (ps_ret (pe_tup (@pa_cname _ _ _ _ _ _ (pv 1) (@pa_cname _ _ _ _ _ _ (pv 6) (pa_cons (pe_call (ok_law_draw T) (hr.mono (by decide)) (by rfl) T.m_law_draw T.F_law_draw.kp T.b_law_draw .nil pass0 (@pa_cname _ _ _ _ _ _ (pv 0) (@pa_cint _ _ _ _ _ _ pa_nil))) (@pa_cname _ _ _ _ _ _ (pv 5) pa_nil))))))) pss_nil)
      (@pss_cons _ _ _ _ _ (@ps_if _ _ _ _ _ _ _ _ (pt_cmpR op_eq (pv 1) pe_str (nomark _)) (@pss_one _ _ _ (ps_ret (pe_tup (@pa_cname _ _ _ _ _ _ (pv 1) (@pa_cname _ _ _ _ _ _ (pv 5) pa_nil))))) pss_nil)
      (@pss_cons _ _ _ _ _ (@ps_if _ _ _ _ _ _ _ _ (pt_cmpR op_eq (pv 1) pe_str (nomark _)) (@pss_one _ _ _ (ps_ret (pe_tup (@pa_cname _ _ _ _ _ _ (pv 1) (@pa_cname _ _ _ _ _ _ (pv 6) (pa_cons (pe_call (ok_law_draw T) (hr.mono (by decide)) (by rfl) T.m_law_draw T.F_law_draw.kp T.b_law_draw .nil pass0 (@pa_cname _ _ _ _ _ _ (pv 0) (@pa_cint _ _ _ _ _ _ pa_nil))) (pa_cons (pe_call (ok_law_draw T) (hr.mono (by decide)) (by rfl) T.m_law_draw T.F_law_draw.kp T.b_law_draw .nil pass0 (@pa_cname _ _ _ _ _ _ (pv 0) (@pa_cint _ _ _ _ _ _ pa_nil))) pa_nil))))))) pss_nil)
      (@pss_cons _ _ _ _ _ (@ps_if _ _ _ _ _ _ _ _ (pt_cmpR op_eq (pv 1) pe_str (nomark _)) (@pss_one _ _ _ (ps_ret (pe_tup (@pa_cname _ _ _ _ _ _ (pv 1) pa_nil)))) pss_nil)
      (@pss_cons _ _ _ _ _ (@ps_if _ _ _ _ _ _ _ _ (pt_cmpR op_eq (pv 1) pe_str (nomark _)) (@pss_one _ _ _ (ps_ret (pe_tup (@pa_cname _ _ _ _ _ _ (pv 1) (@pa_cname _ _ _ _ _ _ (pv 6) (@pa_cint _ _ _ _ _ _ (pa_cons (pe_tup pa_nil) pa_nil))))))) pss_nil)
      (@pss_cons _ _ _ _ _ (@ps_if _ _ _ _ _ _ _ _ (pt_cmpR op_eq (pv 1) pe_str (nomark _)) (@pss_one _ _ _ (ps_ret (pe_tup (@pa_cname _ _ _ _ _ _ (pv 1) (@pa_cname _ _ _ _ _ _ (pv 6) (pa_cons (pe_call (ok_law_draw T) (hr.mono (by decide)) (by rfl) T.m_law_draw T.F_law_draw.kp T.b_law_draw .nil pass0 (@pa_cname _ _ _ _ _ _ (pv 0) (pa_cons (pe_op op_pow pe_int pe_int) pa_nil))) pa_nil)))))) pss_nil)
      (@pss_one _ _ _ (ps_ret (pe_tup (@pa_cname _ _ _ _ _ _ (pv 1) (@pa_cname _ _ _ _ _ _ (pv 6) pa_nil))))))))))))))), ?_⟩
    generalize hG : tSeq (tAsg _ (gName 6)) _ = tail
    have key : ∀ (t : Int) (H1 : Hp), 0 ≤ t → t < many → BagAt H1 b c cs → Kp b H H1 → tail { nx := fun x H' => Q V.non H', rt := Q } [some (.ref b), some (.str word), some (.int k), some (.int many), some (.int near), some (.int t), none] H1 := by
      intro t H1 t0 t1 B1 kp1
      subst hG
      simp! []
      refine ⟨b, c, cs, 8, rfl, B1, by decide, by decide, fun p H2 p0 p1 B2 kp2 => ?_⟩
      have k02 := kp1.trans kp2
      unfold LWD at wd
      simp only [List.mem_cons, List.not_mem_nil, or_false] at wd
      dsimp only
      rcases wd with rfl | rfl | rfl | rfl | rfl | rfl | rfl | rfl | rfl | rfl | rfl
      all_goals repeat (first | rw [if_pos rfl] | rw [if_neg (by decide)])
      · exact fun l nl => q l ("zero", [.inl p, .inl t]) _ rfl ⟨_, upd_same, partsat_mk rfl (all2 rfl rfl)⟩ (rowfit_mk (ls := "pt") [112, 116] (by decide +kernel) rfl rfl (all2 (pf_p p0 p1) (pf_t t0 t1))) (B2.laid nl) (k02.laid nl)
      · exact fun l nl => q l ("none", [.inl p, .inl t]) _ rfl ⟨_, upd_same, partsat_mk rfl (all2 rfl rfl)⟩ (rowfit_mk (ls := "pt") [112, 116] (by decide +kernel) rfl rfl (all2 (pf_p p0 p1) (pf_t t0 t1))) (B2.laid nl) (k02.laid nl)
      · exact ⟨b, c, cs, 8, rfl, B2, by decide, by decide, fun y H3 y0 y1 B3 kp3 l nl => q l ("same", [.inl p, .inl y, .inl t]) _ rfl ⟨_, upd_same, partsat_mk rfl (all3 rfl rfl rfl)⟩ (rowfit_mk (ls := "ppt") [112, 112, 116] (by decide +kernel) rfl rfl (all3 (pf_p p0 p1) (pf_p y0 y1) (pf_t t0 t1))) (B3.laid nl) ((k02.trans kp3).laid nl)⟩
      · exact fun l nl => q l ("jump", [.inl t]) _ rfl ⟨_, upd_same, partsat_mk rfl (all1 rfl)⟩ (rowfit_mk (ls := "t") [116] (by decide +kernel) rfl rfl (all1 (pf_t t0 t1))) (B2.laid nl) (k02.laid nl)
      · exact fun l nl => q l ("back", [.inl p]) _ rfl ⟨_, upd_same, partsat_mk rfl (all1 rfl)⟩ (rowfit_mk (ls := "p") [112] (by decide +kernel) rfl rfl (all1 (pf_p p0 p1))) (B2.laid nl) (k02.laid nl)
      · exact ⟨b, c, cs, 10, rfl, B2, by decide, by decide, fun y H3 y0 y1 B3 kp3 => ⟨b, c, cs, 10, rfl, B3, by decide, by decide, fun z H4 z0 z1 B4 kp4 l nl => q l ("make", [.inl p, .inl y, .inl z]) _ rfl ⟨_, upd_same, partsat_mk rfl (all3 rfl rfl rfl)⟩ (rowfit_mk (ls := "pkk") [112, 107, 107] (by decide +kernel) rfl rfl (all3 (pf_p p0 p1) (pf_k y0 y1) (pf_k z0 z1))) (B4.laid nl) (((k02.trans kp3).trans kp4).laid nl)⟩⟩
      · exact fun l nl => q l ("rest", []) _ rfl ⟨_, upd_same, partsat_mk rfl (fun q m => by cases m)⟩ (rowfit_mk (ls := "") [] (by decide +kernel) rfl rfl (fun q m => by cases m)) (B2.laid nl) (k02.laid nl)
      · refine fun e ne l nl => q l ("call", [.inl p, .inl 0, .inr []]) _ rfl ⟨_, upd_same, partsat_mk rfl (all3 rfl rfl ⟨e, rfl, upd_old upd_same nl⟩)⟩ (rowfit_mk (ls := "pfq") [112, 102, 113] (by decide +kernel) rfl rfl (all3 (pf_p p0 p1) ?_ ?_)) ((B2.laid ne).laid nl) ((k02.laid ne).laid nl)
        · exact .inr (.inr (.inr (.inl ⟨rfl, 0, rfl, by decide, by decide⟩)))
        · exact .inr (.inr (.inr (.inr (.inr ⟨rfl, 0, [], _, rfl, rfl, rfl, rfl, fun x m => by cases m⟩))))
      · exact fun l nl => q l ("tell", [.inl p]) _ rfl ⟨_, upd_same, partsat_mk rfl (all1 rfl)⟩ (rowfit_mk (ls := "p") [112] (by decide +kernel) rfl rfl (all1 (pf_p p0 p1))) (B2.laid nl) (k02.laid nl)
      · refine ⟨⟨by decide, by decide, by decide⟩, b, c, cs, 10 ^ 60, rfl, B2, by decide, by decide, fun y H3 y0 y1 B3 kp3 l nl => q l ("put", [.inl p, .inl y]) _ rfl ⟨_, upd_same, partsat_mk rfl (all2 rfl rfl)⟩ (rowfit_mk (ls := "pi") [112, 105] (by decide +kernel) rfl rfl (all2 (pf_p p0 p1) ?_)) (B3.laid nl) ((k02.trans kp3).laid nl)⟩
        exact .inr (.inr (.inr (.inr (.inl ⟨rfl, y, rfl, by omega, y1⟩))))
      · exact fun l nl => q l ("nil", [.inl p]) _ rfl ⟨_, upd_same, partsat_mk rfl (all1 rfl)⟩ (rowfit_mk (ls := "p") [112] (by decide +kernel) rfl rfl (all1 (pf_p p0 p1))) (B2.laid nl) (k02.laid nl)
    simp! []
    refine ⟨b, c, cs, many, rfl, B, m0, by omega, fun t H1 t0 t1 B1 kp1 => ?_⟩
    simp! []
    refine ite2 (fun c0 => ?_) fun _ => key t H1 t0 t1 B1 kp1
    refine ⟨.inr ⟨by omega, by omega⟩, b, c, cs, 3 + 3 * near, rfl, B1, by omega, by omega, fun x H2 x0 x1 B2 kp2 => ⟨x, rfl, ?_⟩⟩
    refine key _ H2 ?_ ?_ B2 (kp1.trans kp2)
    · split <;> split <;> omega
    · split <;> split <;> omega

end
end Law

namespace Law
open PySem L2
local macro_rules | `(tactic| simp! [$ls,*]) => `(tactic| simp only [tSeq, tAsg, gName, tVar, tC, tOp, tUn, rI0, rI, rU, tCB, tCons, tNil, tRet, tRetN, tIfS, tTest, tB, tAnd, tOr, tNot, tAndV, tOrV, tNotV, tIf, tDrop, tNext, tCall, tMeth, tIsN, tNotN, L2.start, List.map_cons, List.map_nil, List.length_cons, List.length_nil, List.nil_append, List.cons_append, List.append_nil, Nat.reduceAdd, Nat.reduceSub, Nat.sub_self, List.replicate_succ, List.replicate_zero, List.set_cons_zero, List.set_cons_succ, List.getElem?_cons_zero, List.getElem?_cons_succ, Option.some.injEq, V.int.injEq, V.bl.injEq, V.str.injEq, V.ref.injEq, List.cons.injEq, exists_eq_left', exists_eq_left, exists_and_left, and_true, true_and, if_true, if_false, ite_true, ite_false, Bool.true_eq_false, Bool.false_eq_true, decide_eq_true_eq, Bool.not_true, Bool.not_false, Bool.not_eq_true', decide_eq_false_iff_not, reduceCtorEq, false_and, and_false, exists_false, tTup, tLst, sizeLine_eq, Nat.reduceLeDiff, Nat.zero_le, rEq, rNe, rIxF, rEqF, gSub, rSetL, HO.lst.injEq, HO.tup.injEq, HO.ins.injEq, HO.dK.injEq, scal_int, scal_bl, scal_str, tyF_ref, tyF_int, tyF_bl, tyF_str, tyF_non, lenF_ref, seqV_eq, kindV_eq, tyO_lst, tyO_frz, tyO_tup, tyO_dK, lenO_lst, lenO_frz, lenO_tup, seqO_lst, seqO_frz, seqO_tup, kindO_lst, kindO_frz, kindO_tup, isTys, and_assoc, atI_0, atI_1, atI_2, atI_3, atI_4, upd_same, V.ty.injEq, eq_self_iff_true, and_self, String.reduceEq, or_false, or_true, false_or, true_or, Bool.or_true, Bool.or_false, Bool.true_or, Bool.false_or, Bool.and_false, Bool.false_and, Bool.and_true, Bool.true_and, String.reduceBEq, beq_self_eq_true, tDGetF, tDInF, tDNotInF, sDPutF, keyOf_int, keyOf_str, sFld, tFld, tDNewK, tRaise, tMethE, EX, tFstr, tMake, cxOf_K, Nat.reduceLT, Option.join_some, Option.join_none, not_true_eq_false, not_false_eq_true, gCons, gNil, tChain, rEqE, tAug, ipI, $ls,*])
section
variable {P : Program} {w : World} {K : PySem.W.Frag} {mg : Str → Option Value} {base : Heap} {a : Ad}
theorem RowAt.same {H H' : Hp} {q : Addr} {r : Row} (S : Same H H') (h : RowAt H q r) : RowAt H' q r := h.fr (M := fun _ => False) (.of_same S)
theorem RowsOf.same {H H' : Hp} {rl : Addr} {rs : List Addr} {rws : List Row} (S : Same H H') (h : RowsOf H rl rs rws) : RowsOf H' rl rs rws := ⟨S _ _ h.top, h.len, fun i p r h1 h2 => (h.row i p r h1 h2).same S⟩
structure RL (H : Hp) (fs : List Addr) (rws : List Row) : Prop where
  len : fs.length = rws.length
  row : ∀ (i : Nat) (p : Addr) (r : Row), fs[i]? = some p → rws[i]? = some r → RowAt H p r
theorem RL.same {H H' : Hp} {fs : List Addr} {rws : List Row} (S : Same H H') (h : RL H fs rws) : RL H' fs rws := ⟨h.len, fun i p r h1 h2 => (h.row i p r h1 h2).same S⟩
theorem RL.put {H : Hp} {fs : List Addr} {rws : List Row} {fl : Addr} {xs : List V} {u : HO} (h : RL H fs rws) (hf : H fl = some (.lst xs)) : RL (upd H fl u) fs rws :=
  ⟨h.len, fun i p r h1 h2 => (h.row i p r h1 h2).fr (Fr.put (M := (· = fl)) rfl fun ys e => by rw [hf] at e; cases e)⟩
theorem RL.snoc {H : Hp} {fs : List Addr} {rws : List Row} {p : Addr} {r : Row} (h : RL H fs rws) (hr : RowAt H p r) : RL H (fs ++ [p]) (rws ++ [r]) := by
  refine ⟨by rw [List.length_append, List.length_append, h.len]; rfl, fun i q x h1 h2 => ?_⟩
  rcases Nat.lt_trichotomy i fs.length with c | c | c
  · rw [List.getElem?_append_left c] at h1
    rw [List.getElem?_append_left (by rw [← h.len]; exact c)] at h2
    exact h.row i q x h1 h2
  · subst c
    rw [List.getElem?_append_right (Nat.le_refl _), Nat.sub_self] at h1
    rw [h.len, List.getElem?_append_right (Nat.le_refl _), Nat.sub_self] at h2
    cases h1
    cases h2
    exact hr
  · rw [List.getElem?_eq_none (by simp; omega)] at h1
    cases h1


theorem Kp.new {b l : Addr} {H H2 : Hp} {u : HO} (k : Kp b H H2) (h : H l = none) : Kp b H (upd H2 l u) := fun q o e n => by
  rw [upd_ne (fun z => by rw [z, h] at e; cases e)]
  exact k q o e n
theorem BagAt.apart {H : Hp} {b c l : Addr} {cs : List Int} (B : BagAt H b c cs) (h : H l = none) : l ≠ b ∧ l ≠ c := by
  obtain ⟨⟨i, v, st, n, e, k⟩, h3, _⟩ := B
  refine ⟨fun z => ?_, fun z => ?_⟩
  · rw [← z, h] at e; cases e
  · rw [← z, h] at h3; cases h3

theorem RL.kp {H H' : Hp} {b c : Addr} {cs : List Int} {fs : List Addr} {rws : List Row} (B : BagAt H b c cs) (k : Kp b H H') (h : RL H fs rws) : RL H' fs rws := ⟨h.len, fun i p r h1 h2 => (h.row i p r h1 h2).kp B k⟩
def sp_loops : Sp := fun vs H Q _ => ∃ (b c : Addr) (cs : List Int), vs = [.ref b] ∧ BagAt H b c cs ∧ ∀ (rl : Addr) (rs : List Addr) (rws : List Row) (H' : Hp), RowsOf H' rl rs rws → RowsFit rws → H rl = none → BagAt H' b c cs → Kp b H H' → Q (.ref rl) H'
set_option maxHeartbeats 2000000 in
theorem ok_law_loops (T : Txt K mg a) : FnOk P w K mg base CX0 3 a.f_law_loops a.d_law_loops ["bag"] sp_loops := by
  refine T.F_law_loops.okC sc_law_loops (fun vs H Q E h => ?_) (fun cdv A outer s H vs Q E hr h => ?_)
  · obtain ⟨b, c, cs, rfl, _⟩ := h
    rfl
  · obtain ⟨b, c, cs, rfl, B, q⟩ := h
    have hu := hu_of hr
    refine ⟨_, (@pss_cons _ _ _ _ _ (ps_set (i := 1) sc_law_loops.nd (by rfl) (Or.inr rfl) (pe_op op_add (pe_op op_add pe_int (pe_call (ok_law_draw T) (hr.mono (by decide)) (by rfl) T.m_law_draw T.F_law_draw.kp T.b_law_draw .nil pass0 (@pa_cname _ _ _ _ _ _ (pv 0) (@pa_cint _ _ _ _ _ _ pa_nil)))) (pe_op op_fdivB (pe_callB call_lenF (by rfl) T.z_len (by decide +kernel) (pa_cons (pe_ix ix_F (pv 0) pe_int (fun _ _ => rfl)) pa_nil)) pe_int)))
      (@pss_cons _ _ _ _ _ (@ps_if _ _ _ _ _ _ _ _ (pt_cmpR op_eq (pe_call (ok_law_draw T) (hr.mono (by decide)) (by rfl) T.m_law_draw T.F_law_draw.kp T.b_law_draw .nil pass0 (@pa_cname _ _ _ _ _ _ (pv 0) (@pa_cint _ _ _ _ _ _ pa_nil))) pe_int (nomark _)) (@pss_one _ _ _ (ps_set (i := 1) sc_law_loops.nd (by rfl) (Or.inr rfl) (pe_op op_add pe_int (pe_call (ok_law_draw T) (hr.mono (by decide)) (by rfl) T.m_law_draw T.F_law_draw.kp T.b_law_draw .nil pass0 (@pa_cname _ _ _ _ _ _ (pv 0) (@pa_cint _ _ _ _ _ _ pa_nil)))))) pss_nil)
      (@pss_cons _ _ _ _ _ (@ps_setL _ 2 _ _ _ _ _ _ sc_law_loops.nd (by rfl) (Or.inr rfl) (@pa_cstr _ _ _ _ _ _ (@pa_cstr _ _ _ _ _ _ (@pa_cstr _ _ _ _ _ _ (@pa_cstr _ _ _ _ _ _ (@pa_cstr _ _ _ _ _ _ (@pa_cstr _ _ _ _ _ _ (@pa_cstr _ _ _ _ _ _ (@pa_cstr _ _ _ _ _ _ (@pa_cstr _ _ _ _ _ _ (@pa_cstr _ _ _ _ _ _ (@pa_cstr _ _ _ _ _ _ pa_nil))))))))))) (by first | exact .inl (by rfl) | exact .inr (by rfl) | assumption))
      (@pss_cons _ _ _ _ _ (@ps_if _ _ _ _ _ _ _ _ (pt_cmpR op_eq (pe_call (ok_law_draw T) (hr.mono (by decide)) (by rfl) T.m_law_draw T.F_law_draw.kp T.b_law_draw .nil pass0 (@pa_cname _ _ _ _ _ _ (pv 0) (@pa_cint _ _ _ _ _ _ pa_nil))) pe_int (nomark _)) (@pss_one _ _ _ (@ps_setL _ 2 _ _ _ _ _ _ sc_law_loops.nd (by rfl) (Or.inr rfl) (@pa_cstr _ _ _ _ _ _ (@pa_cstr _ _ _ _ _ _ (@pa_cstr _ _ _ _ _ _ (@pa_cstr _ _ _ _ _ _ (@pa_cstr _ _ _ _ _ _ (@pa_cstr _ _ _ _ _ _ (@pa_cstr _ _ _ _ _ _ pa_nil))))))) (by first | exact .inl (by rfl) | exact .inr (by rfl) | assumption))) pss_nil)
      (@pss_cons _ _ _ _ _ (ps_set (i := 3) sc_law_loops.nd (by rfl) (Or.inr rfl) (pe_call (ok_law_draw T) (hr.mono (by decide)) (by rfl) T.m_law_draw T.F_law_draw.kp T.b_law_draw .nil pass0 (@pa_cname _ _ _ _ _ _ (pv 0) (@pa_cint _ _ _ _ _ _ pa_nil))))
      (@pss_cons _ _ _ _ _ (ps_setc (i := 4) sc_law_loops.nd (by rfl) (Or.inl rfl) (N' := ["k", "bag", "many", "near", "words"]) (cap := [none, some 0, some 1, some 3, some 2]) ⟨rfl, (by decide +kernel), (by decide +kernel), (by rfl), rfl, (by rfl)⟩ (by rfl) (pi_range1 (by rfl) T.z_range (pa_cons (pe_op op_sub (pv 1) pe_int) pa_nil)) (fun C_ ex_ s_ H_ => (pg_name (i := 0) (show (["k", "bag", "many", "near", "words"] : List Str).Nodup by decide +kernel) (by rfl) (Or.inl rfl))) gkp_name (fun C_ ex_ s_ H_ => pifs_nil) (fun C_ ex_ s_ H_ => (pe_call (ok_law_loop_row T) (by exact hr.mono (by decide)) (by rfl) T.m_law_loop_row T.F_law_loop_row.kp T.b_law_loop_row .nil pass0 (@pa_cname _ _ _ _ _ _ (pv 1) (pa_cons (pe_ix ix_F (pv 4) (pe_call (ok_law_draw T) (by exact hr.mono (by decide)) (by rfl) T.m_law_draw T.F_law_draw.kp T.b_law_draw .nil pass0 (@pa_cname _ _ _ _ _ _ (pv 1) (pa_cons (pe_callB call_lenF (by rfl) T.z_len (by decide +kernel) (@pa_cname _ _ _ _ _ _ (pv 4) pa_nil)) pa_nil))) (fun _ _ => rfl)) (@pa_cname _ _ _ _ _ _ (pv 0) (@pa_cname _ _ _ _ _ _ (pv 2) (@pa_cname _ _ _ _ _ _ (pv 3) pa_nil))))))))
      (@pss_cons _ _ _ _ _ (ps_set (i := 5) sc_law_loops.nd (by rfl) (Or.inl rfl) (pe_ix ix_F (pe_lst (@pa_cstr _ _ _ _ _ _ (@pa_cstr _ _ _ _ _ _ pa_nil))) (pe_call (ok_law_draw T) (hr.mono (by decide)) (by rfl) T.m_law_draw T.F_law_draw.kp T.b_law_draw .nil pass0 (@pa_cname _ _ _ _ _ _ (pv 0) (@pa_cint _ _ _ _ _ _ pa_nil))) (fun _ _ => rfl)))
      (@pss_one _ _ _ (ps_ret (pe_op op_cat (pv 4) (pe_lst (pa_cons (pe_call (ok_law_loop_row T) (hr.mono (by decide)) (by rfl) T.m_law_loop_row T.F_law_loop_row.kp T.b_law_loop_row .nil pass0 (@pa_cname _ _ _ _ _ _ (pv 0) (@pa_cname _ _ _ _ _ _ (pv 5) (pa_cons (pe_op op_sub (pv 1) pe_int) (@pa_cname _ _ _ _ _ _ (pv 1) (@pa_cname _ _ _ _ _ _ (pv 3) pa_nil)))))) pa_nil)))))))))))), ?_⟩
    generalize hG : tSeq (tAsg (tLst _) (gName 2)) _ = tail
    have key : ∀ (m : Int) (H1 : Hp), 1 ≤ m → m ≤ 40 → BagAt H1 b c cs → Kp b H H1 → tail { nx := fun x H' => Q V.non H', rt := Q } [some (.ref b), some (.int m), none, none, none, none] H1 := by
      intro m H1 m0 m1 B1 k1
      subst hG
      generalize hG : tSeq (tAsg _ (gName 3)) _ = tail
      have key2 : ∀ (wl : Addr) (wds : List Str) (H2 : Hp), H2 wl = some (.lst (wds.map V.str)) → wl ≠ b → 0 < wds.length → wds.length ≤ 11 → (∀ x ∈ wds, x ∈ LWD) → BagAt H2 b c cs → Kp b H H2 → tail { nx := fun x H' => Q V.non H', rt := Q } [some (.ref b), some (.int m), some (.ref wl), none, none, none] H2 := by
        intro wl wds H2 hw nwb w0 w1 wd B2 k2
        subst hG
        simp! []
        refine ⟨b, c, cs, 3, rfl, B2, by decide, by decide, fun near H3 n0 n1 B3 k3 => ?_⟩
        have hw3 := k3 _ _ hw nwb
        have k03 := k2.trans k3
        dsimp only
        refine comp1 (H1 := H3) (m - 1) (fun Q2 h2 => by simp! []; exact h2) (by omega) (by omega) (fun D i ys H4 => ∃ (rs : List Addr) (rws : List Row), ys = rs.map V.ref ∧ rs.length = i ∧ H4 D = some (.lst ys) ∧ RL H4 rs rws ∧ (∀ r ∈ rws, RowFit 0 m [("", "n")] r) ∧ BagAt H4 b c cs ∧ Kp b H3 H4 ∧ D ≠ b ∧ D ≠ c)
          (fun D hD => ⟨[], [], rfl, rfl, upd_same, ⟨rfl, fun i p r h1 _ => by cases h1⟩, (fun r h => by cases h), B3.laid hD, Kp.refl.laid hD, (B3.apart hD).1, (B3.apart hD).2⟩) ?_ (by rw [sizeLine_eq]; omega) ?_ ?_
        · rintro D hD i ys H4 hi ⟨rs, rws, rfl, ls, h4, _⟩
          exact ⟨h4, by rw [List.length_map]; omega⟩
        · rintro D hD i ys H4 hi ⟨rs, rws, rfl, ls, h4, R4, F4, B4, k4, nDb, nDc⟩
          have hw4 := k4 _ _ hw3 nwb
          simp! [tTrue, capSt, hw4, List.length_map]
          refine ⟨b, c, cs, wds.length, rfl, B4, by omega, by omega, fun x H5 x0 x1 B5 k5 => ?_⟩
          obtain ⟨xN, rfl⟩ := Int.eq_ofNat_of_zero_le x0
          have hw5 := k5 _ _ hw4 nwb
          have xl : xN < wds.length := by omega
          have al : atI (wds.map V.str) ((xN : Nat) : Int) = some (.str wds[xN]) := atI_nat (by rw [List.getElem?_map, List.getElem?_eq_getElem xl]; rfl)
          have mw := wd _ (List.getElem_mem xl)
          revert al mw
          generalize wds[xN] = word
          intro al mw
          simp! [hw5, al]
          refine ⟨b, c, cs, word, 0 + (i : Int), m, near, rfl, B5, mw, by omega, by omega, n0, n1, by omega, by omega, fun p r H6 _ RA RF B6 k6 => ?_⟩
          have k46 := k5.trans k6
          have h6 := k46 _ _ h4 nDb
          have R6 := (R4.kp B4 k46).snoc RA
          refine ⟨h6, rs ++ [p], by rw [List.map_append]; rfl, by rw [List.length_append, ls]; rfl, rws ++ [r], R6.put h6, fun r' hr' => ?_, B6.other nDb nDc, (k4.trans k46).new hD, nDb, nDc⟩
          rcases List.mem_append.mp hr' with hr' | hr'
          · exact F4 r' hr'
          · rw [List.mem_singleton.mp hr']; exact RF
        · rintro D hD ys H4 ⟨rs, rws, rfl, ls, h4, R4, F4, B4, k4, nDb, nDc⟩ p np
          refine ⟨b, c, cs, 2, rfl, B4.laid np, by decide, by decide, fun x H5 x0 x1 B5 k5 => ?_⟩
          obtain ⟨npb, npc⟩ := B4.apart np
          have hp5 := k5 _ _ (upd_same (H := H4) (a := p) (o := .lst [.str "back", .str "jump"])) npb
          obtain ⟨word, al, mw, lw⟩ : ∃ word : Str, atI [V.str "back", V.str "jump"] x = some (.str word) ∧ word ∈ LWD ∧ (word = "back" ∨ word = "jump") := by
            rcases (show x = 0 ∨ x = 1 by omega) with e | e
            · rw [e]; exact ⟨_, rfl, by decide +kernel, .inl rfl⟩
            · rw [e]; exact ⟨_, rfl, by decide +kernel, .inr rfl⟩
          refine ⟨x, rfl, _, by rw [hp5]; rfl, _, al, ?_⟩
          refine ⟨b, c, cs, word, m - 1, m, near, rfl, B5, mw, by omega, by omega, n0, n1, by omega, by omega, fun l r H6 er RA RF B6 k6 l1 nl1 => ?_⟩
          have k46 : Kp b H4 H6 := ((Kp.refl.laid np).trans k5).trans k6
          have h6 := k46 _ _ h4 nDb
          have h7 := upd_old (u := .lst [.ref l]) h6 nl1
          have RS := (((R4.kp B4 k46).snoc RA).same (Same.laid (u := .lst [.ref l]) nl1))
          refine ⟨D, l1, _, _, rfl, rfl, h7, upd_same, by rw [List.length_map, sizeLine_eq]; simp; omega, fun l2 nl2 => ?_⟩
          have RS2 := RS.same (Same.laid (u := .lst (rs.map V.ref ++ [.ref l])) nl2)
          have lr := R4.len
          have lm : (rws ++ [r]).length = m.toNat := by rw [List.length_append, List.length_singleton]; omega
          have lm2 : (((rws ++ [r]).length : Nat) : Int) = m := by rw [lm]; omega
          refine q l2 (rs ++ [l]) (rws ++ [r]) _ ⟨by rw [upd_same, List.map_append]; rfl, RS2.len, RS2.row⟩ ⟨fun r' hr' => ⟨0, [("", "n")], ?_, by decide +kernel⟩, ⟨r, by simp, by rw [er]; exact lw⟩, by rw [lm]; omega, by rw [lm]; omega⟩ ?_ ((B6.laid nl1).laid nl2) (((k03.trans k4).trans k46 |>.laid nl1).laid nl2)
          · rw [lm2]
            rcases List.mem_append.mp hr' with hr' | hr'
            · exact F4 r' hr'
            · rw [List.mem_singleton.mp hr']; exact RF
          · have k06 := ((k03.trans k4).trans k46).laid (u := .lst [.ref l]) nl1
            exact none_of_kp k06 ((B6.laid nl1).apart nl2).1 nl2
      simp! []
      intro wl nwl
      refine ⟨b, c, cs, 2, rfl, B1.laid nwl, by decide, by decide, fun x H2 _ _ B2 k2 => ⟨rfl, ?_⟩⟩
      have nwb := (B1.apart nwl).1
      have hw2 := k2 _ _ upd_same nwb
      have k02 : Kp b H H2 := (k1.laid nwl).trans k2
      refine ite2 (fun _ p np => ?_) fun _ => ?_
      · exact key2 p ["zero", "none", "same", "zero", "tell", "call", "nil"] _ upd_same (B2.apart np).1 (by decide) (by decide) (by decide +kernel) (B2.laid np) (k02.laid np)
      · exact key2 wl ["zero", "none", "same", "zero", "jump", "back", "make", "rest", "call", "tell", "put"] H2 hw2 nwb (by decide) (by decide) (by decide +kernel) B2 k02
    simp! []
    refine ⟨b, c, cs, 8, rfl, B, by decide, by decide, fun sz H1 z0 z1 B1 k1 => ?_⟩
    obtain ⟨⟨bi, bv, bst, bn, hbb, _⟩, hbc, _, _, cl⟩ := id B1
    simp! [hbb, hbc, bagL, List.length_map]
    refine ⟨⟨by decide, by decide⟩, ?_⟩
    refine ⟨b, c, cs, 4, rfl, B1, by decide, by decide, fun x H2 _ _ B2 k2 => ?_⟩
    have k02 := k1.trans k2
    simp! []
    refine ite2 (fun _ => ?_) fun _ => ?_
    · exact ⟨b, c, cs, 40, rfl, B2, by decide, by decide, fun y H3 y0 y1 B3 k3 => ⟨y, rfl, key (1 + y) H3 (by omega) (by omega) B3 (k02.trans k3)⟩⟩
    · exact key _ H2 (by omega) (by omega) B2 k02

end
end Law

namespace Law
open PySem L2
local macro_rules | `(tactic| simp! [$ls,*]) => `(tactic| simp only [tSeq, tAsg, gName, tVar, tC, tOp, tUn, rI0, rI, rU, tCB, tCons, tNil, tRet, tRetN, tIfS, tTest, tB, tAnd, tOr, tNot, tAndV, tOrV, tNotV, tIf, tDrop, tNext, tCall, tMeth, tIsN, tNotN, L2.start, List.map_cons, List.map_nil, List.length_cons, List.length_nil, List.nil_append, List.cons_append, List.append_nil, Nat.reduceAdd, Nat.reduceSub, Nat.sub_self, List.replicate_succ, List.replicate_zero, List.set_cons_zero, List.set_cons_succ, List.getElem?_cons_zero, List.getElem?_cons_succ, Option.some.injEq, V.int.injEq, V.bl.injEq, V.str.injEq, V.ref.injEq, List.cons.injEq, exists_eq_left', exists_eq_left, exists_and_left, and_true, true_and, if_true, if_false, ite_true, ite_false, Bool.true_eq_false, Bool.false_eq_true, decide_eq_true_eq, Bool.not_true, Bool.not_false, Bool.not_eq_true', decide_eq_false_iff_not, reduceCtorEq, false_and, and_false, exists_false, tTup, tLst, sizeLine_eq, Nat.reduceLeDiff, Nat.zero_le, rEq, rNe, rIxF, rEqF, gSub, rSetL, HO.lst.injEq, HO.tup.injEq, HO.ins.injEq, HO.dK.injEq, scal_int, scal_bl, scal_str, tyF_ref, tyF_int, tyF_bl, tyF_str, tyF_non, lenF_ref, seqV_eq, kindV_eq, tyO_lst, tyO_frz, tyO_tup, tyO_dK, lenO_lst, lenO_frz, lenO_tup, seqO_lst, seqO_frz, seqO_tup, kindO_lst, kindO_frz, kindO_tup, isTys, and_assoc, atI_0, atI_1, atI_2, atI_3, atI_4, upd_same, V.ty.injEq, eq_self_iff_true, and_self, String.reduceEq, or_false, or_true, false_or, true_or, Bool.or_true, Bool.or_false, Bool.true_or, Bool.false_or, Bool.and_false, Bool.false_and, Bool.and_true, Bool.true_and, String.reduceBEq, beq_self_eq_true, tDGetF, tDInF, tDNotInF, sDPutF, keyOf_int, keyOf_str, sFld, tFld, tDNewK, tRaise, tMethE, EX, tFstr, tMake, cxOf_K, Nat.reduceLT, Option.join_some, Option.join_none, not_true_eq_false, not_false_eq_true, gCons, gNil, tChain, rEqE, tAug, ipI, $ls,*])
section
variable {P : Program} {w : World} {K : PySem.W.Frag} {mg : Str → Option Value} {base : Heap} {a : Ad}
theorem flat_ints (xs : List Int) : (xs.map V.int).all flatV = true := by
  rw [List.all_map]
  exact List.all_eq_true.mpr fun x _ => rfl
theorem inV_ints {i : Int} : ∀ {l : List Int}, inV (.int i) (l.map V.int) = decide (i ∈ l)
  | [] => rfl
  | x :: l => by
    have ih := inV_ints (i := i) (l := l)
    unfold inV at ih ⊢
    rw [List.map_cons, List.any_cons, ih]
    rw [Bool.eq_iff_iff, Bool.or_eq_true, decide_eq_true_eq, decide_eq_true_eq, List.mem_cons]
    have : eqV (.int x) (.int i) = true ↔ i = x := by
      show (x == i) = true ↔ _
      rw [beq_iff_eq]
      exact eq_comm
    rw [this]
theorem rIn_ints {H : Hp} {p : Addr} {ns : List Int} {i : Int} {neg : Bool} {Q : VK} (h : H p = some (.lst (ns.map V.int))) (q : Q (.bl (if neg then !decide (i ∈ ns) else decide (i ∈ ns))) H) : rIn K neg (.int i) (.ref p) H Q :=
  ⟨p, _, rfl, .inl (.of h), rfl, flat_ints ns, by rw [inV_ints]; exact q⟩

def Nx (rws : List Row) (x y : Int) : Prop := ∃ (k : Nat) (r : Row), x = k ∧ rws[k]? = some r ∧ y ∈ nxt r k
inductive Rc (rws : List Row) (at_ : Int) (S : Int → Prop) : Int → Prop
  | base : Rc rws at_ S at_
  | step {x y : Int} : Rc rws at_ S x → Nx rws x y → S y → Rc rws at_ S y
def CB (rws : List Row) (at_ : Int) (S : Int → Prop) : Prop := ∃ x, Rc rws at_ S x ∧ Nx rws x at_
theorem Rc.mono {rws : List Row} {at_ : Int} {S S' : Int → Prop} (h : ∀ x, x ≠ at_ → S x → S' x) {x : Int} (r : Rc rws at_ S x) : Rc rws at_ S' x := by
  induction r with
  | base => exact .base
  | step _ n s ih =>
    rename_i x y _
    by_cases e : y = at_
    · rw [e]; exact .base
    · exact .step ih n (h _ e s)
theorem CB.congr {rws : List Row} {at_ : Int} {S S' : Int → Prop} (h : ∀ x, x ≠ at_ → (S x ↔ S' x)) : CB rws at_ S ↔ CB rws at_ S' :=
  ⟨fun ⟨x, r, n⟩ => ⟨x, r.mono fun y e => (h y e).mp, n⟩, fun ⟨x, r, n⟩ => ⟨x, r.mono fun y e => (h y e).mpr, n⟩⟩
def Plain (rws : List Row) (x : Int) : Prop := ∃ (k : Nat) (r : Row), x = k ∧ rws[k]? = some r ∧ r.1 ≠ "make" ∧ r.1 ≠ "rest"
def Bare (rws : List Row) (x : Int) : Prop := Rch rws x ∧ Plain rws x
theorem rch_in {rws : List Row} (F : RowsFit rws) {x : Int} (h : Rch rws x) : 0 ≤ x ∧ x < rws.length := by
  cases h with
  | zero => have := F.n0; omega
  | step _ hr hy => exact F.in_ hr hy
def plainB (rws : List Row) (i : Int) : Bool := match rws[i.toNat]? with
  | some r => !decide (r.1 = "make") && !decide (r.1 = "rest")
  | none => false
theorem plainB_iff {rws : List Row} {i : Int} (h : 0 ≤ i) : plainB rws i = true ↔ Plain rws i := by
  obtain ⟨k, rfl⟩ := Int.eq_ofNat_of_zero_le h
  unfold plainB Plain
  rw [Int.toNat_natCast]
  constructor
  · intro z
    split at z
    · rename_i r hr
      rw [Bool.and_eq_true, Bool.not_eq_true', Bool.not_eq_true', decide_eq_false_iff_not, decide_eq_false_iff_not] at z
      exact ⟨k, r, rfl, hr, z.1, z.2⟩
    · cases z
  · rintro ⟨k', r, e, hr, z⟩
    have : k = k' := by omega
    subst this
    rw [hr]
    simp [z.1, z.2]
def pickF (f : Int → Bool) (v : V) : Option V := match v with
  | .int i => if f i = true then some (.int i) else none
  | _ => none
theorem fm_pick (f : Int → Bool) : ∀ ns : List Int, (ns.map V.int).filterMap (pickF f) = (ns.filter f).map V.int
  | [] => rfl
  | x :: r => by
    have ih := fm_pick f r
    rw [List.map_cons]
    by_cases h : f x = true
    · rw [List.filterMap_cons_some (b := .int x) (by show (if f x = true then some (V.int x) else none) = _; rw [if_pos h]), List.filter_cons_of_pos h, ih]; rfl
    · rw [List.filterMap_cons_none (by show (if f x = true then some (V.int x) else none) = _; rw [if_neg h]), List.filter_cons_of_neg h, ih]
theorem in_mr {s : Str} {neg : Bool} {p : Addr} {H : Hp} {Q : VK} (h : H p = some (.tup [.str "make", .str "rest"])) (q : Q (.bl (if neg then !decide (s = "make" ∨ s = "rest") else decide (s = "make" ∨ s = "rest"))) H) : rIn K neg (.str s) (.ref p) H Q := by
  refine ⟨p, [.str "make", .str "rest"], rfl, .inr (.of h), rfl, rfl, ?_⟩
  have e : inV (.str s) [.str "make", .str "rest"] = decide (s = "make" ∨ s = "rest") := by
    rw [show ([.str "make", .str "rest"] : List V) = (["make", "rest"] : List Str).map V.str from rfl, inV_strs]
    simp
  rw [e]
  exact q
def BareL (rws : List Row) (ms ns : List Int) : Prop := ns.Pairwise (· < ·) ∧ ∀ x, x ∈ ns ↔ Bare rws x ∧ x ∉ ms
def sp_bare : Sp := fun vs H Q _ => ∃ (rl sl : Addr) (rs : List Addr) (rws : List Row) (ms : List Int), vs = [.ref rl, .ref sl] ∧ RowsOf H rl rs rws ∧ RowsFit rws ∧ H sl = some (.lst (ms.map V.int)) ∧
  ∀ (l : Addr) (ns : List Int) (H' : Hp), Same H H' → H l = none → BareL rws ms ns → H' l = some (.lst (ns.map V.int)) → Q (.ref l) H'
set_option maxHeartbeats 2000000 in
theorem ok_bare_rows (T : Txt K mg a) : FnOk P w K mg base CX0 3 a.f_bare_rows a.d_bare_rows ["rows", "some"] sp_bare := by
  refine T.F_bare_rows.okC sc_bare_rows (fun vs H Q E h => ?_) (fun cdv A outer s H vs Q E hr h => ?_)
  · obtain ⟨rl, sl, rs, rws, ms, rfl, _⟩ := h
    rfl
  · obtain ⟨rl, sl, rs, rws, ms, rfl, R, F, hm, q⟩ := h
    have hu := hu_of hr
    refine ⟨_, (@pss_one _ _ _ (ps_ret (pe_comp (N' := ["at", "some", "rows"]) (cap := [none, some 1, some 0]) ⟨rfl, (by decide +kernel), (by decide +kernel), (by rfl), rfl, (by rfl)⟩ (by rfl) (pi_list (pe_call (ok_reached T) (hr.mono (by decide)) (by rfl) T.m_reached T.F_reached.kp T.b_reached .nil pass0 (@pa_cname _ _ _ _ _ _ (pv 0) pa_nil))) (fun C_ ex_ s_ H_ => (pg_name (i := 0) (show (["at", "some", "rows"] : List Str).Nodup by decide +kernel) (by rfl) (Or.inl rfl))) gkp_name (fun C_ ex_ s_ H_ => (pifs_one (PW.pt (pw_and (pt_cmpR (op_notIn_seqK (K := K) (by rfl)) (pe_ix ix_F (pe_ix ix_F (pv 2) (pv 0) (fun _ _ => rfl)) pe_int (fun _ _ => rfl)) (pe_tup (@pa_cstr _ _ _ _ _ _ (@pa_cstr _ _ _ _ _ _ pa_nil))) (by with_unfolding_all rfl)) (pw_and1 (pt_cmpR (op_notIn_seqK (K := K) (by rfl)) (pv 0) (pv 1) (by with_unfolding_all rfl))))))) (fun C_ ex_ s_ H_ => (pv 0))))), ?_⟩
    simp! []
    refine compL_ (fun l H1 => ∃ ns : List Int, H1 l = some (.lst (ns.map V.int)) ∧ Same H H1 ∧ RchL rws ns) (fun Q2 hQ => ?_) ?_
    · simp! []
      exact ⟨rl, rs, rws, rfl, R, F, fun l ns H1 S1 RL hl => hQ l H1 ⟨ns, hl, S1, RL⟩⟩
    rintro l H1 ⟨ns, hl, S1, RC⟩
    have n40 := F.n1
    have lns : ns.length ≤ 40 := by
      have := nodup_rng (n := rws.length) (RC.1.imp fun h => by omega) fun x hx => rch_in F ((RC.2 x).mp hx)
      omega
    refine compLS l (ns.map V.int) (pickF fun i => plainB rws i && !decide (i ∈ ms)) (fun Q2 h2 => h2) (.of hl) (by rw [List.length_map, sizeLine_eq]; omega) ?_ ?_
    · intro x H2 R2 N hx S2 hR hN
      obtain ⟨i, hi, rfl⟩ := List.mem_map.mp hx
      obtain ⟨i0, i1⟩ := rch_in F ((RC.2 i).mp hi)
      obtain ⟨k, rfl⟩ := Int.eq_ofNat_of_zero_le i0
      have kl : k < rws.length := by omega
      have RO := (R.same S1).same S2
      have lr := RO.len
      have hrk := List.getElem?_eq_getElem kl
      have hpk := List.getElem?_eq_getElem (l := rs) (i := k) (by omega)
      obtain ⟨vs, hp, PA⟩ := RO.row k _ _ hpk hrk
      have top := RO.top
      have al : atI (rs.map V.ref) ((k : Nat) : Int) = some (.ref rs[k]) := atI_nat (by rw [List.getElem?_map, hpk]; rfl)
      revert hrk hpk hp PA al
      generalize rws[k] = r
      generalize rs[k] = p
      intro hrk hpk hp PA al
      have hm2 := S2 _ _ (S1 _ _ hm)
      have pb : plainB rws (k : Int) = (!decide (r.1 = "make") && !decide (r.1 = "rest")) := by
        unfold plainB
        rw [Int.toNat_natCast, hrk]
      simp! [capSt, top]
      refine ⟨_, al, p, rfl, _, by rw [hp]; rfl, _, atI_0, fun p1 np1 => in_mr upd_same ⟨_, rfl, ?_⟩⟩
      by_cases c : r.1 = "make" ∨ r.1 = "rest"
      · rw [if_pos rfl, if_neg (by simp [c])]
        refine hN ?_ _ (Same.laid np1)
        show (if (plainB rws (k : Int) && !decide ((k : Int) ∈ ms)) = true then some (V.int k) else none) = none
        rw [if_neg]
        rw [pb]
        rcases c with c | c <;> simp [c]
      · rw [if_pos rfl, if_pos (by simp [c])]
        refine rIn_ints (upd_old hm2 np1) ⟨_, rfl, ?_⟩
        have c1 : r.1 ≠ "make" := fun z => c (.inl z)
        have c2 : r.1 ≠ "rest" := fun z => c (.inr z)
        rw [if_pos rfl]
        by_cases d : (k : Int) ∈ ms
        · rw [if_neg (by simp [d])]
          refine hN ?_ _ (Same.laid np1)
          show (if (plainB rws (k : Int) && !decide ((k : Int) ∈ ms)) = true then some (V.int k) else none) = none
          rw [if_neg]
          simp [d]
        · rw [if_pos (by simp [d])]
          refine hR _ _ ?_ (Same.laid np1)
          show (if (plainB rws (k : Int) && !decide ((k : Int) ∈ ms)) = true then some (V.int k) else none) = _
          rw [if_pos]
          rw [pb]
          simp [c1, c2, d]
    · intro D H2 hD S2 e2
      rw [fm_pick] at e2
      refine q D _ H2 (S1.trans S2) (S1.free hD) ⟨RC.1.filter _, fun x => ?_⟩ e2
      rw [List.mem_filter, RC.2 x, Bool.and_eq_true, Bool.not_eq_true', decide_eq_false_iff_not, ← and_assoc]
      unfold Bare
      constructor
      · rintro ⟨⟨h1, h2⟩, h3⟩
        exact ⟨⟨h1, (plainB_iff (rch_in F h1).1).mp h2⟩, h3⟩
      · rintro ⟨⟨h1, h2⟩, h3⟩
        exact ⟨⟨h1, (plainB_iff (rch_in F h1).1).mpr h2⟩, h3⟩

end
end Law

namespace Law
open PySem L2
local macro_rules | `(tactic| simp! [$ls,*]) => `(tactic| simp only [tSeq, tAsg, gName, tVar, tC, tOp, tUn, rI0, rI, rU, tCB, tCons, tNil, tRet, tRetN, tIfS, tTest, tB, tAnd, tOr, tNot, tAndV, tOrV, tNotV, tIf, tDrop, tNext, tCall, tMeth, tIsN, tNotN, L2.start, List.map_cons, List.map_nil, List.length_cons, List.length_nil, List.nil_append, List.cons_append, List.append_nil, Nat.reduceAdd, Nat.reduceSub, Nat.sub_self, List.replicate_succ, List.replicate_zero, List.set_cons_zero, List.set_cons_succ, List.getElem?_cons_zero, List.getElem?_cons_succ, Option.some.injEq, V.int.injEq, V.bl.injEq, V.str.injEq, V.ref.injEq, List.cons.injEq, exists_eq_left', exists_eq_left, exists_and_left, and_true, true_and, if_true, if_false, ite_true, ite_false, Bool.true_eq_false, Bool.false_eq_true, decide_eq_true_eq, Bool.not_true, Bool.not_false, Bool.not_eq_true', decide_eq_false_iff_not, reduceCtorEq, false_and, and_false, exists_false, tTup, tLst, sizeLine_eq, Nat.reduceLeDiff, Nat.zero_le, rEq, rNe, rIxF, rEqF, gSub, rSetL, HO.lst.injEq, HO.tup.injEq, HO.ins.injEq, HO.dK.injEq, scal_int, scal_bl, scal_str, tyF_ref, tyF_int, tyF_bl, tyF_str, tyF_non, lenF_ref, seqV_eq, kindV_eq, tyO_lst, tyO_frz, tyO_tup, tyO_dK, lenO_lst, lenO_frz, lenO_tup, seqO_lst, seqO_frz, seqO_tup, kindO_lst, kindO_frz, kindO_tup, isTys, and_assoc, atI_0, atI_1, atI_2, atI_3, atI_4, upd_same, V.ty.injEq, eq_self_iff_true, and_self, String.reduceEq, or_false, or_true, false_or, true_or, Bool.or_true, Bool.or_false, Bool.true_or, Bool.false_or, Bool.and_false, Bool.false_and, Bool.and_true, Bool.true_and, String.reduceBEq, beq_self_eq_true, tDGetF, tDInF, tDNotInF, sDPutF, keyOf_int, keyOf_str, sFld, tFld, tDNewK, tRaise, tMethE, EX, tFstr, tMake, cxOf_K, Nat.reduceLT, Option.join_some, Option.join_none, not_true_eq_false, not_false_eq_true, gCons, gNil, tChain, rEqE, tAug, ipI, $ls,*])
section
variable {P : Program} {w : World} {K : PySem.W.Frag} {mg : Str → Option Value} {base : Heap} {a : Ad}

structure Way (rws : List Row) (at_ : Int) (bs ws : List Int) : Prop where
  hd : ws[0]? = some at_
  nd : ws.Nodup
  in_ : ∀ x ∈ ws, x = at_ ∨ x ∈ bs
  st : ∀ (i : Nat) (x y : Int), ws[i]? = some x → ws[i + 1]? = some y → Nx rws x y
theorem Way.one {rws : List Row} {at_ : Int} {bs : List Int} : Way rws at_ bs [at_] :=
  ⟨rfl, by simp, fun x hx => .inl (List.mem_singleton.mp hx), fun i x y _ h => by simp at h⟩
theorem Way.snoc {rws : List Row} {at_ : Int} {bs ws : List Int} {x t : Int} (W : Way rws at_ bs ws) (hl : ws.getLast? = some x) (n : Nx rws x t) (tb : t ∈ bs) (nt : t ∉ ws) : Way rws at_ bs (ws ++ [t]) := by
  have l0 : 0 < ws.length := (List.getElem?_eq_some_iff.mp W.hd).1
  refine ⟨by rw [List.getElem?_append_left l0]; exact W.hd, ?_, fun y hy => ?_, fun i y z h1 h2 => ?_⟩
  · rw [List.nodup_append]
    exact ⟨W.nd, by simp, fun a ha b hb e => nt (by rw [← List.mem_singleton.mp hb, ← e]; exact ha)⟩
  · rcases List.mem_append.mp hy with m | m
    · exact W.in_ y m
    · rw [List.mem_singleton.mp m]; exact .inr tb
  · by_cases c : i + 1 < ws.length
    · rw [List.getElem?_append_left (by omega)] at h1
      rw [List.getElem?_append_left c] at h2
      exact W.st i y z h1 h2
    · by_cases d : i + 1 = ws.length
      · rw [List.getElem?_append_right (by omega), d, Nat.sub_self] at h2
        cases h2
        rw [List.getElem?_append_left (by omega)] at h1
        rw [List.getLast?_eq_getElem?, show ws.length - 1 = i by omega, h1] at hl
        cases hl
        exact n
      · rw [List.getElem?_eq_none (by simp; omega)] at h2
        cases h2
theorem Way.rc {rws : List Row} {at_ : Int} {bs ws : List Int} (W : Way rws at_ bs ws) : ∀ (i : Nat) (x : Int), ws[i]? = some x → Rc rws at_ (· ∈ bs) x
  | 0, x, h => by rw [W.hd] at h; cases h; exact .base
  | i + 1, x, h => by
    have il := (List.getElem?_eq_some_iff.mp h).1
    have h1 := List.getElem?_eq_getElem (l := ws) (i := i) (by omega)
    have n := W.st i _ x h1 h
    rcases W.in_ x (List.mem_of_getElem? h) with e | e
    · rw [e]; exact .base
    · exact .step (W.rc i _ h1) n e
theorem Way.cb {rws : List Row} {at_ x : Int} {bs ws : List Int} (W : Way rws at_ bs ws) (hl : ws.getLast? = some x) (n : Nx rws x at_) : CB rws at_ (· ∈ bs) :=
  ⟨x, W.rc (ws.length - 1) x (by rw [← List.getLast?_eq_getElem?]; exact hl), n⟩
/-- ways gone level by level -/
structure Bfs (rws : List Row) (at_ : Int) (bs ks : List Int) (fr : List (List Int)) (hold : Int → Prop) : Prop where
  nd : ks.Nodup
  rng : ∀ x ∈ ks, 0 ≤ x ∧ x < rws.length
  ne : ∀ x ∈ ks, x ≠ at_
  way : ∀ w ∈ fr, Way rws at_ bs w ∧ ∀ x ∈ w, x = at_ ∨ x ∈ ks
  cl : ∀ x, (x = at_ ∨ x ∈ ks) → (∀ w ∈ fr, w.getLast? ≠ some x) → ¬ hold x → ¬ Nx rws x at_ ∧ ∀ y, Nx rws x y → y ∈ bs → y ∈ ks
theorem Bfs.init {rws : List Row} {at_ : Int} {bs : List Int} : Bfs rws at_ bs [] [[at_]] no :=
  ⟨by simp, by simp, by simp, fun w hw => by rw [List.mem_singleton.mp hw]; exact ⟨.one, fun x hx => .inl (List.mem_singleton.mp hx)⟩, fun x h1 h2 _ => by
    rcases h1 with e | e
    · exact absurd (by rw [e]; rfl) (h2 [at_] (by simp))
    · cases e⟩
theorem Bfs.pop {rws : List Row} {at_ : Int} {bs ks w : List Int} {fr : List (List Int)} (B : Bfs rws at_ bs ks (w :: fr) no) : Bfs rws at_ bs ks fr (fun x => w.getLast? = some x) :=
  ⟨B.nd, B.rng, B.ne, fun v hv => B.way v (List.mem_cons_of_mem _ hv), fun x h1 h2 h3 => B.cl x h1 (fun v hv => by
    rcases List.mem_cons.mp hv with e | e
    · rw [e]; exact h3
    · exact h2 v e) (fun z => z)⟩
theorem Bfs.add {rws : List Row} {at_ x t : Int} {bs ks w : List Int} {fr : List (List Int)} {hold : Int → Prop} (B : Bfs rws at_ bs ks fr hold) (W : Way rws at_ bs w) (sub : ∀ y ∈ w, y = at_ ∨ y ∈ ks) (hl : w.getLast? = some x) (n : Nx rws x t) (tb : t ∈ bs) (nt : t ∉ ks) (na : t ≠ at_) (t0 : 0 ≤ t) (t1 : t < rws.length) : Bfs rws at_ bs (ks ++ [t]) (fr ++ [w ++ [t]]) hold := by
  refine ⟨?_, fun y hy => ?_, fun y hy => ?_, fun v hv => ?_, fun z h1 h2 h3 => ?_⟩
  · rw [List.nodup_append]
    exact ⟨B.nd, by simp, fun a ha b hb e => nt (by rw [← List.mem_singleton.mp hb, ← e]; exact ha)⟩
  · rcases List.mem_append.mp hy with m | m
    · exact B.rng y m
    · rw [List.mem_singleton.mp m]; exact ⟨t0, t1⟩
  · rcases List.mem_append.mp hy with m | m
    · exact B.ne y m
    · rw [List.mem_singleton.mp m]; exact na
  · rcases List.mem_append.mp hv with m | m
    · obtain ⟨g1, g2⟩ := B.way v m
      exact ⟨g1, fun y hy => (g2 y hy).imp id (List.mem_append_left _)⟩
    · rw [List.mem_singleton.mp m]
      refine ⟨W.snoc hl n tb fun z => ?_, fun y hy => ?_⟩
      · rcases sub t z with e | e
        · exact na e
        · exact nt e
      · rcases List.mem_append.mp hy with m | m
        · exact (sub y m).imp id (List.mem_append_left _)
        · exact .inr (List.mem_append_right _ m)
  · have nzt : z ≠ t := fun e => h2 (w ++ [t]) (by simp) (by rw [e]; simp)
    obtain ⟨g1, g2⟩ := B.cl z (h1.imp id fun m => by
      rcases List.mem_append.mp m with m | m
      · exact m
      · exact absurd (List.mem_singleton.mp m) nzt) (fun v hv => h2 v (List.mem_append_left _ hv)) h3
    exact ⟨g1, fun y ny yb => List.mem_append_left _ (g2 y ny yb)⟩
theorem Bfs.end_ {rws : List Row} {at_ x : Int} {bs ks w : List Int} {fr : List (List Int)} (B : Bfs rws at_ bs ks fr (fun z => w.getLast? = some z)) (hl : w.getLast? = some x) (na : ¬ Nx rws x at_) (h : ∀ y, Nx rws x y → y ∈ bs → y ∈ ks) : Bfs rws at_ bs ks fr no :=
  ⟨B.nd, B.rng, B.ne, B.way, fun z h1 h2 _ => by
    by_cases c : w.getLast? = some z
    · rw [hl] at c; cases c; exact ⟨na, h⟩
    · exact B.cl z h1 h2 c⟩
theorem Bfs.none {rws : List Row} {at_ : Int} {bs ks : List Int} (B : Bfs rws at_ bs ks [] no) : ¬ CB rws at_ (· ∈ bs) := by
  rintro ⟨x, r, n⟩
  have key : ∀ z, Rc rws at_ (· ∈ bs) z → z = at_ ∨ z ∈ ks := by
    intro z h
    induction h with
    | base => exact .inl rfl
    | step _ n' s ih => exact .inr ((B.cl _ ih (by simp) (fun z => z)).2 _ n' s)
  exact (B.cl x (key x r) (by simp) (fun z => z)).1 n
theorem nxt_nodup (r : Row) (k : Int) : (nxt r k).Nodup := by
  unfold nxt
  split
  · simp
  · split
    · simp
    · split
      · unfold twoI
        split
        · simp
        · split
          · simp; omega
          · simp; omega
      · simp
structure WL (H0 H : Hp) (as : List Addr) (wss : List (List Int)) : Prop where
  len : as.length = wss.length
  at_ : ∀ (i : Nat) (p : Addr) (ws : List Int), as[i]? = some p → wss[i]? = some ws → H p = some (.lst (ws.map V.int))
  new : ∀ p ∈ as, H0 p = none
theorem WL.same {H0 H H' : Hp} {as : List Addr} {wss : List (List Int)} (h : WL H0 H as wss) (S : Same H H') : WL H0 H' as wss := ⟨h.len, fun i p ws h1 h2 => S _ _ (h.at_ i p ws h1 h2), h.new⟩
theorem WL.put {H0 H : Hp} {as : List Addr} {wss : List (List Int)} {l : Addr} {u : HO} (h : WL H0 H as wss) (n : ∀ p ∈ as, p ≠ l) : WL H0 (upd H l u) as wss := ⟨h.len, fun i p ws h1 h2 => by rw [upd_ne (n p (List.mem_of_getElem? h1))]; exact h.at_ i p ws h1 h2, h.new⟩
theorem WL.snoc {H0 H : Hp} {as : List Addr} {wss : List (List Int)} {p : Addr} {ws : List Int} (h : WL H0 H as wss) (hp : H p = some (.lst (ws.map V.int))) (np : H0 p = none) : WL H0 H (as ++ [p]) (wss ++ [ws]) := by
  refine ⟨by rw [List.length_append, List.length_append, h.len]; rfl, fun i q x h1 h2 => ?_, fun q hq => ?_⟩
  · rcases Nat.lt_trichotomy i as.length with c | c | c
    · rw [List.getElem?_append_left c] at h1
      rw [List.getElem?_append_left (by rw [← h.len]; exact c)] at h2
      exact h.at_ i q x h1 h2
    · subst c
      rw [List.getElem?_append_right (Nat.le_refl _), Nat.sub_self] at h1
      rw [h.len, List.getElem?_append_right (Nat.le_refl _), Nat.sub_self] at h2
      cases h1
      cases h2
      exact hp
    · rw [List.getElem?_eq_none (by simp; omega)] at h1
      cases h1
  · rcases List.mem_append.mp hq with m | m
    · exact h.new q m
    · rw [List.mem_singleton.mp m]; exact np
def sp_round : Sp := fun vs H Q _ => ∃ (rl bl : Addr) (at_ : Nat) (rs : List Addr) (rws : List Row) (bs : List Int), vs = [.ref rl, .int at_, .ref bl] ∧ RowsOf H rl rs rws ∧ RowsFit rws ∧ at_ < rws.length ∧ H bl = some (.lst (bs.map V.int)) ∧
  (∀ H', Same H H' → ¬ CB rws at_ (· ∈ bs) → Q .non H') ∧
  ∀ (p : Addr) (ws : List Int) (x : Int) (H' : Hp), Same H H' → H p = none → H' p = some (.lst (ws.map V.int)) → Way rws at_ bs ws → ws.getLast? = some x → Nx rws x at_ → Q (.ref p) H'

end
end Law

namespace Law
open PySem L2
local macro_rules | `(tactic| simp! [$ls,*]) => `(tactic| simp only [tSeq, tAsg, gName, tVar, tC, tOp, tUn, rI0, rI, rU, tCB, tCons, tNil, tRet, tRetN, tIfS, tTest, tB, tAnd, tOr, tNot, tAndV, tOrV, tNotV, tIf, tDrop, tNext, tCall, tMeth, tIsN, tNotN, L2.start, List.map_cons, List.map_nil, List.length_cons, List.length_nil, List.nil_append, List.cons_append, List.append_nil, Nat.reduceAdd, Nat.reduceSub, Nat.sub_self, List.replicate_succ, List.replicate_zero, List.set_cons_zero, List.set_cons_succ, List.getElem?_cons_zero, List.getElem?_cons_succ, Option.some.injEq, V.int.injEq, V.bl.injEq, V.str.injEq, V.ref.injEq, List.cons.injEq, exists_eq_left', exists_eq_left, exists_and_left, and_true, true_and, if_true, if_false, ite_true, ite_false, Bool.true_eq_false, Bool.false_eq_true, decide_eq_true_eq, Bool.not_true, Bool.not_false, Bool.not_eq_true', decide_eq_false_iff_not, reduceCtorEq, false_and, and_false, exists_false, tTup, tLst, sizeLine_eq, Nat.reduceLeDiff, Nat.zero_le, rEq, rNe, rIxF, rEqF, gSub, rSetL, HO.lst.injEq, HO.tup.injEq, HO.ins.injEq, HO.dK.injEq, scal_int, scal_bl, scal_str, tyF_ref, tyF_int, tyF_bl, tyF_str, tyF_non, lenF_ref, seqV_eq, kindV_eq, tyO_lst, tyO_frz, tyO_tup, tyO_dK, lenO_lst, lenO_frz, lenO_tup, seqO_lst, seqO_frz, seqO_tup, kindO_lst, kindO_frz, kindO_tup, isTys, and_assoc, atI_0, atI_1, atI_2, atI_3, atI_4, upd_same, V.ty.injEq, eq_self_iff_true, and_self, String.reduceEq, or_false, or_true, false_or, true_or, Bool.or_true, Bool.or_false, Bool.true_or, Bool.false_or, Bool.and_false, Bool.false_and, Bool.and_true, Bool.true_and, String.reduceBEq, beq_self_eq_true, tDGetF, tDInF, tDNotInF, sDPutF, keyOf_int, keyOf_str, sFld, tFld, tDNewK, tRaise, tMethE, EX, tFstr, tMake, cxOf_K, Nat.reduceLT, Option.join_some, Option.join_none, not_true_eq_false, not_false_eq_true, gCons, gNil, tChain, rEqE, tAug, ipI, $ls,*])
section
variable {P : Program} {w : World} {K : PySem.W.Frag} {mg : Str → Option Value} {base : Heap} {a : Ad}

structure BSt (rws : List Row) (at_ : Int) (bs : List Int) (H0 H : Hp) (d wl ll : Addr) (was : List Addr) (wss ps : List (List Int)) (hold : Int → Prop) (k0 : Nat) (ks : List Int) (las : List Addr) (lss : List (List Int)) : Prop where
  S : Same H0 H
  hd : H d = some (.dK (setK ks))
  hw : H wl = some (.lst (was.map V.ref))
  hl : H ll = some (.lst (las.map V.ref))
  W : WL H0 H was wss
  L : WL H0 H las lss
  nw : ∀ p ∈ was, p ≠ ll
  nl : ∀ p ∈ las, p ≠ ll
  nwl : wl ≠ ll
  B : Bfs rws at_ bs ks (ps ++ lss) hold
  cnt : ks.length = k0 + lss.length
theorem BSt.same {rws : List Row} {at_ : Int} {bs : List Int} {H0 H H' : Hp} {d wl ll : Addr} {was : List Addr} {wss ps : List (List Int)} {hold : Int → Prop} {k0 : Nat} {ks : List Int} {las : List Addr} {lss : List (List Int)} (X : BSt rws at_ bs H0 H d wl ll was wss ps hold k0 ks las lss) (S : Same H H') : BSt rws at_ bs H0 H' d wl ll was wss ps hold k0 ks las lss :=
  ⟨X.S.trans S, S _ _ X.hd, S _ _ X.hw, S _ _ X.hl, X.W.same S, X.L.same S, X.nw, X.nl, X.nwl, X.B, X.cnt⟩
theorem WL.keep {H0 H H' : Hp} {as : List Addr} {wss : List (List Int)} {d ll : Addr} {o : HO} (h : WL H0 H as wss) (K' : ∀ q o, H q = some o → q ≠ d → q ≠ ll → H' q = some o) (hd : H d = some o) (no : ∀ xs, o ≠ .lst xs) (n : ∀ p ∈ as, p ≠ ll) : WL H0 H' as wss :=
  ⟨h.len, fun i p ws h1 h2 => by
    have hp := h.at_ i p ws h1 h2
    exact K' _ _ hp (fun e => by rw [e, hd] at hp; cases hp; exact no _ rfl) (n p (List.mem_of_getElem? h1)), h.new⟩
theorem BSt.add {rws : List Row} {at_ : Int} {bs : List Int} {H0 H H' : Hp} {d wl ll : Addr} {was : List Addr} {wss ps : List (List Int)} {hold : Int → Prop} {k0 : Nat} {ks : List Int} {las : List Addr} {lss : List (List Int)} (X : BSt rws at_ bs H0 H d wl ll was wss ps hold k0 ks las lss)
    {p2 : Addr} {x t : Int} {ws : List Int} (K' : ∀ q o, H q = some o → q ≠ d → q ≠ ll → H' q = some o) (S' : Same H0 H') (hd' : H' d = some (.dK (setK (ks ++ [t])))) (hl' : H' ll = some (.lst ((las ++ [p2]).map V.ref))) (hp2 : H' p2 = some (.lst ((ws ++ [t]).map V.int))) (np2 : H p2 = none)
    (W : Way rws at_ bs ws) (sub : ∀ y ∈ ws, y = at_ ∨ y ∈ ks) (hl : ws.getLast? = some x) (n : Nx rws x t) (tb : t ∈ bs) (nt : t ∉ ks) (na : t ≠ at_) (t0 : 0 ≤ t) (t1 : t < rws.length) : BSt rws at_ bs H0 H' d wl ll was wss ps hold k0 (ks ++ [t]) (las ++ [p2]) (lss ++ [ws ++ [t]]) := by
  have nwd : wl ≠ d := fun e => by have := X.hw; rw [e, X.hd] at this; cases this
  have n2 : p2 ≠ ll := fun e => by rw [e, X.hl] at np2; cases np2
  refine ⟨S', hd', K' _ _ X.hw nwd X.nwl, hl', X.W.keep K' X.hd (by intro xs z; cases z) X.nw, (X.L.keep K' X.hd (by intro xs z; cases z) X.nl).snoc hp2 (X.S.free np2), X.nw, fun p hp => ?_, X.nwl, ?_, ?_⟩
  · rcases List.mem_append.mp hp with m | m
    · exact X.nl p m
    · rw [List.mem_singleton.mp m]; exact n2
  · rw [← List.append_assoc]
    exact X.B.add W sub hl n tb nt na t0 t1
  · rw [List.length_append, List.length_append, X.cnt]
    simp
    omega
set_option maxHeartbeats 4000000 in
theorem bfs_t {D : Ends} {rws : List Row} {at_ : Int} {bs : List Int} {H0 H : Hp} {rl bl d wl ll aj l1 : Addr} {was : List Addr} {wss ps : List (List Int)} {hold : Int → Prop} {k0 : Nat} {ks : List Int} {las : List Addr} {lss : List (List Int)} {ws : List Int} {k : Nat} {r : Row} {v8 : Option V}
    (F : RowsFit rws) (nd : H0 d = none) (nll : H0 ll = none) (hb : H0 bl = some (.lst (bs.map V.int))) (X : BSt rws at_ bs H0 H d wl ll was wss ps hold k0 ks las lss)
    (haj : H aj = some (.lst (ws.map V.int))) (naj : aj ≠ ll) (h1 : H l1 = some (.lst ((nxt r k).map V.int))) (W : Way rws at_ bs ws) (sub : ∀ y ∈ ws, y = at_ ∨ y ∈ ks) (hl : ws.getLast? = some (k : Int)) (hr : rws[k]? = some r) (na : at_ ∉ nxt r k) (lw : ws.length ≤ 1000)
    (q : ∀ (ks' : List Int) (las' : List Addr) (lss' : List (List Int)) (v8' : Option V) (H' : Hp), BSt rws at_ bs H0 H' d wl ll was wss ps hold k0 ks' las' lss' → (∀ y ∈ nxt r k, y ∈ bs → y ∈ ks') → D.nx [some (.ref rl), some (.int at_), some (.ref bl), some (.ref d), some (.ref wl), some (.ref ll), some (.ref aj), some (.ref l1), v8'] H') :
    tFor (iList K (tComp [none, some 2, some 3] (iList K (tVar 7)) (gName 0) (tAnd (tTest (tOp (rIn K false) (tVar 0) (tVar 1))) (tB (tDNotInF (tVar 0) (tVar 2)))) (tVar 0))) (gName 8)
      (tSeq (sDPutF (tVar 3) (tVar 8) (tC (V.bl true))) (tDrop (tBM K "list" rAppend (tVar 5) (tCons (tOp rCat (tVar 6) (tLst (tCons (tVar 8) tNil))) tNil)))) D
      [some (.ref rl), some (.int at_), some (.ref bl), some (.ref d), some (.ref wl), some (.ref ll), some (.ref aj), some (.ref l1), v8] H := by
  have n40 := F.n1
  have l2 := nxt_len r k
  refine forL_ (fun l H1 => H1 l = some (.lst (((nxt r k).filter fun t => decide (t ∈ bs) && !decide (t ∈ ks)).map V.int)) ∧ Same H H1 ∧ H l = none) (fun Q2 hQ => ?_) ?_
  · refine compLS l1 ((nxt r k).map V.int) (pickF fun t => decide (t ∈ bs) && !decide (t ∈ ks)) (fun Q2 h2 => by simp! []; exact h2) (.of h1) (by rw [List.length_map, sizeLine_eq]; omega) ?_ ?_
    · intro x H2 R2 N hx S2 hR hN
      obtain ⟨t, ht, rfl⟩ := List.mem_map.mp hx
      have hd2 := S2 _ _ X.hd
      simp! [capSt, hd2, setK_in]
      refine rIn_ints (S2 _ _ (X.S _ _ hb)) ⟨_, rfl, ?_⟩
      rw [if_neg Bool.false_ne_true]
      by_cases c : t ∈ bs
      · rw [if_pos (by simpa using c)]
        refine ⟨_, hd2, ?_⟩
        rw [setK_in]
        by_cases e : t ∈ ks
        · rw [if_neg (by simp [e])]
          refine hN ?_ _ (Same.refl _)
          show (if (decide (t ∈ bs) && !decide (t ∈ ks)) = true then some (V.int t) else none) = none
          rw [if_neg (by simp [e])]
        · rw [if_pos (by simp [e])]
          refine hR _ _ ?_ (Same.refl _)
          show (if (decide (t ∈ bs) && !decide (t ∈ ks)) = true then some (V.int t) else none) = _
          rw [if_pos (by simp [c, e])]
      · rw [if_neg (by simpa using c)]
        refine hN ?_ _ (Same.refl _)
        show (if (decide (t ∈ bs) && !decide (t ∈ ks)) = true then some (V.int t) else none) = none
        rw [if_neg (by simp [c])]
    · intro D2 H2 hD2 S2 e2
      rw [fm_pick] at e2
      exact hQ D2 H2 ⟨e2, S2, hD2⟩
  rintro l H1 ⟨hl1, S1, nl⟩
  have X1 := X.same S1
  have hys : ∀ t ∈ (nxt r k).filter (fun t => decide (t ∈ bs) && !decide (t ∈ ks)), t ∈ nxt r k ∧ t ∈ bs ∧ t ∉ ks := fun t ht => by
    rw [List.mem_filter, Bool.and_eq_true, decide_eq_true_eq, Bool.not_eq_true', decide_eq_false_iff_not] at ht
    exact ht
  have hnd : ((nxt r k).filter fun t => decide (t ∈ bs) && !decide (t ∈ ks)).Nodup := (nxt_nodup r k).filter _
  have hall : ∀ y ∈ nxt r k, y ∈ bs → y ∈ ks ++ (nxt r k).filter fun t => decide (t ∈ bs) && !decide (t ∈ ks) := fun y hy yb => by
    by_cases c : y ∈ ks
    · exact List.mem_append_left _ c
    · exact List.mem_append_right _ (List.mem_filter.mpr ⟨hy, by simp [yb, c]⟩)
  revert hl1 hys hnd hall
  generalize (nxt r k).filter (fun t => decide (t ∈ bs) && !decide (t ∈ ks)) = ys
  intro hl1 hys hnd hall
  have nlll : l ≠ ll := fun e => by rw [e, X.hl] at nl; cases nl
  have nld : l ≠ d := fun e => by rw [e, X.hd] at nl; cases nl
  refine forL (H1 := H1) l (ys.map V.int) (fun Q2 h2 => h2) (fun j σ H2 => ∃ (v8' : Option V) (las' : List Addr), σ = [some (.ref rl), some (.int at_), some (.ref bl), some (.ref d), some (.ref wl), some (.ref ll), some (.ref aj), some (.ref l1), v8'] ∧ BSt rws at_ bs H0 H2 d wl ll was wss ps hold k0 (ks ++ ys.take j) las' (lss ++ (ys.take j).map fun t => ws ++ [t]) ∧ H2 aj = some (.lst (ws.map V.int)) ∧ H2 l = some (.lst (ys.map V.int)))
    ⟨_, las, rfl, by simpa using X1, S1 _ _ haj, hl1⟩ ?_ ?_ ?_
  · rintro j σ H2 hj ⟨v8', las', rfl, X2, ha2, hl2⟩
    exact .of hl2
  · rintro j x σ H2 hj ⟨v8', las', rfl, X2, ha2, hl2⟩
    obtain ⟨t, ht, rfl⟩ := of_map_get hj
    obtain ⟨m1, m2, m3⟩ := hys t (List.mem_of_getElem? ht)
    have jl := (List.getElem?_eq_some_iff.mp ht).1
    have nt : t ∉ ks ++ ys.take j := fun z => by
      rcases List.mem_append.mp z with z | z
      · exact m3 z
      · obtain ⟨i, hi, e⟩ := List.mem_take_iff_getElem.mp z
        have il : i < ys.length := by omega
        have e2 : ys[i]? = ys[j]? := by rw [List.getElem?_eq_getElem il, e, ht]
        have := (List.getElem?_inj il hnd).mp e2
        omega
    obtain ⟨t0, t1⟩ := F.in_ hr m1
    have hd2 := X2.hd
    have nad : aj ≠ d := fun e => by rw [e, X2.hd] at ha2; cases ha2
    have lld : ll ≠ d := fun e => by have := X2.hl; rw [e, X2.hd] at this; cases this
    have lk : (ks ++ ys.take j).length ≤ 40 := by
      have := nodup_rng X2.B.nd X2.B.rng
      omega
    have llas : las'.length ≤ 40 := by
      have e1 := X2.L.len
      have e2 := X2.cnt
      omega
    simp! [hd2, tBM]
    have lt : (setK (ks ++ ys.take j)).length < 16777216 := by unfold setK; rw [List.length_map]; omega
    have Sd : Same H0 (upd H2 d (.dK (putK (setK (ks ++ ys.take j)) (Sum.inl t) (V.bl true)))) := Same.new X2.S nd
    have g1 : upd H2 d (.dK (putK (setK (ks ++ ys.take j)) (Sum.inl t) (V.bl true))) ll = some (.lst (las'.map V.ref)) := by rw [upd_ne lld]; exact X2.hl
    have g2 : upd H2 d (.dK (putK (setK (ks ++ ys.take j)) (Sum.inl t) (V.bl true))) aj = some (.lst (ws.map V.int)) := by rw [upd_ne nad]; exact ha2
    have KA : ∀ q o, H2 q = some o → q ≠ d → upd H2 d (.dK (putK (setK (ks ++ ys.take j)) (Sum.inl t) (V.bl true))) q = some o := fun q o h n => by rw [upd_ne n]; exact h
    have hdA : upd H2 d (.dK (putK (setK (ks ++ ys.take j)) (Sum.inl t) (V.bl true))) d = some (.dK (setK ((ks ++ ys.take j) ++ [t]))) := by rw [upd_same, setK_put nt]
    have gl : upd H2 d (.dK (putK (setK (ks ++ ys.take j)) (Sum.inl t) (V.bl true))) l = some (.lst (ys.map V.int)) := by rw [upd_ne nld]; exact hl2
    have NA : ∀ p, upd H2 d (.dK (putK (setK (ks ++ ys.take j)) (Sum.inl t) (V.bl true))) p = none → H2 p = none := fun p h => by
      by_cases e : p = d
      · rw [e, upd_same] at h; cases h
      · rw [upd_ne e] at h; exact h
    refine ⟨lt, .inl ⟨rfl, _, .of g1⟩, ?_⟩
    revert Sd g1 g2 KA hdA gl NA
    generalize upd H2 d (.dK (putK (setK (ks ++ ys.take j)) (Sum.inl t) (V.bl true))) = HA
    intro Sd g1 g2 KA hdA gl NA p1 np1
    refine ⟨aj, p1, _, _, rfl, rfl, upd_old g2 np1, upd_same, by rw [List.length_map, sizeLine_eq]; simp; omega, fun p2 np2 => ?_⟩
    have SC : Same HA (upd (upd HA p1 (.lst [.int t])) p2 (.lst (ws.map V.int ++ [.int t]))) := (Same.laid np1).step np2
    have hp2 : upd (upd HA p1 (.lst [.int t])) p2 (.lst (ws.map V.int ++ [.int t])) p2 = some (.lst ((ws ++ [t]).map V.int)) := by rw [upd_same, List.map_append]; rfl
    have np2A := (Same.laid np1).free np2
    revert SC hp2
    generalize upd (upd HA p1 (.lst [.int t])) p2 (.lst (ws.map V.int ++ [.int t])) = HC
    intro SC hp2
    have n2l : p2 ≠ ll := fun e => by rw [e, g1] at np2A; cases np2A
    have et : ys.take (j + 1) = ys.take j ++ [t] := by rw [List.take_succ, ht]; rfl
    refine ⟨ll, _, _, rfl, rfl, SC _ _ g1, by rw [List.length_map, sizeLine_eq]; omega, las' ++ [p2], ?_, by rw [upd_ne naj]; exact SC _ _ g2, by rw [upd_ne nlll]; exact SC _ _ gl⟩
    rw [et, List.map_append, ← List.append_assoc, ← List.append_assoc]
    refine X2.add (fun q o h n1 n2 => by rw [upd_ne n2]; exact SC _ _ (KA _ _ h n1)) (Same.new (Sd.trans SC) nll) (by rw [upd_ne lld.symm]; exact SC _ _ hdA) (by rw [upd_same, List.map_append]; rfl) (by rw [upd_ne n2l]; exact hp2) (NA _ np2A) W (fun y hy => (sub y hy).imp id (List.mem_append_left _)) hl ⟨k, r, rfl, hr, m1⟩ m2 nt (fun e => na (by rw [← e]; exact m1)) t0 t1
  · rintro σ H2 ⟨v8', las', rfl, X2, ha2, hl2⟩
    rw [List.length_map, List.take_length] at X2
    exact q _ las' _ v8' H2 X2 hall

end
end Law

namespace Law
open PySem L2
local macro_rules | `(tactic| simp! [$ls,*]) => `(tactic| simp only [tSeq, tAsg, gName, tVar, tC, tOp, tUn, rI0, rI, rU, tCB, tCons, tNil, tRet, tRetN, tIfS, tTest, tB, tAnd, tOr, tNot, tAndV, tOrV, tNotV, tIf, tDrop, tNext, tCall, tMeth, tIsN, tNotN, L2.start, List.map_cons, List.map_nil, List.length_cons, List.length_nil, List.nil_append, List.cons_append, List.append_nil, Nat.reduceAdd, Nat.reduceSub, Nat.sub_self, List.replicate_succ, List.replicate_zero, List.set_cons_zero, List.set_cons_succ, List.getElem?_cons_zero, List.getElem?_cons_succ, Option.some.injEq, V.int.injEq, V.bl.injEq, V.str.injEq, V.ref.injEq, List.cons.injEq, exists_eq_left', exists_eq_left, exists_and_left, and_true, true_and, if_true, if_false, ite_true, ite_false, Bool.true_eq_false, Bool.false_eq_true, decide_eq_true_eq, Bool.not_true, Bool.not_false, Bool.not_eq_true', decide_eq_false_iff_not, reduceCtorEq, false_and, and_false, exists_false, tTup, tLst, sizeLine_eq, Nat.reduceLeDiff, Nat.zero_le, rEq, rNe, rIxF, rEqF, gSub, rSetL, HO.lst.injEq, HO.tup.injEq, HO.ins.injEq, HO.dK.injEq, scal_int, scal_bl, scal_str, tyF_ref, tyF_int, tyF_bl, tyF_str, tyF_non, lenF_ref, seqV_eq, kindV_eq, tyO_lst, tyO_frz, tyO_tup, tyO_dK, lenO_lst, lenO_frz, lenO_tup, seqO_lst, seqO_frz, seqO_tup, kindO_lst, kindO_frz, kindO_tup, isTys, and_assoc, atI_0, atI_1, atI_2, atI_3, atI_4, upd_same, V.ty.injEq, eq_self_iff_true, and_self, String.reduceEq, or_false, or_true, false_or, true_or, Bool.or_true, Bool.or_false, Bool.true_or, Bool.false_or, Bool.and_false, Bool.false_and, Bool.and_true, Bool.true_and, String.reduceBEq, beq_self_eq_true, tDGetF, tDInF, tDNotInF, sDPutF, keyOf_int, keyOf_str, sFld, tFld, tDNewK, tRaise, tMethE, EX, tFstr, tMake, cxOf_K, Nat.reduceLT, Option.join_some, Option.join_none, not_true_eq_false, not_false_eq_true, gCons, gNil, tChain, rEqE, tAug, ipI, $ls,*])
section
variable {P : Program} {w : World} {K : PySem.W.Frag} {mg : Str → Option Value} {base : Heap} {a : Ad}

set_option maxHeartbeats 4000000 in
theorem ok_round_through (T : Txt K mg a) : FnOk P w K mg base CX0 2 a.f_round_through a.d_round_through ["rows", "at", "bare"] sp_round := by
  refine T.F_round_through.okC sc_round_through (fun vs H Q E h => ?_) (fun cdv A outer s H vs Q E hr h => ?_)
  · obtain ⟨rl, bl, at_, rs, rws, bs, rfl, _⟩ := h
    rfl
  · obtain ⟨rl, bl, at_, rs, rws, bs, rfl, R, F, al, hb, qn, qw⟩ := h
    have hu := hu_of hr
    refine ⟨_, (@pss_cons _ _ _ _ _ (ps_set (i := 3) sc_round_through.nd (by rfl) (Or.inr rfl) pe_dnewK)
      (@pss_cons _ _ _ _ _ (@ps_setL _ 4 _ _ _ _ _ _ sc_round_through.nd (by rfl) (Or.inl rfl) (pa_cons (pe_lst (@pa_cname _ _ _ _ _ _ (pv 1) pa_nil)) pa_nil) (by first | exact .inl (by rfl) | exact .inr (by rfl) | assumption))
      (@pss_cons _ _ _ _ _ (ps_while PassesOwn.never (pt_truth (pv 4) (fun _ => rfl)) (@pss_cons _ _ _ _ _ (ps_set (i := 5) sc_round_through.nd (by rfl) (Or.inl rfl) (pe_lst pa_nil))
      (@pss_cons _ _ _ _ _ (ps_for PassesOwn.never (by rfl) (pi_list (pv 4)) (pg_name (i := 6) sc_round_through.nd (by rfl) (Or.inl rfl))
      (@pss_cons _ _ _ _ _ (ps_set (i := 7) sc_round_through.nd (by rfl) (Or.inl rfl) (pe_call (ok_nexts T) (hr.mono (by decide)) (by rfl) T.m_nexts T.F_nexts.kp T.b_nexts .nil pass0 (@pa_cname _ _ _ _ _ _ (pv 0) (pa_cons (pe_ix ix_F (pv 6) (pe_un un_neg pe_int) (fun _ _ => rfl)) pa_nil))))
      (@pss_cons _ _ _ _ _ (@ps_if _ _ _ _ _ _ _ _ (pt_cmpR op_in_seq (pv 1) (pv 7) (by with_unfolding_all rfl)) (@pss_one _ _ _ (ps_ret (pv 6))) pss_nil)
      (@pss_one _ _ _ (ps_for PassesOwn.never (by rfl) (pi_list (pe_comp (N' := ["t", "bare", "met"]) (cap := [none, some 2, some 3]) ⟨rfl, (by decide +kernel), (by decide +kernel), (by rfl), rfl, (by rfl)⟩ (by rfl) (pi_list (pv 7)) (fun C_ ex_ s_ H_ => (pg_name (i := 0) (show (["t", "bare", "met"] : List Str).Nodup by decide +kernel) (by rfl) (Or.inl rfl))) gkp_name (fun C_ ex_ s_ H_ => (pifs_one (PW.pt (pw_and (pt_cmpR (op_in_seqK (K := K) (by rfl)) (pv 0) (pv 1) (by with_unfolding_all rfl)) (pw_and1 (pt_cmp (pc_dnotinF (by exact hu) (pv 0) (pv 2)))))))) (fun C_ ex_ s_ H_ => (pv 0)))) (pg_name (i := 8) sc_round_through.nd (by rfl) (Or.inl rfl))
      (@pss_cons _ _ _ _ _ (ps_dputF hu (pv 3) (pv 8) pe_bl (by rfl))
      (@pss_one _ _ _ (ps_expr (pe_bm PySem.F.plainAttrs_list PySem.F.slot_list_append PySem.F.type_list_append mt_append (pv 5) (pa_cons (pe_op op_cat (pv 6) (pe_lst (@pa_cname _ _ _ _ _ _ (pv 8) pa_nil))) pa_nil))))))))))
      (@pss_one _ _ _ (ps_set (i := 4) sc_round_through.nd (by rfl) (Or.inl rfl) (pv 5))))))
      (@pss_one _ _ _ (ps_ret pe_non))))), ?_⟩
    simp! []
    intro d nd a1 na1 wl nwl
    have n40 := F.n1
    have S1 : Same H (upd (upd (upd H d (.dK [])) a1 (.lst [.int at_])) wl (.lst [.ref a1])) := ((Same.laid nd).step na1).step nwl
    have hd1 : upd (upd (upd H d (.dK [])) a1 (.lst [.int at_])) wl (.lst [.ref a1]) d = some (.dK (setK [])) := upd_old (upd_old upd_same na1) nwl
    have hw1 : upd (upd (upd H d (.dK [])) a1 (.lst [.int at_])) wl (.lst [.ref a1]) wl = some (.lst ([a1].map V.ref)) := upd_same
    have ha1 : upd (upd (upd H d (.dK [])) a1 (.lst [.int at_])) wl (.lst [.ref a1]) a1 = some (.lst ([(at_ : Int)].map V.int)) := upd_old upd_same nwl
    have na0 : H a1 = none := (Same.laid nd).free na1
    have nw0 : H wl = none := ((Same.laid nd).step na1).free nwl
    revert S1 hd1 hw1 ha1
    generalize upd (upd (upd H d (.dK [])) a1 (.lst [.int at_])) wl (.lst [.ref a1]) = H1
    intro S1 hd1 hw1 ha1
    have W1 : WL H H1 [a1] [[(at_ : Int)]] := ⟨rfl, fun i p ws h1 h2 => by
      cases i with
      | zero => cases h1; cases h2; exact ha1
      | succ i => simp at h1, fun p hp => by rw [List.mem_singleton.mp hp]; exact na0⟩
    refine ⟨fun m σ H2 => ∃ (wl : Addr) (was : List Addr) (wss : List (List Int)) (ks : List Int) (v5 v6 v7 v8 : Option V), σ = [some (.ref rl), some (.int at_), some (.ref bl), some (.ref d), some (.ref wl), v5, v6, v7, v8] ∧ m = 2 * (rws.length - ks.length) + (if wss = [] then 0 else 1) ∧ Same H H2 ∧ H2 d = some (.dK (setK ks)) ∧ H2 wl = some (.lst (was.map V.ref)) ∧ WL H H2 was wss ∧ Bfs rws at_ bs ks wss no ∧ H wl = none,
      ⟨_, wl, [a1], [[(at_ : Int)]], [], _, _, _, _, rfl, rfl, S1, hd1, hw1, W1, Bfs.init, nw0⟩, ?_⟩
    clear S1 hd1 hw1 ha1 na0 nw0 W1 nwl na1
    clear wl a1
    rintro m σ H2 ⟨wl, was, wss, ks, v5, v6, v7, v8, rfl, rfl, S, hd, hw, WL2, B, nwl⟩
    have le := nodup_rng B.nd B.rng
    have lww := WL2.len
    simp! []
    refine ⟨!(was.map V.ref).isEmpty, .inl ⟨_, .of hw, rfl⟩, ?_⟩
    by_cases c0 : was = []
    · subst c0
      have e : wss = [] := List.length_eq_zero_iff.mp lww.symm
      subst e
      rw [if_neg (by simp)]
      exact qn H2 S B.none
    · have c1 : wss ≠ [] := fun e => by rw [e] at lww; exact c0 (List.length_eq_zero_iff.mp lww)
      rw [if_pos (by cases was with | nil => exact absurd rfl c0 | cons x y => rfl)]
      refine ⟨fun σ' H' => ∃ (wl : Addr) (was : List Addr) (wss : List (List Int)) (ks' : List Int) (v5 v6 v7 v8 : Option V), σ' = [some (.ref rl), some (.int at_), some (.ref bl), some (.ref d), some (.ref wl), v5, v6, v7, v8] ∧ Same H H' ∧ H' d = some (.dK (setK ks')) ∧ H' wl = some (.lst (was.map V.ref)) ∧ WL H H' was wss ∧ Bfs rws at_ bs ks' wss no ∧ H wl = none ∧ ks'.length = ks.length + wss.length, ?_, ?_⟩
      · rintro σ' H' ⟨wl, was, wss', ks', v5, v6, v7, v8, rfl, g1, g2, g3, g4, g5, g6, g7⟩
        have le' := nodup_rng g5.nd g5.rng
        refine ⟨_, ?_, wl, was, wss', ks', v5, v6, v7, v8, rfl, rfl, g1, g2, g3, g4, g5, g6⟩
        rw [if_neg c1]
        by_cases e : wss' = []
        · rw [if_pos e]
          rw [e] at g7
          rw [g7, List.length_nil, Nat.add_zero]
          omega
        · rw [if_neg e]
          have := List.length_pos_iff.mpr e
          omega
      · simp! []
        intro ll nll
        have nl0 : H ll = none := S.free nll
        have X0 : BSt rws at_ bs H (upd H2 ll (.lst [])) d wl ll was wss (wss.drop 0) no ks.length ks [] [] := by
          refine ⟨S.step nll, upd_old hd nll, upd_old hw nll, upd_same, WL2.same (Same.laid nll), ⟨rfl, (fun i p ws h _ => by cases h), (fun p hp => by cases hp)⟩, fun p hp e => ?_, fun p hp => (by cases hp), fun e => ?_, by rw [List.drop_zero, List.append_nil]; exact B, rfl⟩
          · obtain ⟨i, hi⟩ := List.mem_iff_getElem?.mp hp
            have il := (List.getElem?_eq_some_iff.mp hi).1
            have := WL2.at_ i p _ hi (List.getElem?_eq_getElem (by omega))
            rw [e, nll] at this; cases this
          · rw [e, nll] at hw; cases hw
        refine forL (H1 := upd H2 ll (.lst [])) wl (was.map V.ref) (fun Q2 h2 => by simp! []; exact h2) (fun j σ H3 => ∃ (v6 v7 v8 : Option V) (ks' : List Int) (las : List Addr) (lss : List (List Int)), σ = [some (.ref rl), some (.int at_), some (.ref bl), some (.ref d), some (.ref wl), some (.ref ll), v6, v7, v8] ∧ BSt rws at_ bs H H3 d wl ll was wss (wss.drop j) no ks.length ks' las lss)
          ⟨_, _, _, ks, [], [], rfl, X0⟩ ?_ ?_ ?_
        · rintro j σ H3 hj ⟨v6, v7, v8, ks', las, lss, rfl, X⟩
          exact .of X.hw
        · rintro j x σ H3 hj ⟨v6, v7, v8, ks', las, lss, rfl, X⟩
          obtain ⟨aj, haj, rfl⟩ := of_map_get hj
          have jl : j < wss.length := by rw [← lww]; exact (List.getElem?_eq_some_iff.mp haj).1
          have hwj := List.getElem?_eq_getElem jl
          have ed : wss.drop j = wss[j] :: wss.drop (j + 1) := List.drop_eq_getElem_cons jl
          revert hwj ed
          generalize wss[j] = ws
          intro hwj ed
          have h3 := X.W.at_ j aj ws haj hwj
          have BX := X.B
          rw [ed] at BX
          obtain ⟨Wy, sub⟩ := BX.way ws (by simp)
          have l0 : 0 < ws.length := (List.getElem?_eq_some_iff.mp Wy.hd).1
          have rng : ∀ y ∈ ws, 0 ≤ y ∧ y < rws.length := fun y hy => by
            rcases sub y hy with e | e
            · rw [e]; omega
            · exact X.B.rng y e
          have lw := nodup_rng Wy.nd rng
          obtain ⟨w0, y, rfl⟩ : ∃ w0 y, ws = w0 ++ [y] := ⟨ws.dropLast, ws.getLast (by intro e; rw [e] at l0; simp at l0), (List.dropLast_concat_getLast _).symm⟩
          have hlast : (w0 ++ [y]).getLast? = some y := by simp
          obtain ⟨y0, y1⟩ := rng y (by simp)
          obtain ⟨k, rfl⟩ := Int.eq_ofNat_of_zero_le y0
          have kl : k < rws.length := by omega
          have hrk := List.getElem?_eq_getElem kl
          obtain ⟨words, sg, rf, _⟩ := F.fit _ (List.mem_of_getElem? hrk)
          revert hrk rf
          generalize rws[k] = r
          intro hrk rf
          have al2 : atI ((w0 ++ [(k : Int)]).map V.int) (-1) = some (.int k) := by rw [List.map_append]; exact atI_last _ _
          simp! [h3, al2]
          refine ⟨rl, k, rs, rws, r, words, rws.length, sg, rfl, R.same X.S, hrk, rf, by omega, by omega, fun l1 H4 nl1 S4 hl1 => ?_⟩
          refine rIn_ints hl1 ?_
          rw [if_neg Bool.false_ne_true]
          refine ⟨_, rfl, ?_⟩
          have X4 := X.same S4
          by_cases m : (at_ : Int) ∈ nxt r k
          · rw [if_pos (by simpa using m)]
            exact qw aj (w0 ++ [(k : Int)]) k H4 X4.S (X.W.new aj (List.mem_of_getElem? haj)) (S4 _ _ h3) Wy hlast ⟨k, r, rfl, hrk, m⟩
          · rw [if_neg (by simpa using m)]
            have X5 : BSt rws at_ bs H H4 d wl ll was wss (wss.drop (j + 1)) (fun x => (w0 ++ [(k : Int)]).getLast? = some x) ks.length ks' las lss := ⟨X4.S, X4.hd, X4.hw, X4.hl, X4.W, X4.L, X4.nw, X4.nl, X4.nwl, BX.pop, X4.cnt⟩
            refine bfs_t F nd nl0 hb X5 (S4 _ _ h3) (X.nw aj (List.mem_of_getElem? haj)) hl1 Wy sub hlast hrk m (by omega) fun ks2 las2 lss2 v8' H5 X6 hall => ?_
            refine ⟨_, _, _, rfl, ks2, las2, lss2, X6.S, X6.hd, X6.hw, X6.hl, X6.W, X6.L, X6.nw, X6.nl, X6.nwl, X6.B.end_ hlast ?_ ?_, X6.cnt⟩
            · rintro ⟨k', r', e, h1, h2⟩
              have : k = k' := by omega
              subst this
              rw [hrk] at h1
              cases h1
              exact m h2
            · rintro z ⟨k', r', e, h1, h2⟩ zb
              have : k = k' := by omega
              subst this
              rw [hrk] at h1
              cases h1
              exact hall z h2 zb
        · rintro σ H3 ⟨v6, v7, v8, ks', las, lss, rfl, X⟩
          rw [List.length_map, lww] at X
          have BX := X.B
          rw [List.drop_length, List.nil_append] at BX
          simp! []
          exact ⟨⟨_, rfl⟩, X.S, las, lss, ks', X.hd, X.hl, X.L, BX, nl0, X.cnt⟩

end
end Law

namespace Law
open PySem L2
local macro_rules | `(tactic| simp! [$ls,*]) => `(tactic| simp only [tSeq, tAsg, gName, tVar, tC, tOp, tUn, rI0, rI, rU, tCB, tCons, tNil, tRet, tRetN, tIfS, tTest, tB, tAnd, tOr, tNot, tAndV, tOrV, tNotV, tIf, tDrop, tNext, tCall, tMeth, tIsN, tNotN, L2.start, List.map_cons, List.map_nil, List.length_cons, List.length_nil, List.nil_append, List.cons_append, List.append_nil, Nat.reduceAdd, Nat.reduceSub, Nat.sub_self, List.replicate_succ, List.replicate_zero, List.set_cons_zero, List.set_cons_succ, List.getElem?_cons_zero, List.getElem?_cons_succ, Option.some.injEq, V.int.injEq, V.bl.injEq, V.str.injEq, V.ref.injEq, List.cons.injEq, exists_eq_left', exists_eq_left, exists_and_left, and_true, true_and, if_true, if_false, ite_true, ite_false, Bool.true_eq_false, Bool.false_eq_true, decide_eq_true_eq, Bool.not_true, Bool.not_false, Bool.not_eq_true', decide_eq_false_iff_not, reduceCtorEq, false_and, and_false, exists_false, tTup, tLst, sizeLine_eq, Nat.reduceLeDiff, Nat.zero_le, rEq, rNe, rIxF, rEqF, gSub, rSetL, HO.lst.injEq, HO.tup.injEq, HO.ins.injEq, HO.dK.injEq, scal_int, scal_bl, scal_str, tyF_ref, tyF_int, tyF_bl, tyF_str, tyF_non, lenF_ref, seqV_eq, kindV_eq, tyO_lst, tyO_frz, tyO_tup, tyO_dK, lenO_lst, lenO_frz, lenO_tup, seqO_lst, seqO_frz, seqO_tup, kindO_lst, kindO_frz, kindO_tup, isTys, and_assoc, atI_0, atI_1, atI_2, atI_3, atI_4, upd_same, V.ty.injEq, eq_self_iff_true, and_self, String.reduceEq, or_false, or_true, false_or, true_or, Bool.or_true, Bool.or_false, Bool.true_or, Bool.false_or, Bool.and_false, Bool.false_and, Bool.and_true, Bool.true_and, String.reduceBEq, beq_self_eq_true, tDGetF, tDInF, tDNotInF, sDPutF, keyOf_int, keyOf_str, sFld, tFld, tDNewK, tRaise, tMethE, EX, tFstr, tMake, cxOf_K, Nat.reduceLT, Option.join_some, Option.join_none, not_true_eq_false, not_false_eq_true, gCons, gNil, tChain, rEqE, tAug, ipI, $ls,*])
section
variable {P : Program} {w : World} {K : PySem.W.Frag} {mg : Str → Option Value} {base : Heap} {a : Ad}

structure Cbs (rws : List Row) (at_ : Int) (ss ks td : List Int) (hold : Int → Prop) : Prop where
  nd : ks.Nodup
  rng : ∀ x ∈ ks, 0 ≤ x ∧ x < rws.length
  rc : ∀ x ∈ ks, Rc rws at_ (· ∈ ss) x
  sub : ∀ x ∈ td, x = at_ ∨ x ∈ ks
  cl : ∀ x, (x = at_ ∨ x ∈ ks) → x ∉ td → ¬ hold x → ¬ Nx rws x at_ ∧ ∀ y, Nx rws x y → y ∈ ss → y ∈ ks
theorem Cbs.init {rws : List Row} {at_ : Int} {ss : List Int} : Cbs rws at_ ss [] [at_] no :=
  ⟨by simp, by simp, by simp, fun x hx => .inl (List.mem_singleton.mp hx), fun x h1 h2 _ => by
    rcases h1 with e | e
    · exact absurd (by rw [e]; simp) h2
    · cases e⟩
theorem Cbs.pop {rws : List Row} {at_ x : Int} {ss ks td : List Int} (C : Cbs rws at_ ss ks (td ++ [x]) no) : Cbs rws at_ ss ks td (· = x) :=
  ⟨C.nd, C.rng, C.rc, fun y hy => C.sub y (List.mem_append_left _ hy), fun z h1 h2 h3 => C.cl z h1 (fun m => by
    rcases List.mem_append.mp m with m | m
    · exact h2 m
    · exact h3 (List.mem_singleton.mp m)) (fun z => z)⟩
theorem Cbs.add {rws : List Row} {at_ x t : Int} {ss ks td : List Int} {hold : Int → Prop} (C : Cbs rws at_ ss ks td hold) (hx : x = at_ ∨ x ∈ ks) (n : Nx rws x t) (ts : t ∈ ss) (nt : t ∉ ks) (t0 : 0 ≤ t) (t1 : t < rws.length) : Cbs rws at_ ss (ks ++ [t]) (td ++ [t]) hold := by
  have rx : Rc rws at_ (· ∈ ss) x := by
    rcases hx with e | e
    · rw [e]; exact .base
    · exact C.rc x e
  refine ⟨?_, fun y hy => ?_, fun y hy => ?_, fun y hy => ?_, fun z h1 h2 h3 => ?_⟩
  · rw [List.nodup_append]
    exact ⟨C.nd, by simp, fun a ha b hb e => nt (by rw [← List.mem_singleton.mp hb, ← e]; exact ha)⟩
  · rcases List.mem_append.mp hy with m | m
    · exact C.rng y m
    · rw [List.mem_singleton.mp m]; exact ⟨t0, t1⟩
  · rcases List.mem_append.mp hy with m | m
    · exact C.rc y m
    · rw [List.mem_singleton.mp m]; exact .step rx n ts
  · rcases List.mem_append.mp hy with m | m
    · exact (C.sub y m).imp id (List.mem_append_left _)
    · exact .inr (List.mem_append_right _ m)
  · have nzt : z ≠ t := fun e => h2 (by rw [e]; simp)
    obtain ⟨g1, g2⟩ := C.cl z (h1.imp id fun m => by
      rcases List.mem_append.mp m with m | m
      · exact m
      · exact absurd (List.mem_singleton.mp m) nzt) (fun m => h2 (List.mem_append_left _ m)) h3
    exact ⟨g1, fun y ny yb => List.mem_append_left _ (g2 y ny yb)⟩
theorem Cbs.end_ {rws : List Row} {at_ x : Int} {ss ks td : List Int} (C : Cbs rws at_ ss ks td (· = x)) (na : ¬ Nx rws x at_) (h : ∀ y, Nx rws x y → y ∈ ss → y ∈ ks) : Cbs rws at_ ss ks td no :=
  ⟨C.nd, C.rng, C.rc, C.sub, fun z h1 h2 _ => by
    by_cases c : z = x
    · rw [c]; exact ⟨na, h⟩
    · exact C.cl z h1 h2 c⟩
theorem Cbs.none {rws : List Row} {at_ : Int} {ss ks : List Int} (C : Cbs rws at_ ss ks [] no) : ¬ CB rws at_ (· ∈ ss) := by
  rintro ⟨x, r, n⟩
  have key : ∀ z, Rc rws at_ (· ∈ ss) z → z = at_ ∨ z ∈ ks := by
    intro z h
    induction h with
    | base => exact .inl rfl
    | step _ n' s ih => exact .inr ((C.cl _ ih (by simp) (fun z => z)).2 _ n' s)
  exact (C.cl x (key x r) (by simp) (fun z => z)).1 n
theorem Nx.of {rws : List Row} {k : Nat} {r : Row} {y : Int} (hr : rws[k]? = some r) : Nx rws k y ↔ y ∈ nxt r k := by
  constructor
  · rintro ⟨k', r', e, h1, h2⟩
    have : k = k' := by omega
    subst this
    rw [hr] at h1
    cases h1
    exact h2
  · exact fun h => ⟨k, r, rfl, hr, h⟩

end
end Law

namespace Law
open PySem L2
local macro_rules | `(tactic| simp! [$ls,*]) => `(tactic| simp only [tSeq, tAsg, gName, tVar, tC, tOp, tUn, rI0, rI, rU, tCB, tCons, tNil, tRet, tRetN, tIfS, tTest, tB, tAnd, tOr, tNot, tAndV, tOrV, tNotV, tIf, tDrop, tNext, tCall, tMeth, tIsN, tNotN, L2.start, List.map_cons, List.map_nil, List.length_cons, List.length_nil, List.nil_append, List.cons_append, List.append_nil, Nat.reduceAdd, Nat.reduceSub, Nat.sub_self, List.replicate_succ, List.replicate_zero, List.set_cons_zero, List.set_cons_succ, List.getElem?_cons_zero, List.getElem?_cons_succ, Option.some.injEq, V.int.injEq, V.bl.injEq, V.str.injEq, V.ref.injEq, List.cons.injEq, exists_eq_left', exists_eq_left, exists_and_left, and_true, true_and, if_true, if_false, ite_true, ite_false, Bool.true_eq_false, Bool.false_eq_true, decide_eq_true_eq, Bool.not_true, Bool.not_false, Bool.not_eq_true', decide_eq_false_iff_not, reduceCtorEq, false_and, and_false, exists_false, tTup, tLst, sizeLine_eq, Nat.reduceLeDiff, Nat.zero_le, rEq, rNe, rIxF, rEqF, gSub, rSetL, HO.lst.injEq, HO.tup.injEq, HO.ins.injEq, HO.dK.injEq, scal_int, scal_bl, scal_str, tyF_ref, tyF_int, tyF_bl, tyF_str, tyF_non, lenF_ref, seqV_eq, kindV_eq, tyO_lst, tyO_frz, tyO_tup, tyO_dK, lenO_lst, lenO_frz, lenO_tup, seqO_lst, seqO_frz, seqO_tup, kindO_lst, kindO_frz, kindO_tup, isTys, and_assoc, atI_0, atI_1, atI_2, atI_3, atI_4, upd_same, V.ty.injEq, eq_self_iff_true, and_self, String.reduceEq, or_false, or_true, false_or, true_or, Bool.or_true, Bool.or_false, Bool.true_or, Bool.false_or, Bool.and_false, Bool.false_and, Bool.and_true, Bool.true_and, String.reduceBEq, beq_self_eq_true, tDGetF, tDInF, tDNotInF, sDPutF, keyOf_int, keyOf_str, sFld, tFld, tDNewK, tRaise, tMethE, EX, tFstr, tMake, cxOf_K, Nat.reduceLT, Option.join_some, Option.join_none, not_true_eq_false, not_false_eq_true, gCons, gNil, tChain, rEqE, tAug, ipI, $ls,*])
section
variable {P : Program} {w : World} {K : PySem.W.Frag} {mg : Str → Option Value} {base : Heap} {a : Ad}

def Told (rws : List Row) (ns : List Int) : Prop := ns.Pairwise (· < ·) ∧ (∀ x ∈ ns, Bare rws x) ∧ ∀ x, Bare rws x → (x ∈ ns ↔ CB rws x (fun y => Bare rws y ∧ y ∉ ns ∧ x < y))
def sp_told : Sp := fun vs H Q _ => ∃ (rl : Addr) (rs : List Addr) (rws : List Row), vs = [.ref rl] ∧ RowsOf H rl rs rws ∧ RowsFit rws ∧ ∀ (l : Addr) (ns : List Int) (H' : Hp), Same H H' → H l = none → Told rws ns → H' l = some (.lst (ns.map V.int)) → Q (.ref l) H'
structure TldSt (rws : List Row) (ds tds : List Int) (j : Nat) : Prop where
  nd : tds.Nodup
  sub : ∀ x ∈ tds, x ∈ ds.take j
  iff_ : ∀ x ∈ ds.take j, (x ∈ tds ↔ CB rws x (fun y => Bare rws y ∧ y ∉ tds ∧ x < y))
theorem gt_take {ds : List Int} {j : Nat} {t : Int} (up : ds.Pairwise (· > ·)) (h : ds[j]? = some t) : ∀ x ∈ ds.take j, t < x := by
  intro x hx
  obtain ⟨i, hi, e⟩ := List.mem_take_iff_getElem.mp hx
  have jl := (List.getElem?_eq_some_iff.mp h).1
  have := List.pairwise_iff_getElem.mp up i j (by omega) jl (by omega)
  rw [e, (List.getElem?_eq_some_iff.mp h).2] at this
  exact this
theorem TldSt.yes {rws : List Row} {ds tds : List Int} {j : Nat} {t : Int} (X : TldSt rws ds tds j) (up : ds.Pairwise (· > ·)) (h : ds[j]? = some t) (cb : CB rws t (fun y => Bare rws y ∧ y ∉ tds ∧ t < y)) : TldSt rws ds (tds ++ [t]) (j + 1) := by
  have gt := gt_take up h
  have nt : t ∉ tds := fun m => by have := gt t (X.sub t m); omega
  have et : ds.take (j + 1) = ds.take j ++ [t] := by rw [List.take_succ, h]; rfl
  have key : ∀ x, t ≤ x → (CB rws x (fun y => Bare rws y ∧ y ∉ tds ∧ x < y) ↔ CB rws x (fun y => Bare rws y ∧ y ∉ tds ++ [t] ∧ x < y)) := fun x hx => by
    refine CB.congr fun y _ => ⟨fun ⟨h1, h2, h3⟩ => ⟨h1, fun m => ?_, h3⟩, fun ⟨h1, h2, h3⟩ => ⟨h1, fun m => h2 (List.mem_append_left _ m), h3⟩⟩
    rcases List.mem_append.mp m with m | m
    · exact h2 m
    · have := List.mem_singleton.mp m; omega
  refine ⟨?_, fun x hx => ?_, fun x hx => ?_⟩
  · rw [List.nodup_append]
    exact ⟨X.nd, by simp, fun a ha b hb e => nt (by rw [← List.mem_singleton.mp hb, ← e]; exact ha)⟩
  · rw [et]
    rcases List.mem_append.mp hx with m | m
    · exact List.mem_append_left _ (X.sub x m)
    · exact List.mem_append_right _ m
  · rw [et] at hx
    rcases List.mem_append.mp hx with m | m
    · have g := gt x m
      rw [← key x (by omega), ← X.iff_ x m, List.mem_append, List.mem_singleton]
      exact ⟨fun z => z.elim id (fun e => by omega), .inl⟩
    · rw [List.mem_singleton.mp m, ← key t (by omega)]
      exact ⟨fun _ => cb, fun _ => by simp⟩
theorem TldSt.non {rws : List Row} {ds tds : List Int} {j : Nat} {t : Int} (X : TldSt rws ds tds j) (up : ds.Pairwise (· > ·)) (h : ds[j]? = some t) (cb : ¬ CB rws t (fun y => Bare rws y ∧ y ∉ tds ∧ t < y)) : TldSt rws ds tds (j + 1) := by
  have gt := gt_take up h
  have nt : t ∉ tds := fun m => by have := gt t (X.sub t m); omega
  have et : ds.take (j + 1) = ds.take j ++ [t] := by rw [List.take_succ, h]; rfl
  refine ⟨X.nd, fun x hx => ?_, fun x hx => ?_⟩
  · rw [et]; exact List.mem_append_left _ (X.sub x hx)
  · rw [et] at hx
    rcases List.mem_append.mp hx with m | m
    · exact X.iff_ x m
    · rw [List.mem_singleton.mp m]
      exact ⟨fun z => absurd z nt, fun z => absurd z cb⟩
set_option maxHeartbeats 4000000 in
theorem ok_told_rests (T : Txt K mg a) : FnOk P w K mg base CX0 4 a.f_told_rests a.d_told_rests ["rows"] sp_told := by
  refine T.F_told_rests.okC sc_told_rests (fun vs H Q E h => ?_) (fun cdv A outer s H vs Q E hr h => ?_)
  · obtain ⟨rl, rs, rws, rfl, _⟩ := h
    rfl
  · obtain ⟨rl, rs, rws, rfl, R, F, q⟩ := h
    have hu := hu_of hr
    have n40 := F.n1
    refine ⟨_, (@pss_cons _ _ _ _ _ (ps_set (i := 1) sc_told_rests.nd (by rfl) (Or.inl rfl) (pe_lst pa_nil))
      (@pss_cons _ _ _ _ _ (ps_for PassesOwn.never (by rfl) (pi_list (pe_sorted_rev (K := K) (by rfl) (by rfl) T.z_sorted (pe_call (ok_bare_rows T) (hr.mono (by decide)) (by rfl) T.m_bare_rows T.F_bare_rows.kp T.b_bare_rows .nil pass0 (@pa_cname _ _ _ _ _ _ (pv 0) (pa_cons (pe_lst pa_nil) pa_nil))))) (pg_name (i := 2) sc_told_rests.nd (by rfl) (Or.inr rfl))
      (@pss_cons _ _ _ _ _ (ps_setc (i := 3) sc_told_rests.nd (by rfl) (Or.inl rfl) (N' := ["t", "at"]) (cap := [none, some 2]) ⟨rfl, (by decide +kernel), (by decide +kernel), (by rfl), rfl, (by rfl)⟩ (by rfl) (pi_list (pe_call (ok_bare_rows T) (hr.mono (by decide)) (by rfl) T.m_bare_rows T.F_bare_rows.kp T.b_bare_rows .nil pass0 (@pa_cname _ _ _ _ _ _ (pv 0) (@pa_cname _ _ _ _ _ _ (pv 1) pa_nil)))) (fun C_ ex_ s_ H_ => (pg_name (i := 0) (show (["t", "at"] : List Str).Nodup by decide +kernel) (by rfl) (Or.inl rfl))) gkp_name (fun C_ ex_ s_ H_ => (pifs_one (pt_cmpR op_ge (pv 0) (pv 1) (nomark _)))) (fun C_ ex_ s_ H_ => (pv 0)))
      (@pss_one _ _ _ (@ps_if _ _ _ _ _ _ _ _ (pt_cmp (pc_notN (pe_call (ok_round_through T) (hr.mono (by decide)) (by rfl) T.m_round_through T.F_round_through.kp T.b_round_through .nil pass0 (@pa_cname _ _ _ _ _ _ (pv 0) (@pa_cname _ _ _ _ _ _ (pv 2) (@pa_cname _ _ _ _ _ _ (pv 3) pa_nil)))))) (@pss_one _ _ _ (ps_expr (pe_bm PySem.F.plainAttrs_list PySem.F.slot_list_append PySem.F.type_list_append mt_append (pv 1) (@pa_cname _ _ _ _ _ _ (pv 2) pa_nil)))) pss_nil))))
      (@pss_one _ _ _ (ps_ret (pe_callB call_sorted_list (by rfl) T.z_sorted (by decide +kernel) (@pa_cname _ _ _ _ _ _ (pv 1) pa_nil)))))), ?_⟩
    simp! []
    intro tl ntl
    refine forL_ (fun l H1 => ∃ ds : List Int, H1 l = some (.lst (ds.map V.int)) ∧ Same (upd H tl (.lst [])) H1 ∧ upd H tl (.lst []) l = none ∧ ds.Pairwise (· > ·) ∧ ∀ x, x ∈ ds ↔ Bare rws x) (fun Q2 hQ => ?_) ?_
    · simp! [tSortR]
      intro e ne
      refine ⟨rl, e, rs, rws, [], rfl, (R.same (Same.laid ntl)).same (Same.laid ne), F, upd_same, fun bl ns H1 S1 nbl BL hbl => ?_⟩
      have lns : ns.length ≤ 40 := by
        have := nodup_rng (n := rws.length) (BL.1.imp fun h => by omega) fun x hx => rch_in F ((BL.2 x).mp hx).1.1
        omega
      refine ⟨bl, rfl, ns, .of hbl, by omega, fun l ds nl pm st => hQ l _ ⟨ds, upd_same, ((Same.laid ne).trans S1).step nl, ((Same.laid ne).trans S1).free nl, ?_, fun x => ?_⟩⟩
      · have n2 : ds.Nodup := pm.nodup_iff.mpr (BL.1.imp fun h => by omega)
        exact (st.and n2).imp fun {a b} h => by
          have h1 := h.1
          have h2 := h.2
          omega
      · rw [pm.mem_iff, BL.2 x]
        simp
    rintro sl H1 ⟨ds, hs1, S1, nsl, up, mem⟩
    have ht1 := S1 _ _ (upd_same (H := H) (a := tl) (o := .lst []))
    have S01 : Same H H1 := (Same.laid ntl).trans S1
    have nst : sl ≠ tl := fun e => by rw [e, upd_same] at nsl; cases nsl
    refine forL (H1 := H1) sl (ds.map V.int) (fun Q2 h2 => h2) (fun j σ H2 => ∃ (v2 v3 : Option V) (tds : List Int), σ = [some (.ref rl), some (.ref tl), v2, v3] ∧ Same H H2 ∧ H2 tl = some (.lst (tds.map V.int)) ∧ H2 sl = some (.lst (ds.map V.int)) ∧ TldSt rws ds tds j)
      ⟨_, _, [], rfl, S01, ht1, hs1, by simp, by simp, by simp⟩ ?_ ?_ ?_
    · rintro j σ H2 hj ⟨_, _, _, _, _, _, h, _⟩
      exact .of h
    · rintro j x σ H2 hj ⟨v2, v3, tds, rfl, S2, ht2, hs2, X⟩
      obtain ⟨t, ht, rfl⟩ := of_map_get hj
      have bt := (mem t).mp (List.mem_of_getElem? ht)
      obtain ⟨t0, t1⟩ := rch_in F bt.1
      obtain ⟨k, rfl⟩ := Int.eq_ofNat_of_zero_le t0
      have ltd : tds.length ≤ 40 := by
        have := nodup_rng (n := rws.length) X.nd fun x hx => rch_in F ((mem x).mp (List.mem_of_mem_take (X.sub x hx))).1
        omega
      simp! []
      refine compL_ (fun l H3 => ∃ ns : List Int, H3 l = some (.lst (ns.map V.int)) ∧ Same H2 H3 ∧ BareL rws tds ns) (fun Q2 hQ => ?_) ?_
      · simp! []
        exact ⟨rl, tl, rs, rws, tds, rfl, R.same S2, F, ht2, fun l ns H3 S3 _ BL hl => hQ l H3 ⟨ns, hl, S3, BL⟩⟩
      rintro l H3 ⟨ns, hl, S3, BL⟩
      have lns : ns.length ≤ 40 := by
        have := nodup_rng (n := rws.length) (BL.1.imp fun h => by omega) fun x hx => rch_in F ((BL.2 x).mp hx).1.1
        omega
      refine compLS l (ns.map V.int) (pickF fun i => decide ((k : Int) ≤ i)) (fun Q2 h2 => h2) (.of hl) (by rw [List.length_map, sizeLine_eq]; omega) ?_ ?_
      · intro x H4 R2 N hx S4 hR hN
        obtain ⟨i, hi, rfl⟩ := List.mem_map.mp hx
        simp! [capSt]
        by_cases c : (k : Int) ≤ i
        · rw [if_pos c]
          exact hR _ _ (by show (if decide ((k : Int) ≤ i) = true then some (V.int i) else none) = _; rw [if_pos (by simpa using c)]) (Same.refl _)
        · rw [if_neg c]
          exact hN (by show (if decide ((k : Int) ≤ i) = true then some (V.int i) else none) = _; rw [if_neg (by simpa using c)]) _ (Same.refl _)
      · intro D H4 hD S4 e4
        rw [fm_pick] at e4
        simp! []
        have S24 := S3.trans S4
        have eqv : CB rws k (· ∈ ns.filter fun i => decide ((k : Int) ≤ i)) ↔ CB rws k (fun y => Bare rws y ∧ y ∉ tds ∧ (k : Int) < y) := CB.congr fun y ny => by
          rw [List.mem_filter, BL.2 y, decide_eq_true_eq, and_assoc]
          exact ⟨fun ⟨h1, h2, h3⟩ => ⟨h1, h2, by omega⟩, fun ⟨h1, h2, h3⟩ => ⟨h1, h2, by omega⟩⟩
        refine ⟨rl, D, k, rs, rws, _, rfl, (R.same S2).same S24, F, by omega, e4, fun H5 S5 ncb => ?_, fun p ws y H5 S5 np hp W hl5 n5 => ?_⟩
        · dsimp only
          rw [if_pos rfl]
          have S25 := S24.trans S5
          exact ⟨S2.trans S25, tds, S25 _ _ ht2, S25 _ _ hs2, X.non up ht fun z => ncb (eqv.mpr z)⟩
        · dsimp only
          rw [if_neg (by intro z; cases z)]
          have S25 := S24.trans S5
          have ht5 := S25 _ _ ht2
          simp! [tBM]
          refine ⟨.inl ⟨rfl, _, .of ht5⟩, tl, _, _, rfl, rfl, ht5, by rw [List.length_map, sizeLine_eq]; omega, Same.new (S2.trans S25) ntl, tds ++ [(k : Int)], by rw [upd_same, List.map_append]; rfl, by rw [upd_ne nst]; exact S25 _ _ hs2, X.yes up ht (eqv.mp (W.cb hl5 n5))⟩
    · rintro σ H2 ⟨v2, v3, tds, rfl, S2, ht2, hs2, X⟩
      simp! []
      rw [List.length_map] at X
      have sub : ∀ x ∈ tds, Bare rws x := fun x hx => (mem x).mp (List.mem_of_mem_take (X.sub x hx))
      have ltd : tds.length ≤ 40 := by
        have := nodup_rng (n := rws.length) X.nd fun x hx => rch_in F (sub x hx).1
        omega
      refine ⟨tds, .of ht2, by omega, fun l ns nl pm st => ?_⟩
      refine q l ns _ (S2.step nl) (S2.free nl) ⟨rise_of pm X.nd st, fun x hx => sub x (pm.mem_iff.mp hx), fun x bx => ?_⟩ upd_same
      rw [pm.mem_iff, X.iff_ x (by rw [List.take_length]; exact (mem x).mpr bx)]
      exact CB.congr fun y _ => by rw [pm.mem_iff]

end
end Law

namespace Law
open PySem L2
local macro_rules | `(tactic| simp! [$ls,*]) => `(tactic| simp only [tSeq, tAsg, gName, tVar, tC, tOp, tUn, rI0, rI, rU, tCB, tCons, tNil, tRet, tRetN, tIfS, tTest, tB, tAnd, tOr, tNot, tAndV, tOrV, tNotV, tIf, tDrop, tNext, tCall, tMeth, tIsN, tNotN, L2.start, List.map_cons, List.map_nil, List.length_cons, List.length_nil, List.nil_append, List.cons_append, List.append_nil, Nat.reduceAdd, Nat.reduceSub, Nat.sub_self, List.replicate_succ, List.replicate_zero, List.set_cons_zero, List.set_cons_succ, List.getElem?_cons_zero, List.getElem?_cons_succ, Option.some.injEq, V.int.injEq, V.bl.injEq, V.str.injEq, V.ref.injEq, List.cons.injEq, exists_eq_left', exists_eq_left, exists_and_left, and_true, true_and, if_true, if_false, ite_true, ite_false, Bool.true_eq_false, Bool.false_eq_true, decide_eq_true_eq, Bool.not_true, Bool.not_false, Bool.not_eq_true', decide_eq_false_iff_not, reduceCtorEq, false_and, and_false, exists_false, tTup, tLst, sizeLine_eq, Nat.reduceLeDiff, Nat.zero_le, rEq, rNe, rIxF, rEqF, gSub, rSetL, HO.lst.injEq, HO.tup.injEq, HO.ins.injEq, HO.dK.injEq, scal_int, scal_bl, scal_str, tyF_ref, tyF_int, tyF_bl, tyF_str, tyF_non, lenF_ref, seqV_eq, kindV_eq, tyO_lst, tyO_frz, tyO_tup, tyO_dK, lenO_lst, lenO_frz, lenO_tup, seqO_lst, seqO_frz, seqO_tup, kindO_lst, kindO_frz, kindO_tup, isTys, and_assoc, atI_0, atI_1, atI_2, atI_3, atI_4, upd_same, V.ty.injEq, eq_self_iff_true, and_self, String.reduceEq, or_false, or_true, false_or, true_or, Bool.or_true, Bool.or_false, Bool.true_or, Bool.false_or, Bool.and_false, Bool.false_and, Bool.and_true, Bool.true_and, String.reduceBEq, beq_self_eq_true, tDGetF, tDInF, tDNotInF, sDPutF, keyOf_int, keyOf_str, sFld, tFld, tDNewK, tRaise, tMethE, EX, tFstr, tMake, cxOf_K, Nat.reduceLT, Option.join_some, Option.join_none, not_true_eq_false, not_false_eq_true, gCons, gNil, tChain, rEqE, tAug, ipI, $ls,*])
section
variable {P : Program} {w : World} {K : PySem.W.Frag} {mg : Str → Option Value} {base : Heap} {a : Ad}

theorem Rc.pre {rws : List Row} {x u y : Int} {S : Int → Prop} (n : Nx rws x u) (s : S u) (r : Rc rws u S y) : Rc rws x S y := by
  induction r with
  | base => exact .step .base n s
  | step _ n' s' ih => exact .step ih n' s'
theorem cb_of {rws : List Row} {x u : Int} {S : Int → Prop} (n : Nx rws x u) (s : S u) (r : Rc rws u S x) : CB rws x S := by
  cases r with
  | base => exact ⟨x, .base, n⟩
  | step r' n' s' => exact ⟨_, r'.pre n s, n'⟩
open Classical in
theorem no_last {rws : List Row} {S : Int → Prop} (hn : ∀ x, S x → ¬ CB rws x S) : ∀ (m : Nat) (ls : List Int), ls.length ≤ m → (∀ x ∈ ls, S x ∧ ∃ y, Nx rws x y ∧ y ∈ ls) → ls = [] := by
  intro m
  induction m with
  | zero => intro ls h _; exact List.length_eq_zero_iff.mp (by omega)
  | succ m ih =>
    intro ls hl hs
    cases ls with
    | nil => rfl
    | cons x r =>
      exfalso
      have hx := hs x List.mem_cons_self
      let R1 : Int → Prop := fun y => ∃ u, Nx rws x u ∧ S u ∧ Rc rws u S y
      have nx : ¬ R1 x := fun ⟨u, n, su, rc⟩ => hn x hx.1 (cb_of n su rc)
      have lt : ((x :: r).filter fun y => decide (R1 y)).length < (x :: r).length := List.length_filter_lt_length_iff_exists.mpr ⟨x, List.mem_cons_self, by simpa using nx⟩
      have e := ih ((x :: r).filter fun y => decide (R1 y)) (by omega) fun y hy => by
        obtain ⟨h1, h2⟩ := List.mem_filter.mp hy
        obtain ⟨s1, z, nz, hz⟩ := hs y h1
        obtain ⟨u, n, su, rc⟩ : R1 y := by simpa using h2
        exact ⟨s1, z, nz, List.mem_filter.mpr ⟨hz, by simpa using (⟨u, n, su, .step rc nz (hs z hz).1⟩ : R1 z)⟩⟩
      obtain ⟨_, y, ny, hy⟩ := hx
      have : y ∈ (x :: r).filter fun y => decide (R1 y) := List.mem_filter.mpr ⟨hy, by simpa using (⟨y, ny, (hs y hy).1, .base⟩ : R1 y)⟩
      rw [e] at this
      cases this
def rfA (v : V) : Option Addr := match v with
  | .ref p => some p
  | _ => none
def rfV (v : V) : Option V := (rfA v).map V.ref
def sp_bround : Sp := fun vs H Q _ => ∃ (rl sl : Addr) (rs : List Addr) (rws : List Row) (ms : List Int), vs = [.ref rl, .ref sl] ∧ RowsOf H rl rs rws ∧ RowsFit rws ∧ H sl = some (.lst (ms.map V.int)) ∧
  (∀ H', Same H H' → (∀ x, Bare rws x → x ∉ ms → ¬ CB rws x (fun y => Bare rws y ∧ y ∉ ms)) → Q .non H') ∧
  ∀ (p : Addr) (ns ws : List Int) (at_ x : Int) (H' : Hp), Same H H' → H p = none → H' p = some (.lst (ws.map V.int)) → BareL rws ms ns → at_ ∈ ns → Way rws at_ ns ws → ws.getLast? = some x → Nx rws x at_ → Q (.ref p) H'
def RdAt (rws : List Row) (ns : List Int) (H0 H : Hp) (v : V) (at_ : Int) : Prop := (v = .non ∧ ¬ CB rws at_ (· ∈ ns)) ∨ ∃ (p : Addr) (ws : List Int) (x : Int), v = .ref p ∧ H0 p = none ∧ H p = some (.lst (ws.map V.int)) ∧ Way rws at_ ns ws ∧ ws.getLast? = some x ∧ Nx rws x at_
theorem RdAt.same {rws : List Row} {ns : List Int} {H0 H H' : Hp} {v : V} {at_ : Int} (h : RdAt rws ns H0 H v at_) (S : Same H H') : RdAt rws ns H0 H' v at_ := by
  rcases h with h | ⟨p, ws, x, h1, h2, h3, h4⟩
  · exact .inl h
  · exact .inr ⟨p, ws, x, h1, h2, S _ _ h3, h4⟩
theorem RdAt.put {rws : List Row} {ns : List Int} {H0 H : Hp} {v : V} {at_ : Int} {D : Addr} {u : HO} (h : RdAt rws ns H0 H v at_) (n : v ≠ .ref D) : RdAt rws ns H0 (upd H D u) v at_ := by
  rcases h with h | ⟨p, ws, x, h1, h2, h3, h4⟩
  · exact .inl h
  · exact .inr ⟨p, ws, x, h1, h2, by rw [upd_ne (fun e => n (by rw [h1, e]))]; exact h3, h4⟩
set_option maxHeartbeats 2000000 in
theorem ok_bare_round (T : Txt K mg a) : FnOk P w K mg base CX0 4 a.f_bare_round a.d_bare_round ["rows", "some"] sp_bround := by
  refine T.F_bare_round.okC sc_bare_round (fun vs H Q E h => ?_) (fun cdv A outer s H vs Q E hr h => ?_)
  · obtain ⟨rl, sl, rs, rws, ms, rfl, _⟩ := h
    rfl
  · obtain ⟨rl, sl, rs, rws, ms, rfl, R, F, hm, q0, q1⟩ := h
    have hu := hu_of hr
    have n40 := F.n1
    refine ⟨_, (@pss_cons _ _ _ _ _ (ps_set (i := 2) sc_bare_round.nd (by rfl) (Or.inr rfl) (pe_call (ok_bare_rows T) (hr.mono (by decide)) (by rfl) T.m_bare_rows T.F_bare_rows.kp T.b_bare_rows .nil pass0 (@pa_cname _ _ _ _ _ _ (pv 0) (@pa_cname _ _ _ _ _ _ (pv 1) pa_nil))))
      (@pss_cons _ _ _ _ _ (ps_setc (i := 3) sc_bare_round.nd (by rfl) (Or.inl rfl) (N' := ["at", "rows", "bare"]) (cap := [none, some 0, some 2]) ⟨rfl, (by decide +kernel), (by decide +kernel), (by rfl), rfl, (by rfl)⟩ (by rfl) (pi_list (pv 2)) (fun C_ ex_ s_ H_ => (pg_name (i := 0) (show (["at", "rows", "bare"] : List Str).Nodup by decide +kernel) (by rfl) (Or.inl rfl))) gkp_name (fun C_ ex_ s_ H_ => pifs_nil) (fun C_ ex_ s_ H_ => (pe_call (ok_round_through T) (by exact hr.mono (by decide)) (by rfl) T.m_round_through T.F_round_through.kp T.b_round_through .nil pass0 (@pa_cname _ _ _ _ _ _ (pv 1) (@pa_cname _ _ _ _ _ _ (pv 0) (@pa_cname _ _ _ _ _ _ (pv 2) pa_nil))))))
      (@pss_one _ _ _ (ps_ret (pe_min_len (by rfl) (by rfl) T.z_min (by rfl) T.z_len (pe_comp (N' := ["one"]) (cap := [none]) ⟨rfl, (by decide +kernel), (by decide +kernel), (by rfl), rfl, (by rfl)⟩ (by rfl) (pi_list (pv 3)) (fun C_ ex_ s_ H_ => (pg_name (i := 0) (show (["one"] : List Str).Nodup by decide +kernel) (by rfl) (Or.inl rfl))) gkp_name (fun C_ ex_ s_ H_ => (pifs_one (pt_cmp (pc_notN (pv 0))))) (fun C_ ex_ s_ H_ => (pv 0)))))))), ?_⟩
    simp! []
    refine ⟨rl, sl, rs, rws, ms, rfl, R, F, hm, fun bl ns H1 S1 nbl BL hbl => ?_⟩
    have lns : ns.length ≤ 40 := by
      have := nodup_rng (n := rws.length) (BL.1.imp fun h => by omega) fun x hx => rch_in F ((BL.2 x).mp hx).1.1
      omega
    refine compL (H1 := H1) bl (ns.map V.int) (fun Q2 h2 => by simp! []; exact h2) (.of hbl) (fun D i ys H2 => Same H1 H2 ∧ H2 D = some (.lst ys) ∧ ys.length = i ∧ ∀ (j : Nat) (v : V), ys[j]? = some v → ∃ at_, ns[j]? = some at_ ∧ RdAt rws ns H H2 v at_ ∧ v ≠ .ref D)
      (fun D hD => ⟨Same.laid hD, upd_same, rfl, fun j v h => by cases h⟩) ?_ (by rw [sizeLine_eq, List.length_map]; omega) ?_ ?_
    · rintro D hD i ys H2 hi ⟨S2, h2, ly, _⟩
      exact ⟨.of (S2 _ _ hbl), h2, by omega⟩
    · rintro D hD i x ys H2 hx ⟨S2, h2, ly, AT⟩
      obtain ⟨t, ht, rfl⟩ := of_map_get hx
      have bt := (BL.2 t).mp (List.mem_of_getElem? ht)
      obtain ⟨t0, t1⟩ := rch_in F bt.1.1
      obtain ⟨k, rfl⟩ := Int.eq_ofNat_of_zero_le t0
      simp! [tTrue, capSt]
      have key : ∀ (y : V) (H6 : Hp), Same H2 H6 → RdAt rws ns H H6 y k → y ≠ .ref D → H6 D = some (HO.lst ys) ∧ Same H1 (upd H6 D (HO.lst (ys ++ [y]))) ∧ (ys ++ [y]).length = i + 1 ∧ ∀ (j : Nat) (v : V), (ys ++ [y])[j]? = some v → ∃ at_, ns[j]? = some at_ ∧ RdAt rws ns H (upd H6 D (HO.lst (ys ++ [y]))) v at_ ∧ v ≠ V.ref D := by
        intro y H6 S6 RY ny
        refine ⟨S6 _ _ h2, upd_newS (S2.trans S6) hD, by rw [List.length_append, ly]; rfl, fun j v hv => ?_⟩
        rcases Nat.lt_trichotomy j i with cc | cc | cc
        · rw [List.getElem?_append_left (by omega)] at hv
          obtain ⟨at_, e1, e2, e3⟩ := AT j v hv
          exact ⟨at_, e1, (e2.same S6).put e3, e3⟩
        · rw [List.getElem?_append_right (by omega), cc, ly, Nat.sub_self] at hv
          cases hv
          exact ⟨k, by rw [cc]; exact ht, RY.put ny, ny⟩
        · rw [List.getElem?_eq_none (by simp; omega)] at hv
          cases hv
      refine ⟨rl, bl, k, rs, rws, ns, rfl, (R.same S1).same S2, F, by omega, S2 _ _ hbl, fun H6 S6 ncb => key _ H6 S6 (.inl ⟨rfl, ncb⟩) (by intro z; cases z), fun p ws x H6 S6 np hp W hl n => ?_⟩
      refine key _ H6 S6 (.inr ⟨p, ws, x, rfl, (S1.trans S2).free np, hp, W, hl, n⟩) ?_
      intro z
      cases z
      rw [h2] at np
      cases np
    · rintro D hD ys H2 ⟨S2, h2, ly, AT⟩
      rw [List.length_map] at ly
      dsimp only [tMinLen]
      refine compLS (H1 := H2) D ys rfV (fun Q2 h3 => by simp! []; exact h3) (.of h2) (by rw [sizeLine_eq]; omega) ?_ ?_
      · intro x H3 R3 N hx S3 hR hN
        obtain ⟨j, hj⟩ := List.mem_iff_getElem?.mp hx
        obtain ⟨at_, _, RA, _⟩ := AT j x hj
        simp! [capSt]
        rcases RA with ⟨rfl, _⟩ | ⟨p, ws, y, rfl, _⟩
        · rw [if_neg (by simp)]
          exact hN rfl _ (Same.refl _)
        · rw [if_pos (by intro z; cases z)]
          exact hR _ _ rfl (Same.refl _)
      · intro D3 H3 hD3 S3 e3
        have eas : ys.filterMap rfV = (ys.filterMap rfA).map V.ref := by
          rw [List.map_filterMap]
          rfl
        rw [eas] at e3
        have mas : ∀ p ∈ ys.filterMap rfA, ∃ (j : Nat), ys[j]? = some (.ref p) := fun p hp => by
          obtain ⟨v, hv, e⟩ := List.mem_filterMap.mp hp
          obtain ⟨j, hj⟩ := List.mem_iff_getElem?.mp hv
          cases v with
          | ref p' => cases e; exact ⟨j, hj⟩
          | _ => cases e
        have S13 := S1.trans (S2.trans S3)
        refine ⟨D3, ys.filterMap rfA, rfl, e3, fun p hp => ?_, fun e => ?_, fun p hp => ?_⟩
        · obtain ⟨j, hj⟩ := mas p hp
          obtain ⟨at_, _, RA, _⟩ := AT j _ hj
          rcases RA with ⟨z, _⟩ | ⟨p', ws, y, z, _, hp', _⟩
          · cases z
          · cases z; exact ⟨_, S3 _ _ hp'⟩
        · refine q0 H3 S13 fun x bx nx => ?_
          obtain ⟨j, hj⟩ := List.mem_iff_getElem?.mp ((BL.2 x).mpr ⟨bx, nx⟩)
          have jl := (List.getElem?_eq_some_iff.mp hj).1
          obtain ⟨at_, e1, RA, _⟩ := AT j _ (List.getElem?_eq_getElem (by omega))
          rw [hj] at e1
          cases e1
          rcases RA with ⟨_, ncb⟩ | ⟨p', ws, y, z, _⟩
          · exact fun z => ncb ((CB.congr fun y _ => (BL.2 y)).mpr z)
          · have : p' ∈ ys.filterMap rfA := List.mem_filterMap.mpr ⟨_, List.getElem_mem (show j < ys.length by omega), by rw [z]; rfl⟩
            rw [e] at this
            cases this
        · obtain ⟨j, hj⟩ := mas p hp
          obtain ⟨at_, e1, RA, _⟩ := AT j _ hj
          rcases RA with ⟨z, _⟩ | ⟨p', ws, y, z, np, hp', W, hl, n⟩
          · cases z
          · cases z
            exact q1 p ns ws at_ y H3 S13 np (S3 _ _ hp') BL (List.mem_of_getElem? e1) W hl n

end
end Law

namespace Law
open PySem L2
local macro_rules | `(tactic| simp! [$ls,*]) => `(tactic| simp only [tSeq, tAsg, gName, tVar, tC, tOp, tUn, rI0, rI, rU, tCB, tCons, tNil, tRet, tRetN, tIfS, tTest, tB, tAnd, tOr, tNot, tAndV, tOrV, tNotV, tIf, tDrop, tNext, tCall, tMeth, tIsN, tNotN, L2.start, List.map_cons, List.map_nil, List.length_cons, List.length_nil, List.nil_append, List.cons_append, List.append_nil, Nat.reduceAdd, Nat.reduceSub, Nat.sub_self, List.replicate_succ, List.replicate_zero, List.set_cons_zero, List.set_cons_succ, List.getElem?_cons_zero, List.getElem?_cons_succ, Option.some.injEq, V.int.injEq, V.bl.injEq, V.str.injEq, V.ref.injEq, List.cons.injEq, exists_eq_left', exists_eq_left, exists_and_left, and_true, true_and, if_true, if_false, ite_true, ite_false, Bool.true_eq_false, Bool.false_eq_true, decide_eq_true_eq, Bool.not_true, Bool.not_false, Bool.not_eq_true', decide_eq_false_iff_not, reduceCtorEq, false_and, and_false, exists_false, tTup, tLst, sizeLine_eq, Nat.reduceLeDiff, Nat.zero_le, rEq, rNe, rIxF, rEqF, gSub, rSetL, HO.lst.injEq, HO.tup.injEq, HO.ins.injEq, HO.dK.injEq, scal_int, scal_bl, scal_str, tyF_ref, tyF_int, tyF_bl, tyF_str, tyF_non, lenF_ref, seqV_eq, kindV_eq, tyO_lst, tyO_frz, tyO_tup, tyO_dK, lenO_lst, lenO_frz, lenO_tup, seqO_lst, seqO_frz, seqO_tup, kindO_lst, kindO_frz, kindO_tup, isTys, and_assoc, atI_0, atI_1, atI_2, atI_3, atI_4, upd_same, V.ty.injEq, eq_self_iff_true, and_self, String.reduceEq, or_false, or_true, false_or, true_or, Bool.or_true, Bool.or_false, Bool.true_or, Bool.false_or, Bool.and_false, Bool.false_and, Bool.and_true, Bool.true_and, String.reduceBEq, beq_self_eq_true, tDGetF, tDInF, tDNotInF, sDPutF, keyOf_int, keyOf_str, sFld, tFld, tDNewK, tRaise, tMethE, EX, tFstr, tMake, cxOf_K, Nat.reduceLT, Option.join_some, Option.join_none, not_true_eq_false, not_false_eq_true, gCons, gNil, tChain, rEqE, tAug, ipI, $ls,*])
section
variable {P : Program} {w : World} {K : PySem.W.Frag} {mg : Str → Option Value} {base : Heap} {a : Ad}

def sp_goes : Sp := fun vs H Q _ => ∃ (rl sl : Addr) (k : Nat) (rs : List Addr) (rws : List Row) (r : Row) (ss : List Int), vs = [.ref rl, .int k, .ref sl] ∧ RowsOf H rl rs rws ∧ RowsFit rws ∧ rws[k]? = some r ∧ H sl = some (.lst (ss.map V.int)) ∧
  ∀ H', Same H H' → Q (.bl (decide (∃ y ∈ nxt r k, y ∈ ss))) H'
set_option maxHeartbeats 2000000 in
theorem ok_law_goes_on (T : Txt K mg a) : FnOk P w K mg base CX0 2 a.f_law_goes_on a.d_law_goes_on ["rows", "at", "some"] sp_goes := by
  refine T.F_law_goes_on.okC sc_law_goes_on (fun vs H Q E h => ?_) (fun cdv A outer s H vs Q E hr h => ?_)
  · obtain ⟨rl, sl, k, rs, rws, r, ss, rfl, _⟩ := h
    rfl
  · obtain ⟨rl, sl, k, rs, rws, r, ss, rfl, R, F, hk, hs, q⟩ := h
    have hu := hu_of hr
    have n40 := F.n1
    have kl := (List.getElem?_eq_some_iff.mp hk).1
    refine ⟨_, (@pss_cons _ _ _ _ _ (ps_for PassesOwn.never (by rfl) (pi_list (pe_call (ok_law_nexts T) (hr.mono (by decide)) (by rfl) T.m_law_nexts T.F_law_nexts.kp T.b_law_nexts .nil pass0 (@pa_cname _ _ _ _ _ _ (pv 0) (@pa_cname _ _ _ _ _ _ (pv 1) pa_nil)))) (pg_name (i := 3) sc_law_goes_on.nd (by rfl) (Or.inl rfl))
      (@pss_one _ _ _ (@ps_if _ _ _ _ _ _ _ _ (pt_cmpR op_in_seq (pv 3) (pv 2) (by with_unfolding_all rfl)) (@pss_one _ _ _ (ps_ret pe_bl)) pss_nil)))
      (@pss_one _ _ _ (ps_ret pe_bl))), ?_⟩
    simp! []
    refine forL_ (fun l H1 => H1 l = some (.lst ((nxt r k).map V.int)) ∧ Same H H1) (fun Q2 hQ => ?_) ?_
    · obtain ⟨words, sg, rf, _⟩ := F.fit r (List.mem_of_getElem? hk)
      simp! []
      exact ⟨rl, k, rs, rws, r, words, rws.length, sg, rfl, R, hk, rf, by omega, by omega, fun l H1 nl S1 hl => hQ l H1 ⟨hl, S1⟩⟩
    rintro l H1 ⟨hl, S1⟩
    refine forL (H1 := H1) l ((nxt r k).map V.int) (fun Q2 h2 => h2) (fun j σ H2 => ∃ v3 : Option V, σ = [some (.ref rl), some (.int k), some (.ref sl), v3] ∧ H2 = H1 ∧ ∀ y ∈ (nxt r k).take j, y ∉ ss) ⟨_, rfl, rfl, by simp⟩ ?_ ?_ ?_
    · rintro j σ H2 hj ⟨_, _, rfl, _⟩
      exact .of hl
    · rintro j x σ H2 hj ⟨v3, rfl, rfl, tk⟩
      obtain ⟨y, hy, rfl⟩ := of_map_get hj
      simp! []
      refine rIn_ints (S1 _ _ hs) ⟨_, rfl, ?_⟩
      rw [if_neg Bool.false_ne_true]
      by_cases c : y ∈ ss
      · rw [if_pos (by simpa using c)]
        have := q H2 S1
        rw [decide_eq_true (⟨y, List.mem_of_getElem? hy, c⟩ : ∃ y ∈ nxt r k, y ∈ ss)] at this
        exact this
      · rw [if_neg (by simpa using c)]
        refine ⟨rfl, fun z hz => ?_⟩
        rw [List.take_succ, hy] at hz
        rcases List.mem_append.mp hz with m | m
        · exact tk z m
        · have e : z = y := by simpa using m
          rw [e]; exact c
    · rintro σ H2 ⟨v3, rfl, rfl, tk⟩
      simp! []
      rw [List.length_map, List.take_length] at tk
      have := q H2 S1
      rw [decide_eq_false (fun ⟨y, h1, h2⟩ => tk y h1 h2)] at this
      exact this
def goB (rws : List Row) (ls : List Int) (x : Int) : Bool := match rws[x.toNat]? with
  | some r => decide (∃ y ∈ nxt r x, y ∈ ls)
  | none => false
theorem goB_iff {rws : List Row} {ls : List Int} {x : Int} (h : 0 ≤ x) : goB rws ls x = true ↔ ∃ y, Nx rws x y ∧ y ∈ ls := by
  obtain ⟨k, rfl⟩ := Int.eq_ofNat_of_zero_le h
  unfold goB
  rw [Int.toNat_natCast]
  constructor
  · intro z
    split at z
    · rename_i r hr
      obtain ⟨y, h1, h2⟩ := of_decide_eq_true z
      exact ⟨y, ⟨k, r, rfl, hr, h1⟩, h2⟩
    · cases z
  · rintro ⟨y, ⟨k', r, e, hr, h1⟩, h2⟩
    have : k = k' := by omega
    subst this
    rw [hr]
    exact decide_eq_true ⟨y, h1, h2⟩
/-- what is left: the rows that go on among themselves -/
structure Last (rws : List Row) (ms ls : List Int) : Prop where
  in_ : ∀ x ∈ ls, Bare rws x ∧ x ∉ ms
  go : ∀ x ∈ ls, ∃ y, Nx rws x y ∧ y ∈ ls
  all : ∀ Z : Int → Prop, (∀ x, Z x → (Bare rws x ∧ x ∉ ms) ∧ ∃ y, Nx rws x y ∧ Z y) → ∀ x, Z x → x ∈ ls
def sp_lasting : Sp := fun vs H Q _ => ∃ (rl sl : Addr) (rs : List Addr) (rws : List Row) (ms : List Int), vs = [.ref rl, .ref sl] ∧ RowsOf H rl rs rws ∧ RowsFit rws ∧ H sl = some (.lst (ms.map V.int)) ∧
  ∀ (l : Addr) (ls : List Int) (H' : Hp), Same H H' → Last rws ms ls → H' l = some (.lst (ls.map V.int)) → Q (.ref l) H'
set_option maxHeartbeats 2000000 in
theorem ok_law_lasting (T : Txt K mg a) : FnOk P w K mg base CX0 3 a.f_law_lasting a.d_law_lasting ["rows", "some"] sp_lasting := by
  refine T.F_law_lasting.okC sc_law_lasting (fun vs H Q E h => ?_) (fun cdv A outer s H vs Q E hr h => ?_)
  · obtain ⟨rl, sl, rs, rws, ms, rfl, _⟩ := h
    rfl
  · obtain ⟨rl, sl, rs, rws, ms, rfl, R, F, hm, q⟩ := h
    have hu := hu_of hr
    have n40 := F.n1
    refine ⟨_, (@pss_cons _ _ _ _ _ (ps_set (i := 2) sc_law_lasting.nd (by rfl) (Or.inr rfl) (pe_comp (N' := ["at", "some", "rows"]) (cap := [none, some 1, some 0]) ⟨rfl, (by decide +kernel), (by decide +kernel), (by rfl), rfl, (by rfl)⟩ (by rfl) (pi_list (pe_call (ok_law_walked T) (hr.mono (by decide)) (by rfl) T.m_law_walked T.F_law_walked.kp T.b_law_walked .nil pass0 (@pa_cname _ _ _ _ _ _ (pv 0) pa_nil))) (fun C_ ex_ s_ H_ => (pg_name (i := 0) (show (["at", "some", "rows"] : List Str).Nodup by decide +kernel) (by rfl) (Or.inl rfl))) gkp_name (fun C_ ex_ s_ H_ => (pifs_one (PW.pt (pw_and (pt_cmpR op_ne (pe_ix ix_F (pe_ix ix_F (pv 2) (pv 0) (fun _ _ => rfl)) pe_int (fun _ _ => rfl)) pe_str (nomark _)) (pw_and (pt_cmpR op_ne (pe_ix ix_F (pe_ix ix_F (pv 2) (pv 0) (fun _ _ => rfl)) pe_int (fun _ _ => rfl)) pe_str (nomark _)) (pw_and1 (pt_cmpR (op_notIn_seqK (K := K) (by rfl)) (pv 0) (pv 1) (by with_unfolding_all rfl)))))))) (fun C_ ex_ s_ H_ => (pv 0))))
      (@pss_cons _ _ _ _ _ (ps_set (i := 3) sc_law_lasting.nd (by rfl) (Or.inl rfl) (pe_op op_add (pe_callB call_lenF (by rfl) T.z_len (by decide +kernel) (@pa_cname _ _ _ _ _ _ (pv 2) pa_nil)) pe_int))
      (@pss_cons _ _ _ _ _ (ps_while PassesOwn.never (pt_cmpR op_lt (pe_callB call_lenF (by rfl) T.z_len (by decide +kernel) (@pa_cname _ _ _ _ _ _ (pv 2) pa_nil)) (pv 3) (nomark _)) (@pss_cons _ _ _ _ _ (ps_set (i := 3) sc_law_lasting.nd (by rfl) (Or.inl rfl) (pe_callB call_lenF (by rfl) T.z_len (by decide +kernel) (@pa_cname _ _ _ _ _ _ (pv 2) pa_nil)))
      (@pss_one _ _ _ (ps_set (i := 2) sc_law_lasting.nd (by rfl) (Or.inr rfl) (pe_comp (N' := ["at", "rows", "left"]) (cap := [none, some 0, some 2]) ⟨rfl, (by decide +kernel), (by decide +kernel), (by rfl), rfl, (by rfl)⟩ (by rfl) (pi_list (pv 2)) (fun C_ ex_ s_ H_ => (pg_name (i := 0) (show (["at", "rows", "left"] : List Str).Nodup by decide +kernel) (by rfl) (Or.inl rfl))) gkp_name (fun C_ ex_ s_ H_ => (pifs_one (pt_val (pe_call (ok_law_goes_on T) (by exact hr.mono (by decide)) (by rfl) T.m_law_goes_on T.F_law_goes_on.kp T.b_law_goes_on .nil pass0 (@pa_cname _ _ _ _ _ _ (pv 1) (@pa_cname _ _ _ _ _ _ (pv 0) (@pa_cname _ _ _ _ _ _ (pv 2) pa_nil))))))) (fun C_ ex_ s_ H_ => (pv 0)))))))
      (@pss_one _ _ _ (ps_ret (pv 2)))))), ?_⟩
    simp! []
    refine compL_ (fun l H1 => ∃ ns : List Int, H1 l = some (.lst (ns.map V.int)) ∧ Same H H1 ∧ RchL rws ns) (fun Q2 hQ => ?_) ?_
    · simp! []
      exact ⟨rl, rs, rws, rfl, R, F, fun l ns H1 S1 RL hl => hQ l H1 ⟨ns, hl, S1, RL⟩⟩
    rintro l H1 ⟨ns, hl, S1, RC⟩
    have lns : ns.length ≤ 40 := by
      have := nodup_rng (n := rws.length) (RC.1.imp fun h => by omega) fun x hx => rch_in F ((RC.2 x).mp hx)
      omega
    refine compLS l (ns.map V.int) (pickF fun i => plainB rws i && !decide (i ∈ ms)) (fun Q2 h2 => h2) (.of hl) (by rw [List.length_map, sizeLine_eq]; omega) ?_ ?_
    · intro x H2 R2 N hx S2 hR hN
      obtain ⟨i, hi, rfl⟩ := List.mem_map.mp hx
      obtain ⟨i0, i1⟩ := rch_in F ((RC.2 i).mp hi)
      obtain ⟨k, rfl⟩ := Int.eq_ofNat_of_zero_le i0
      have kl : k < rws.length := by omega
      have RO := (R.same S1).same S2
      have lr := RO.len
      have hrk := List.getElem?_eq_getElem kl
      have hpk := List.getElem?_eq_getElem (l := rs) (i := k) (by omega)
      obtain ⟨vs, hp, PA⟩ := RO.row k _ _ hpk hrk
      have top := RO.top
      have al : atI (rs.map V.ref) ((k : Nat) : Int) = some (.ref rs[k]) := atI_nat (by rw [List.getElem?_map, hpk]; rfl)
      revert hrk hpk hp PA al
      generalize rws[k] = r
      generalize rs[k] = p
      intro hrk hpk hp PA al
      have hm2 := S2 _ _ (S1 _ _ hm)
      have pb : plainB rws (k : Int) = (!decide (r.1 = "make") && !decide (r.1 = "rest")) := by
        unfold plainB
        rw [Int.toNat_natCast, hrk]
      have no : (plainB rws (k : Int) && !decide ((k : Int) ∈ ms)) = false → N H2 := fun z => hN (by show (if (plainB rws (k : Int) && !decide ((k : Int) ∈ ms)) = true then some (V.int k) else none) = none; rw [z]; rfl) _ (Same.refl _)
      have yes : (plainB rws (k : Int) && !decide ((k : Int) ∈ ms)) = true → R2 (V.int k) H2 := fun z => hR _ _ (by show (if (plainB rws (k : Int) && !decide ((k : Int) ∈ ms)) = true then some (V.int k) else none) = _; rw [z]; rfl) (Same.refl _)
      simp! [capSt, top, al, hp]
      by_cases c1 : r.1 = "make"
      · rw [if_neg (by simp [c1])]
        exact no (by rw [pb]; simp [c1])
      rw [if_pos c1]
      by_cases c2 : r.1 = "rest"
      · rw [if_neg (by simp [c2])]
        exact no (by rw [pb]; simp [c2])
      rw [if_pos c2]
      refine rIn_ints hm2 ⟨_, rfl, ?_⟩
      rw [if_pos rfl]
      by_cases d : (k : Int) ∈ ms
      · rw [if_neg (by simp [d])]
        exact no (by simp [d])
      · rw [if_pos (by simp [d])]
        exact yes (by rw [pb]; simp [c1, c2, d])
    · intro D H2 hD S2 e2
      rw [fm_pick] at e2
      have S02 := S1.trans S2
      have mem : ∀ x, x ∈ ns.filter (fun i => plainB rws i && !decide (i ∈ ms)) ↔ Bare rws x ∧ x ∉ ms := fun x => by
        rw [List.mem_filter, RC.2 x, Bool.and_eq_true, Bool.not_eq_true', decide_eq_false_iff_not, ← and_assoc]
        unfold Bare
        constructor
        · rintro ⟨⟨h1, h2⟩, h3⟩
          exact ⟨⟨h1, (plainB_iff (rch_in F h1).1).mp h2⟩, h3⟩
        · rintro ⟨⟨h1, h2⟩, h3⟩
          exact ⟨⟨h1, (plainB_iff (rch_in F h1).1).mpr h2⟩, h3⟩
      have ll : (ns.filter (fun i => plainB rws i && !decide (i ∈ ms))).length ≤ 40 := Nat.le_trans (List.length_filter_le _ _) lns
      revert e2 mem ll
      generalize ns.filter (fun i => plainB rws i && !decide (i ∈ ms)) = ls0
      intro e2 mem ll
      simp! [e2, List.length_map]
      refine ⟨fun m σ H3 => ∃ (ll : Addr) (ls : List Int) (mn : Nat), σ = [some (.ref rl), some (.ref sl), some (.ref ll), some (.int mn)] ∧ m = mn ∧ Same H H3 ∧ H3 ll = some (.lst (ls.map V.int)) ∧ (∀ x ∈ ls, Bare rws x ∧ x ∉ ms) ∧ (∀ Z : Int → Prop, (∀ x, Z x → (Bare rws x ∧ x ∉ ms) ∧ ∃ y, Nx rws x y ∧ Z y) → ∀ x, Z x → x ∈ ls) ∧ (mn = ls.length + 1 ∨ ∃ prev : List Int, ls = prev.filter (goB rws prev) ∧ mn = prev.length) ∧ ls.length ≤ 40,
        ⟨_, D, ls0, ls0.length + 1, by rw [Int.natCast_add]; rfl, rfl, S02, e2, fun x hx => (mem x).mp hx, fun Z hZ x zx => (mem x).mpr (hZ x zx).1, .inl rfl, ll⟩, ?_⟩
      clear e2 mem ll S02 S2 hD
      clear D ls0
      rintro m σ H3 ⟨ll, ls, mn, rfl, rfl, S3, h3, in3, all3, last3, l40⟩
      simp! [h3, List.length_map]
      by_cases c : (ls.length : Int) < (m : Int)
      · rw [if_pos c]
        refine ⟨fun σ' H' => ∃ (ll : Addr) (ls' : List Int), σ' = [some (.ref rl), some (.ref sl), some (.ref ll), some (.int ls.length)] ∧ Same H H' ∧ H' ll = some (.lst (ls'.map V.int)) ∧ ls' = ls.filter (goB rws ls), ?_, ?_⟩
        · rintro σ' H' ⟨ll', ls', rfl, g1, g2, rfl⟩
          refine ⟨ls.length, by omega, ll', _, ls.length, rfl, rfl, g1, g2, fun x hx => in3 x (List.mem_filter.mp hx).1, fun Z hZ x zx => ?_, .inr ⟨ls, rfl, rfl⟩, Nat.le_trans (List.length_filter_le _ _) l40⟩
          have hZ' : ∀ x, Z x → (Bare rws x ∧ x ∉ ms) ∧ ∃ y, Nx rws x y ∧ Z y := fun x z => ⟨⟨(hZ x z).1, (hZ x z).2.1⟩, (hZ x z).2.2⟩
          have mx := all3 Z hZ' x zx
          obtain ⟨y, ny, zy⟩ := (hZ' x zx).2
          exact List.mem_filter.mpr ⟨mx, (goB_iff (rch_in F (in3 x mx).1.1).1).mpr ⟨y, ny, all3 Z hZ' y zy⟩⟩
        · refine compLS (H1 := H3) ll (ls.map V.int) (pickF (goB rws ls)) (fun Q2 h2 => by simp! []; exact h2) (.of h3) (by rw [List.length_map, sizeLine_eq]; omega) ?_ ?_
          · intro x H4 R4 N hx S4 hR hN
            obtain ⟨i, hi, rfl⟩ := List.mem_map.mp hx
            obtain ⟨i0, i1⟩ := rch_in F (in3 i hi).1.1
            obtain ⟨k, rfl⟩ := Int.eq_ofNat_of_zero_le i0
            have kl : k < rws.length := by omega
            have hrk := List.getElem?_eq_getElem kl
            revert hrk
            generalize rws[k] = r
            intro hrk
            simp! [capSt]
            refine ⟨rl, ll, k, rs, rws, r, ls, rfl, (R.same S3).same S4, F, hrk, S4 _ _ h3, fun H5 S5 => ⟨_, rfl, ?_⟩⟩
            have eg : goB rws ls (k : Int) = decide (∃ y ∈ nxt r k, y ∈ ls) := by
              unfold goB
              rw [Int.toNat_natCast, hrk]
            rw [← eg]
            by_cases d : goB rws ls (k : Int) = true
            · rw [if_pos d]
              exact hR _ _ (by show (if goB rws ls (k : Int) = true then some (V.int k) else none) = _; rw [if_pos d]) S5
            · rw [if_neg d]
              exact hN (by show (if goB rws ls (k : Int) = true then some (V.int k) else none) = _; rw [if_neg d]) _ S5
          · intro D H4 hD S4 e4
            rw [fm_pick] at e4
            exact ⟨D, _, rfl, S3.trans S4, e4, rfl⟩
      · rw [if_neg c]
        refine q ll ls H3 S3 ⟨in3, fun x hx => ?_, all3⟩ h3
        rcases last3 with e | ⟨prev, e, e2⟩
        · omega
        · have el : (prev.filter (goB rws prev)).length = prev.length := by
            have := List.length_filter_le (goB rws prev) prev
            rw [← e] at this ⊢
            omega
          have ep : prev.filter (goB rws prev) = prev := List.filter_eq_self.mpr (List.length_filter_eq_length_iff.mp el)
          have e3 : ls = prev := e.trans ep
          subst e3
          exact (goB_iff (rch_in F (in3 x hx).1.1).1).mp (List.length_filter_eq_length_iff.mp el x hx)

end
end Law

namespace Law
open PySem L2
local macro_rules | `(tactic| simp! [$ls,*]) => `(tactic| simp only [tSeq, tAsg, gName, tVar, tC, tOp, tUn, rI0, rI, rU, tCB, tCons, tNil, tRet, tRetN, tIfS, tTest, tB, tAnd, tOr, tNot, tAndV, tOrV, tNotV, tIf, tDrop, tNext, tCall, tMeth, tIsN, tNotN, L2.start, List.map_cons, List.map_nil, List.length_cons, List.length_nil, List.nil_append, List.cons_append, List.append_nil, Nat.reduceAdd, Nat.reduceSub, Nat.sub_self, List.replicate_succ, List.replicate_zero, List.set_cons_zero, List.set_cons_succ, List.getElem?_cons_zero, List.getElem?_cons_succ, Option.some.injEq, V.int.injEq, V.bl.injEq, V.str.injEq, V.ref.injEq, List.cons.injEq, exists_eq_left', exists_eq_left, exists_and_left, and_true, true_and, if_true, if_false, ite_true, ite_false, Bool.true_eq_false, Bool.false_eq_true, decide_eq_true_eq, Bool.not_true, Bool.not_false, Bool.not_eq_true', decide_eq_false_iff_not, reduceCtorEq, false_and, and_false, exists_false, tTup, tLst, sizeLine_eq, Nat.reduceLeDiff, Nat.zero_le, rEq, rNe, rIxF, rEqF, gSub, rSetL, HO.lst.injEq, HO.tup.injEq, HO.ins.injEq, HO.dK.injEq, scal_int, scal_bl, scal_str, tyF_ref, tyF_int, tyF_bl, tyF_str, tyF_non, lenF_ref, seqV_eq, kindV_eq, tyO_lst, tyO_frz, tyO_tup, tyO_dK, lenO_lst, lenO_frz, lenO_tup, seqO_lst, seqO_frz, seqO_tup, kindO_lst, kindO_frz, kindO_tup, isTys, and_assoc, atI_0, atI_1, atI_2, atI_3, atI_4, upd_same, V.ty.injEq, eq_self_iff_true, and_self, String.reduceEq, or_false, or_true, false_or, true_or, Bool.or_true, Bool.or_false, Bool.true_or, Bool.false_or, Bool.and_false, Bool.false_and, Bool.and_true, Bool.true_and, String.reduceBEq, beq_self_eq_true, tDGetF, tDInF, tDNotInF, sDPutF, keyOf_int, keyOf_str, sFld, tFld, tDNewK, tRaise, tMethE, EX, tFstr, tMake, cxOf_K, Nat.reduceLT, Option.join_some, Option.join_none, not_true_eq_false, not_false_eq_true, gCons, gNil, tChain, rEqE, tAug, ipI, $ls,*])
section
variable {P : Program} {w : World} {K : PySem.W.Frag} {mg : Str → Option Value} {base : Heap} {a : Ad}

theorem count_one : ∀ {ws : List Int} {y : Int}, ws.Nodup → y ∈ ws → List.count y ws = 1
  | [], y, _, h => by cases h
  | x :: r, y, nd, h => by
    obtain ⟨n1, n2⟩ := List.nodup_cons.mp nd
    by_cases e : x = y
    · subst e
      rw [List.count_cons_self, List.count_eq_zero_of_not_mem n1]
    · rw [List.count_cons_of_ne e]
      exact count_one n2 ((List.mem_cons.mp h).resolve_left fun z => e z.symm)
def sp_rgood : Sp := fun vs H Q _ => ∃ (rl fl sl : Addr) (rs : List Addr) (rws : List Row) (ms ns ws : List Int) (at_ x : Int), vs = [.ref rl, .ref fl, .ref sl] ∧ RowsOf H rl rs rws ∧ RowsFit rws ∧ H fl = some (.lst (ws.map V.int)) ∧ H sl = some (.lst (ms.map V.int)) ∧
  BareL rws ms ns ∧ at_ ∈ ns ∧ Way rws at_ ns ws ∧ ws.getLast? = some x ∧ Nx rws x at_ ∧ ∀ H', Same H H' → Q (.bl true) H'
set_option maxHeartbeats 2000000 in
theorem ok_law_round_good (T : Txt K mg a) : FnOk P w K mg base CX0 3 a.f_law_round_good a.d_law_round_good ["rows", "found", "some"] sp_rgood := by
  refine T.F_law_round_good.okC sc_law_round_good (fun vs H Q E h => ?_) (fun cdv A outer s H vs Q E hr h => ?_)
  · obtain ⟨rl, fl, sl, rs, rws, ms, ns, ws, at_, x, rfl, _⟩ := h
    rfl
  · obtain ⟨rl, fl, sl, rs, rws, ms, ns, ws, at_, x, rfl, R, F, hf, hm, BL, ma, W, hl, nx, q⟩ := h
    have hu := hu_of hr
    have n40 := F.n1
    have inb : ∀ y ∈ ws, Bare rws y ∧ y ∉ ms := fun y hy => by
      rcases W.in_ y hy with e | e
      · rw [e]; exact (BL.2 at_).mp ma
      · exact (BL.2 y).mp e
    have lw := nodup_rng (n := rws.length) W.nd fun y hy => rch_in F (inb y hy).1.1
    have l0 : 0 < ws.length := (List.getElem?_eq_some_iff.mp W.hd).1
    refine ⟨_, (@pss_cons _ _ _ _ _ (@ps_if _ _ _ _ _ _ _ _ (PW.pt (pw_or (pt_not (pt_val (pe_callB call_isF (by rfl) T.z_isinstance (by decide +kernel) (@pa_cname _ _ _ _ _ _ (pv 1) (@pa_cname _ _ _ _ _ _ (pe_bltn (v := .ty "list") (u := .type "list") (by rfl) T.z_list (by decide +kernel) (by rfl)) pa_nil))))) (pw_or1 (pt_cmpR (op_eqE hu) (pv 1) (pe_lst pa_nil) (nomark _))))) (@pss_one _ _ _ (ps_ret pe_bl)) pss_nil)
      (@pss_cons _ _ _ _ _ (ps_set (i := 3) sc_law_round_good.nd (by rfl) (Or.inl rfl) (pe_call (ok_law_walked T) (hr.mono (by decide)) (by rfl) T.m_law_walked T.F_law_walked.kp T.b_law_walked .nil pass0 (@pa_cname _ _ _ _ _ _ (pv 0) pa_nil)))
      (@pss_cons _ _ _ _ _ (ps_for PassesOwn.never (by rfl) (pi_list (pv 1)) (pg_name (i := 4) sc_law_round_good.nd (by rfl) (Or.inl rfl))
      (@pss_cons _ _ _ _ _ (@ps_if _ _ _ _ _ _ _ _ (PW.pt (pw_or (pt_not (pt_val (pe_callB call_isF (by rfl) T.z_isinstance (by decide +kernel) (@pa_cname _ _ _ _ _ _ (pv 4) (@pa_cname _ _ _ _ _ _ (pe_bltn (v := .ty "int") (u := .type "int") (by rfl) T.z_int (by decide +kernel) (by rfl)) pa_nil))))) (pw_or (pt_val (pe_callB call_isF (by rfl) T.z_isinstance (by decide +kernel) (@pa_cname _ _ _ _ _ _ (pv 4) (@pa_cname _ _ _ _ _ _ (pe_bltn (v := .ty "bool") (u := .type "bool") (by rfl) T.z_bool (by decide +kernel) (by rfl)) pa_nil)))) (pw_or (pt_cmpR op_notIn_seq (pv 4) (pv 3) (by with_unfolding_all rfl)) (pw_or1 (pt_cmpR op_ne (pe_bm PySem.F.plainAttrs_list PySem.F.slot_list_count PySem.F.type_list_count mt_count (pv 1) (@pa_cname _ _ _ _ _ _ (pv 4) pa_nil)) pe_int (nomark _))))))) (@pss_one _ _ _ (ps_ret pe_bl)) pss_nil)
      (@pss_one _ _ _ (@ps_if _ _ _ _ _ _ _ _ (PW.pt (pw_or (pt_cmpR op_eq (pe_ix ix_F (pe_ix ix_F (pv 0) (pv 4) (fun _ _ => rfl)) pe_int (fun _ _ => rfl)) pe_str (nomark _)) (pw_or (pt_cmpR op_eq (pe_ix ix_F (pe_ix ix_F (pv 0) (pv 4) (fun _ _ => rfl)) pe_int (fun _ _ => rfl)) pe_str (nomark _)) (pw_or1 (pt_cmpR op_in_seq (pv 4) (pv 2) (by with_unfolding_all rfl)))))) (@pss_one _ _ _ (ps_ret pe_bl)) pss_nil))))
      (@pss_cons _ _ _ _ _ (ps_for PassesOwn.never (by rfl) (pi_range1 (by rfl) T.z_range (pa_cons (pe_callB call_lenF (by rfl) T.z_len (by decide +kernel) (@pa_cname _ _ _ _ _ _ (pv 1) pa_nil)) pa_nil)) (pg_name (i := 5) sc_law_round_good.nd (by rfl) (Or.inl rfl))
      (@pss_one _ _ _ (@ps_if _ _ _ _ _ _ _ _ (pt_cmpR op_notIn_seq (pe_ix ix_F (pv 1) (pe_op op_mod (pe_op op_add (pv 5) pe_int) (pe_callB call_lenF (by rfl) T.z_len (by decide +kernel) (@pa_cname _ _ _ _ _ _ (pv 1) pa_nil))) (fun _ _ => rfl)) (pe_call (ok_law_nexts T) (hr.mono (by decide)) (by rfl) T.m_law_nexts T.F_law_nexts.kp T.b_law_nexts .nil pass0 (@pa_cname _ _ _ _ _ _ (pv 0) (pa_cons (pe_ix ix_F (pv 1) (pv 5) (fun _ _ => rfl)) pa_nil))) (by with_unfolding_all rfl)) (@pss_one _ _ _ (ps_ret pe_bl)) pss_nil)))
      (@pss_one _ _ _ (ps_ret pe_bl)))))), ?_⟩
    simp! [hf]
    intro p np
    have hf1 := upd_old (u := .lst []) hf np
    refine ⟨ws.map V.int, by rw [hf1]; rfl, by rw [hf1]; rfl, ?_⟩
    rw [if_neg (by cases ws with | nil => simp at l0 | cons y r => simp)]
    refine ⟨rl, rs, rws, rfl, R.same (Same.laid np), F, fun wl wk H2 S2 RC hwl => ?_⟩
    have S02 : Same H H2 := (Same.laid np).trans S2
    have hf2 := S02 _ _ hf
    have hm2 := S02 _ _ hm
    have R2 := R.same S02
    have top := R2.top
    have lr := R2.len
    refine forL (H1 := H2) fl (ws.map V.int) (fun Q2 h2 => by simp! []; exact h2) (fun j σ H3 => ∃ v4 : Option V, σ = [some (.ref rl), some (.ref fl), some (.ref sl), some (.ref wl), v4, none] ∧ H3 = H2) ⟨_, rfl, rfl⟩ ?_ ?_ ?_
    · rintro j σ H3 hj ⟨_, _, rfl⟩
      exact .of hf2
    · rintro j y σ H3 hj ⟨v4, rfl, rfl⟩
      obtain ⟨y, hy, rfl⟩ := of_map_get hj
      have my := List.mem_of_getElem? hy
      obtain ⟨by1, by2⟩ := inb y my
      obtain ⟨y0, y1⟩ := rch_in F by1.1
      obtain ⟨k, r, ek, hrk, pl⟩ := by1.2
      subst ek
      have kl := (List.getElem?_eq_some_iff.mp hrk).1
      have hpk := List.getElem?_eq_getElem (l := rs) (i := k) (by omega)
      obtain ⟨vs, hp, PA⟩ := R2.row k _ _ hpk hrk
      have al : atI (rs.map V.ref) ((k : Nat) : Int) = some (.ref rs[k]) := atI_nat (by rw [List.getElem?_map, hpk]; rfl)
      have mw : (k : Int) ∈ wk := (RC.2 _).mpr by1.1
      have cnt : List.count (k : Int) ws = 1 := count_one W.nd my
      simp! []
      refine rIn_ints hwl ⟨_, rfl, ?_⟩
      rw [if_pos rfl, if_neg (by simp [mw])]
      simp! [tBM, rCount]
      refine ⟨.inl ⟨rfl, _, .of hf2⟩, ws, .of hf2, ?_⟩
      rw [if_neg (by rw [cnt]; simp)]
      simp! [top, al, hp, pl.1, pl.2]
      refine rIn_ints hm2 ⟨_, rfl, ?_⟩
      rw [if_neg Bool.false_ne_true, if_neg (by simp [by2])]
    · rintro σ H3 ⟨v4, rfl, rfl⟩
      simp! []
      refine for1 (H1 := H3) (ws.length : Int) (fun Q2 h2 => by simp! [hf2, List.length_map]; exact h2) (by omega) (by omega) (fun i σ H4 => ∃ v5 : Option V, σ = [some (.ref rl), some (.ref fl), some (.ref sl), some (.ref wl), v4, v5] ∧ Same H3 H4) ⟨_, rfl, Same.refl _⟩ ?_ ?_
      · rintro i σ H4 hi ⟨v5, rfl, S4⟩
        have il : i < ws.length := by omega
        have hf4 := S4 _ _ hf2
        have hwi := List.getElem?_eq_getElem il
        have al1 : atI (ws.map V.int) ((i : Nat) : Int) = some (.int ws[i]) := atI_nat (by rw [List.getElem?_map, hwi]; rfl)
        have nl : ((i + 1) % ws.length) < ws.length := Nat.mod_lt _ l0
        have hwn := List.getElem?_eq_getElem nl
        have al2 : atI (ws.map V.int) (((i : Int) + 1) % (ws.length : Int)) = some (.int ws[(i + 1) % ws.length]) := by
          rw [show ((i : Int) + 1) % (ws.length : Int) = (((i + 1) % ws.length : Nat) : Int) by rw [Int.natCast_emod]; rfl]
          exact atI_nat (by rw [List.getElem?_map, hwn]; rfl)
        have nn : Nx rws ws[i] ws[(i + 1) % ws.length] := by
          by_cases c : i + 1 < ws.length
          · have e := hwn
            simp only [Nat.mod_eq_of_lt c] at e ⊢
            exact W.st i _ _ hwi e
          · have c2 : i + 1 = ws.length := by omega
            have e1 : ws[i] = x := by
              rw [List.getLast?_eq_getElem?, ← c2, Nat.add_sub_cancel, hwi] at hl
              cases hl
              rfl
            have e2 : ws[(i + 1) % ws.length] = at_ := by
              have e3 : ws[(i + 1) % ws.length]? = some at_ := by rw [show (i + 1) % ws.length = 0 by rw [c2, Nat.mod_self]]; exact W.hd
              rw [hwn] at e3
              exact Option.some.inj e3
            rw [e1, e2]
            exact nx
        revert al1 al2 nn
        generalize ws[i] = u
        generalize ws[(i + 1) % ws.length]'nl = v
        intro al1 al2 nn
        simp! [Int.zero_add, hf4, List.length_map, al1, al2]
        obtain ⟨ku, ru, eu, hru, mv⟩ := nn
        subst eu
        have kul := (List.getElem?_eq_some_iff.mp hru).1
        obtain ⟨words, sg, rf, _⟩ := F.fit ru (List.mem_of_getElem? hru)
        refine ⟨by omega, rl, ku, rs, rws, ru, words, rws.length, sg, rfl, R2.same S4, hru, rf, by omega, by omega, fun l H5 nl5 S5 hl5 => ?_⟩
        refine rIn_ints hl5 ⟨_, rfl, ?_⟩
        rw [if_pos rfl, if_neg (by simp [mv])]
        exact S4.trans S5
      · rintro σ H4 ⟨v5, rfl, S4⟩
        simp! []
        exact q _ (S02.trans S4)

end
end Law

namespace Law
open PySem L2
local macro_rules | `(tactic| simp! [$ls,*]) => `(tactic| simp only [tSeq, tAsg, gName, tVar, tC, tOp, tUn, rI0, rI, rU, tCB, tCons, tNil, tRet, tRetN, tIfS, tTest, tB, tAnd, tOr, tNot, tAndV, tOrV, tNotV, tIf, tDrop, tNext, tCall, tMeth, tIsN, tNotN, L2.start, List.map_cons, List.map_nil, List.length_cons, List.length_nil, List.nil_append, List.cons_append, List.append_nil, Nat.reduceAdd, Nat.reduceSub, Nat.sub_self, List.replicate_succ, List.replicate_zero, List.set_cons_zero, List.set_cons_succ, List.getElem?_cons_zero, List.getElem?_cons_succ, Option.some.injEq, V.int.injEq, V.bl.injEq, V.str.injEq, V.ref.injEq, List.cons.injEq, exists_eq_left', exists_eq_left, exists_and_left, and_true, true_and, if_true, if_false, ite_true, ite_false, Bool.true_eq_false, Bool.false_eq_true, decide_eq_true_eq, Bool.not_true, Bool.not_false, Bool.not_eq_true', decide_eq_false_iff_not, reduceCtorEq, false_and, and_false, exists_false, tTup, tLst, sizeLine_eq, Nat.reduceLeDiff, Nat.zero_le, rEq, rNe, rIxF, rEqF, gSub, rSetL, HO.lst.injEq, HO.tup.injEq, HO.ins.injEq, HO.dK.injEq, scal_int, scal_bl, scal_str, tyF_ref, tyF_int, tyF_bl, tyF_str, tyF_non, lenF_ref, seqV_eq, kindV_eq, tyO_lst, tyO_frz, tyO_tup, tyO_dK, lenO_lst, lenO_frz, lenO_tup, seqO_lst, seqO_frz, seqO_tup, kindO_lst, kindO_frz, kindO_tup, isTys, and_assoc, atI_0, atI_1, atI_2, atI_3, atI_4, upd_same, V.ty.injEq, eq_self_iff_true, and_self, String.reduceEq, or_false, or_true, false_or, true_or, Bool.or_true, Bool.or_false, Bool.true_or, Bool.false_or, Bool.and_false, Bool.false_and, Bool.and_true, Bool.true_and, String.reduceBEq, beq_self_eq_true, tDGetF, tDInF, tDNotInF, sDPutF, keyOf_int, keyOf_str, sFld, tFld, tDNewK, tRaise, tMethE, EX, tFstr, tMake, cxOf_K, Nat.reduceLT, Option.join_some, Option.join_none, not_true_eq_false, not_false_eq_true, gCons, gNil, tChain, rEqE, tAug, ipI, $ls,*])
section
variable {P : Program} {w : World} {K : PySem.W.Frag} {mg : Str → Option Value} {base : Heap} {a : Ad}

def cnt (ns : List Int) (t : Int) : Nat := (ns.filter fun x => decide (x < t)).length
def tgt (ns : List Int) (r : Row) : Row := if r.1 = "jump" ∨ Br r.1 then (r.1, r.2.dropLast ++ [.inl (lastI r + cnt ns (lastI r))]) else r
theorem in_to {s : Str} {neg : Bool} {v : V} {H : Hp} {Q : VK} (h : ∃ p, v = .ref p ∧ (H p = some (.tup [.str "jump", .str "zero", .str "none", .str "same"]) ∨ H p = some (.lst [.str "jump", .str "zero", .str "none", .str "same"]))) (q : Q (.bl (if neg then !decide (s = "jump" ∨ Br s) else decide (s = "jump" ∨ Br s))) H) : rIn K neg (.str s) v H Q := by
  obtain ⟨p, rfl, h⟩ := h
  refine ⟨p, [.str "jump", .str "zero", .str "none", .str "same"], rfl, ?_, rfl, rfl, ?_⟩
  · rcases h with h | h
    · exact .inr (.of h)
    · exact .inl (.of h)
  · have e : inV (.str s) [.str "jump", .str "zero", .str "none", .str "same"] = decide (s = "jump" ∨ Br s) := by
      rw [show ([.str "jump", .str "zero", .str "none", .str "same"] : List V) = (["jump", "zero", "none", "same"] : List Str).map V.str from rfl, inV_strs]
      unfold Br
      simp
    rw [e]
    exact q
theorem PartsAt.init {H : Hp} {us : List V} {ps : List Part} {u : V} {p : Part} (h : PartsAt H (us ++ [u]) (ps ++ [p])) : PartsAt H us ps := by
  have l := h.len
  rw [List.length_append, List.length_append] at l
  refine ⟨by simpa using l, fun i v q h1 h2 => h.at_ i v q ?_ ?_⟩
  · rw [List.getElem?_append_left (List.getElem?_eq_some_iff.mp h1).1]; exact h1
  · rw [List.getElem?_append_left (List.getElem?_eq_some_iff.mp h2).1]; exact h2
theorem PartAt.same {H H' : Hp} (S : Same H H') {v : V} {p : Part} (h : PartAt H v p) : PartAt H' v p := by
  cases p with
  | inl x => exact h
  | inr ks => obtain ⟨q, e, hq⟩ := h; exact ⟨q, e, S _ _ hq⟩
theorem PartsAt.same {H H' : Hp} (S : Same H H') {vs : List V} {ps : List Part} (h : PartsAt H vs ps) : PartsAt H' vs ps := ⟨h.len, fun i v p h1 h2 => (h.at_ i v p h1 h2).same S⟩
def ltF (t : Int) (x : V) : Option V := match x with
  | .int i => if i < t then some (.int i) else none
  | _ => none
theorem fm_lt (t : Int) : ∀ ns : List Int, (ns.map V.int).filterMap (ltF t) = (ns.filter fun x => decide (x < t)).map V.int
  | [] => rfl
  | x :: r => by
    have ih := fm_lt t r
    rw [List.map_cons]
    by_cases h : x < t
    · rw [List.filterMap_cons_some (b := .int x) (by show (if x < t then some (V.int x) else none) = _; rw [if_pos h]), List.filter_cons_of_pos (by simpa using h), ih]; rfl
    · rw [List.filterMap_cons_none (by show (if x < t then some (V.int x) else none) = _; rw [if_neg h]), List.filter_cons_of_neg (by simpa using h), ih]
def sp_wt : Sp := fun vs H Q _ => ∃ (p rl : Addr) (r : Row) (ns : List Int) (words many : Int) (sg : List Sg), vs = [.ref p, .ref rl] ∧ RowAt H p r ∧ RowFit words many sg r ∧ H rl = some (.lst (ns.map V.int)) ∧ ns.length ≤ 1000 ∧ ∀ (p' : Addr) (H' : Hp), Same H H' → RowAt H' p' (tgt ns r) → Q (.ref p') H'
set_option maxHeartbeats 2000000 in
theorem ok_with_target (T : Txt K mg a) : FnOk P w K mg base CX0 1 a.f_with_target a.d_with_target ["row", "rests"] sp_wt := by
  refine T.F_with_target.okC sc_with_target (fun vs H Q E h => ?_) (fun cdv A outer s H vs Q E hr h => ?_)
  · obtain ⟨p, rl, r, ns, words, many, sg, rfl, _⟩ := h
    rfl
  · obtain ⟨p, rl, r, ns, words, many, sg, rfl, RA, RF, hl, ln, q⟩ := h
    have hu := hu_of hr
    refine ⟨_, (@pss_cons _ _ _ _ _ (@ps_if _ _ _ _ _ _ _ _ (pt_cmpR op_notIn_seq (pe_ix ix_F (pv 0) pe_int (fun _ _ => rfl)) (pe_tup (@pa_cstr _ _ _ _ _ _ (@pa_cstr _ _ _ _ _ _ (@pa_cstr _ _ _ _ _ _ (@pa_cstr _ _ _ _ _ _ pa_nil))))) (by with_unfolding_all rfl)) (@pss_one _ _ _ (ps_ret (pv 0))) pss_nil)
      (@pss_cons _ _ _ _ _ (ps_set (i := 2) sc_with_target.nd (by rfl) (Or.inr rfl) (pe_ix ix_F (pv 0) (pe_un un_neg pe_int) (fun _ _ => rfl)))
      (@pss_one _ _ _ (ps_ret (pe_op op_catT (pe_slice sl_tup (pv 0) po_none (po_some (pe_un un_neg pe_int))) (pe_tup (pa_cons (pe_op op_add (pv 2) (pe_callB call_lenF (by rfl) T.z_len (by decide +kernel) (pa_cons (pe_comp (N' := ["at", "t"]) (cap := [none, some 2]) ⟨rfl, (by decide +kernel), (by decide +kernel), (by rfl), rfl, (by rfl)⟩ (by rfl) (pi_list (pv 1)) (fun C_ ex_ s_ H_ => (pg_name (i := 0) (show (["at", "t"] : List Str).Nodup by decide +kernel) (by rfl) (Or.inl rfl))) gkp_name (fun C_ ex_ s_ H_ => (pifs_one (pt_cmpR op_lt (pv 0) (pv 1) (nomark _)))) (fun C_ ex_ s_ H_ => (pv 0))) pa_nil))) pa_nil))))))), ?_⟩
    have RA0 := RA
    obtain ⟨vs, hp, PA⟩ := RA
    simp! [hp]
    intro t1 n1
    have hp1 : upd H t1 (.tup [.str "jump", .str "zero", .str "none", .str "same"]) p = some (.tup (.str r.1 :: vs)) := upd_old hp n1
    have ht1 : upd H t1 (.tup [.str "jump", .str "zero", .str "none", .str "same"]) t1 = some (.tup [.str "jump", .str "zero", .str "none", .str "same"]) := upd_same
    have S1 : Same H (upd H t1 (.tup [.str "jump", .str "zero", .str "none", .str "same"])) := Same.laid n1
    revert hp1 ht1 S1
    generalize upd H t1 (.tup [.str "jump", .str "zero", .str "none", .str "same"]) = H1
    intro hp1 ht1 S1
    refine in_to ⟨t1, rfl, .inl ht1⟩ ?_
    rw [if_pos rfl]
    refine ⟨_, rfl, ?_⟩
    by_cases c : r.1 = "jump" ∨ Br r.1
    · rw [if_neg (by simp [c])]
      obtain ⟨pre, x, er, x0, x1, _, lx⟩ := row_to RF c
      rw [er] at PA
      obtain ⟨us, ev, lu⟩ := parts_last PA
      subst ev
      have al : atI (V.str r.1 :: (us ++ [.int x])) (-1) = some (.int x) := by rw [← List.cons_append]; exact atI_last _ _
      simp! [hp1, al]
      simp! [tSl, tNoPart, tPart]
      refine ⟨p, _, rfl, .of hp1, ?_, fun t2 n2 => ?_⟩
      · rintro ⟨_, e⟩
        revert e
        unfold HT.sIx
        simp
        omega
      · rw [← List.cons_append, cut_last]
        have S2 : Same H (upd H1 t2 (.tup (.str r.1 :: us))) := S1.step n2
        have ht2 : upd H1 t2 (.tup (.str r.1 :: us)) t2 = some (.tup (.str r.1 :: us)) := upd_same
        revert S2 ht2
        generalize upd H1 t2 (.tup (.str r.1 :: us)) = H2
        intro S2 ht2
        refine compLS rl (ns.map V.int) (ltF x) (fun Q2 h2 => by simp! []; exact h2) (.of (S2 _ _ hl)) (by rw [sizeLine_eq, List.length_map]; omega) ?_ ?_
        · intro y H3 R N hy S3 hR hN
          obtain ⟨i, hi, rfl⟩ := List.mem_map.mp hy
          simp! [capSt]
          by_cases lt : i < x
          · rw [if_pos lt]
            exact hR _ _ (by show (if i < x then some (V.int i) else none) = _; rw [if_pos lt]) (Same.refl _)
          · rw [if_neg lt]
            exact hN (by show (if i < x then some (V.int i) else none) = _; rw [if_neg lt]) _ (Same.refl _)
        · intro D H3 hD S3 e3
          rw [fm_lt] at e3
          simp! [e3]
          intro t3 n3
          have ht3 : upd H3 t3 (.tup [.int (x + (((ns.filter fun x_1 => decide (x_1 < x)).map V.int).length : Int))]) t2 = some (.tup (.str r.1 :: us)) := upd_old (S3 _ _ ht2) n3
          refine ⟨t2, t3, _, _, rfl, rfl, .of ht3, .of upd_same, by simp, ?_, fun z => by simp at z, fun _ p' np => ?_⟩
          · rw [sizeLine_eq]
            have := PA.len
            have l3 : r.2.length ≤ 3 := by
              obtain ⟨ls, m, l, _⟩ := RF
              rw [l]
              exact (LW_ok _ m).1
            rw [er] at l3
            simp at this l3 ⊢
            omega
          · refine q p' _ (((S2.trans S3).step n3).step np) ?_
            unfold tgt
            rw [if_pos c, lx, er, List.dropLast_concat]
            refine ⟨us ++ [.int (x + cnt ns x)], ?_, ?_⟩
            · rw [upd_same]
              show some (HO.tup _) = some (HO.tup _)
              congr 2
              unfold cnt
              rw [List.length_map]
              rfl
            · exact (PartsAt.same (((S2.trans S3).step n3).step np) PA.init).snoc rfl
    · rw [if_pos (by simp [c])]
      refine q p H1 S1 ?_
      unfold tgt
      rw [if_neg c]
      exact RA0.same S1

end
end Law

namespace Law
open PySem L2
local macro_rules | `(tactic| simp! [$ls,*]) => `(tactic| simp only [tSeq, tAsg, gName, tVar, tC, tOp, tUn, rI0, rI, rU, tCB, tCons, tNil, tRet, tRetN, tIfS, tTest, tB, tAnd, tOr, tNot, tAndV, tOrV, tNotV, tIf, tDrop, tNext, tCall, tMeth, tIsN, tNotN, L2.start, List.map_cons, List.map_nil, List.length_cons, List.length_nil, List.nil_append, List.cons_append, List.append_nil, Nat.reduceAdd, Nat.reduceSub, Nat.sub_self, List.replicate_succ, List.replicate_zero, List.set_cons_zero, List.set_cons_succ, List.getElem?_cons_zero, List.getElem?_cons_succ, Option.some.injEq, V.int.injEq, V.bl.injEq, V.str.injEq, V.ref.injEq, List.cons.injEq, exists_eq_left', exists_eq_left, exists_and_left, and_true, true_and, if_true, if_false, ite_true, ite_false, Bool.true_eq_false, Bool.false_eq_true, decide_eq_true_eq, Bool.not_true, Bool.not_false, Bool.not_eq_true', decide_eq_false_iff_not, reduceCtorEq, false_and, and_false, exists_false, tTup, tLst, sizeLine_eq, Nat.reduceLeDiff, Nat.zero_le, rEq, rNe, rIxF, rEqF, gSub, rSetL, HO.lst.injEq, HO.tup.injEq, HO.ins.injEq, HO.dK.injEq, scal_int, scal_bl, scal_str, tyF_ref, tyF_int, tyF_bl, tyF_str, tyF_non, lenF_ref, seqV_eq, kindV_eq, tyO_lst, tyO_frz, tyO_tup, tyO_dK, lenO_lst, lenO_frz, lenO_tup, seqO_lst, seqO_frz, seqO_tup, kindO_lst, kindO_frz, kindO_tup, isTys, and_assoc, atI_0, atI_1, atI_2, atI_3, atI_4, upd_same, V.ty.injEq, eq_self_iff_true, and_self, String.reduceEq, or_false, or_true, false_or, true_or, Bool.or_true, Bool.or_false, Bool.true_or, Bool.false_or, Bool.and_false, Bool.false_and, Bool.and_true, Bool.true_and, String.reduceBEq, beq_self_eq_true, tDGetF, tDInF, tDNotInF, sDPutF, keyOf_int, keyOf_str, sFld, tFld, tDNewK, tRaise, tMethE, EX, tFstr, tMake, cxOf_K, Nat.reduceLT, Option.join_some, Option.join_none, not_true_eq_false, not_false_eq_true, gCons, gNil, tChain, rEqE, tAug, ipI, $ls,*])
section
variable {P : Program} {w : World} {K : PySem.W.Frag} {mg : Str → Option Value} {base : Heap} {a : Ad}

def rowRest : Row := ("rest", [])
def ro (ns : List Int) (i : Nat) (r : Row) : List Row := (if (i : Int) ∈ ns then [rowRest] else []) ++ [tgt ns r]
def rsts (ns : List Int) : List Row → Nat → List Row
  | [], _ => []
  | r :: rs, k => ro ns k r ++ rsts ns rs (k + 1)
theorem rsts_snoc (ns : List Int) (r : Row) : ∀ (rs : List Row) (k : Nat), rsts ns (rs ++ [r]) k = rsts ns rs k ++ ro ns (k + rs.length) r
  | [], k => by simp [rsts]
  | x :: rs, k => by
    rw [List.cons_append]
    show ro ns k x ++ rsts ns (rs ++ [r]) (k + 1) = ro ns k x ++ rsts ns rs (k + 1) ++ _
    rw [rsts_snoc ns r rs (k + 1), List.append_assoc, List.length_cons, show k + 1 + rs.length = k + (rs.length + 1) by omega]
theorem rsts_len (ns : List Int) : ∀ (rs : List Row) (k : Nat), (rsts ns rs k).length ≤ 2 * rs.length
  | [], _ => Nat.le_refl _
  | x :: rs, k => by
    have := rsts_len ns rs (k + 1)
    show (ro ns k x ++ rsts ns rs (k + 1)).length ≤ _
    unfold ro
    rw [List.length_append, List.length_append]
    have : (if (k : Int) ∈ ns then [rowRest] else []).length ≤ 1 := by split <;> simp
    simp
    omega
theorem RowsOf.rl {H : Hp} {rl : Addr} {rs : List Addr} {rws : List Row} (h : RowsOf H rl rs rws) : RL H rs rws := ⟨h.len, h.row⟩
def sp_rr : Sp := fun vs H Q _ => ∃ (rl nl : Addr) (rs : List Addr) (rws : List Row) (ns : List Int), vs = [.ref rl, .ref nl] ∧ RowsOf H rl rs rws ∧ (∀ r ∈ rws, ∃ (words many : Int) (sg : List Sg), RowFit words many sg r) ∧ rws.length ≤ 40 ∧ H nl = some (.lst (ns.map V.int)) ∧ ns.length ≤ 1000 ∧
  ∀ (fl : Addr) (fs : List Addr) (H' : Hp), H fl = none → Same H H' → RowsOf H' fl fs (rsts ns rws 0) → Q (.ref fl) H'
set_option maxHeartbeats 2000000 in
theorem ok_rested_rows (T : Txt K mg a) : FnOk P w K mg base CX0 2 a.f_rested_rows a.d_rested_rows ["rows", "rests"] sp_rr := by
  refine T.F_rested_rows.okC sc_rested_rows (fun vs H Q E h => ?_) (fun cdv A outer s H vs Q E hr h => ?_)
  · obtain ⟨rl, nl, rs, rws, ns, rfl, _⟩ := h
    rfl
  · obtain ⟨rl, nl, rs, rws, ns, rfl, RO, RF, l40, hn, ln, q⟩ := h
    have hu := hu_of hr
    have lr := RO.len
    refine ⟨_, (@pss_cons _ _ _ _ _ (ps_set (i := 2) sc_rested_rows.nd (by rfl) (Or.inl rfl) (pe_lst pa_nil))
      (@pss_cons _ _ _ _ _ (ps_for PassesOwn.never (by rfl) (pi_enum (by rfl) T.z_enumerate (@pa_cname _ _ _ _ _ _ (pv 0) pa_nil)) (pg_tup (n := 2) (by rfl) (pgs_cons (pg_name (i := 3) sc_rested_rows.nd (by rfl) (Or.inl rfl)) (pgs_cons (pg_name (i := 4) sc_rested_rows.nd (by rfl) (Or.inl rfl)) pgs_nil)))
      (@pss_cons _ _ _ _ _ (@ps_if _ _ _ _ _ _ _ _ (pt_cmpR op_in_seq (pv 3) (pv 1) (by with_unfolding_all rfl)) (@pss_one _ _ _ (ps_expr (pe_bm PySem.F.plainAttrs_list PySem.F.slot_list_append PySem.F.type_list_append mt_append (pv 2) (pa_cons (pe_tup (@pa_cstr _ _ _ _ _ _ pa_nil)) pa_nil)))) pss_nil)
      (@pss_one _ _ _ (ps_expr (pe_bm PySem.F.plainAttrs_list PySem.F.slot_list_append PySem.F.type_list_append mt_append (pv 2) (pa_cons (pe_call (ok_with_target T) (hr.mono (by decide)) (by rfl) T.m_with_target T.F_with_target.kp T.b_with_target .nil pass0 (@pa_cname _ _ _ _ _ _ (pv 4) (@pa_cname _ _ _ _ _ _ (pv 1) pa_nil))) pa_nil))))))
      (@pss_one _ _ _ (ps_ret (pv 2))))), ?_⟩
    simp! []
    intro fl nf
    refine forE rl (rs.map V.ref) (fun Q2 h2 => by simp! []; exact h2) (fun i σ H2 => ∃ (v3 v4 : Option V) (fs : List Addr), σ = [some (.ref rl), some (.ref nl), some (.ref fl), v3, v4] ∧ Same H H2 ∧ H2 fl = some (.lst (fs.map V.ref)) ∧ RL H2 fs (rsts ns (rws.take i) 0)) ⟨_, _, [], rfl, Same.laid nf, upd_same, rfl, fun i p r h1 _ => by cases h1⟩ ?_ ?_ ?_
    · rintro i σ H2 hi ⟨_, _, _, _, S2, _⟩
      exact .of (S2 _ _ RO.top)
    · rintro i x t σ H2 hx ⟨v3, v4, fs, rfl, S2, h2, R2⟩ nt
      obtain ⟨p, hpi, rfl⟩ := of_map_get hx
      have il : i < rws.length := by rw [← lr]; exact (List.getElem?_eq_some_iff.mp hpi).1
      have hri := List.getElem?_eq_getElem il
      have RA := (RO.row i p _ hpi hri).same S2
      obtain ⟨words, many, sg, RFi⟩ := RF _ (List.getElem_mem il)
      revert hri RA RFi
      generalize rws[i] = r
      intro hri RA RFi
      refine gTup_of upd_same rfl ?_
      have S3 : Same H (upd H2 t (.tup [.int i, .ref p])) := S2.step nt
      have h3 : upd H2 t (.tup [.int i, .ref p]) fl = some (.lst (fs.map V.ref)) := upd_old h2 nt
      have R3 : RL (upd H2 t (.tup [.int i, .ref p])) fs (rsts ns (rws.take i) 0) := R2.same (Same.laid nt)
      have RA3 : RowAt (upd H2 t (.tup [.int i, .ref p])) p r := RA.same (Same.laid nt)
      revert S3 h3 R3 RA3
      generalize upd H2 t (.tup [.int i, .ref p]) = H3
      intro S3 h3 R3 RA3
      have fin : ∀ (H4 : Hp) (fs4 : List Addr) (out : List Row), Same H H4 → H4 fl = some (.lst (fs4.map V.ref)) → RL H4 fs4 out → RowAt H4 p r → out ++ [tgt ns r] = rsts ns (rws.take (i + 1)) 0 → out.length ≤ 1000 → tyV K "list" (V.ref fl) H4 ∧
          sp_wt [V.ref p, V.ref nl] H4 (fun x H1 => rAppend (V.ref fl) [x] H1 fun x H1 => Same H H1 ∧ ∃ x, H1 fl = some (HO.lst (List.map V.ref x)) ∧ RL H1 x (rsts ns (List.take (i + 1) rws) 0)) E0 := by
        intro H4 fs4 out S4 h4 R4 RA4 eo lo4
        refine ⟨.inl ⟨rfl, _, .of h4⟩, p, nl, r, ns, words, many, sg, rfl, RA4, RFi, S4 _ _ hn, ln, fun p' H5 S5 RA5 => ?_⟩
        have h5 := S5 _ _ h4
        refine ⟨fl, _, _, rfl, rfl, h5, by rw [List.length_map, R4.len, sizeLine_eq]; omega, upd_newS (S4.trans S5) nf, fs4 ++ [p'], by rw [upd_same, List.map_append]; rfl, ?_⟩
        rw [← eo]
        exact ((R4.same S5).snoc RA5).put h5
      have lo := rsts_len ns (rws.take i) 0
      rw [List.length_take] at lo
      have et : rsts ns (rws.take (i + 1)) 0 = rsts ns (rws.take i) 0 ++ ro ns i r := by
        rw [List.take_succ, hri]
        show rsts ns (rws.take i ++ [r]) 0 = _
        rw [rsts_snoc, List.length_take, Nat.zero_add, Nat.min_eq_left (by omega)]
      simp! [tBM]
      refine rIn_ints (S3 _ _ hn) ?_
      rw [if_neg (by decide)]
      refine ⟨_, rfl, ?_⟩
      by_cases mm : (i : Int) ∈ ns
      · rw [if_pos (by simpa using mm)]
        refine ⟨.inl ⟨rfl, _, .of h3⟩, fun p1 np1 => ?_⟩
        have h4 : upd H3 p1 (.tup [.str (Str.ofString "rest")]) fl = some (.lst (fs.map V.ref)) := upd_old h3 np1
        refine ⟨fl, _, _, rfl, rfl, h4, by rw [List.length_map, R3.len, sizeLine_eq]; omega, ?_⟩
        have R4 : RL (upd H3 p1 (.tup [.str (Str.ofString "rest")])) (fs ++ [p1]) (rsts ns (rws.take i) 0 ++ [rowRest]) := (R3.same (Same.laid np1)).snoc ⟨[], upd_same, rfl, fun i v q h1 _ => by cases h1⟩
        refine fin _ (fs ++ [p1]) (rsts ns (rws.take i) 0 ++ [rowRest]) (upd_newS (S3.step np1) nf) (by rw [upd_same, List.map_append]; rfl) (R4.put h4) ?_ ?_ ?_
        · exact (RA3.same (Same.laid np1)).fr (Fr.put (M := (· = fl)) rfl fun ys e => by rw [h4] at e; cases e)
        · rw [et, List.append_assoc]
          unfold ro
          rw [if_pos mm]
        · rw [List.length_append, List.length_singleton]; omega
      · rw [if_neg (by simpa using mm)]
        refine fin H3 fs _ S3 h3 R3 RA3 ?_ (by omega)
        rw [et]
        unfold ro
        rw [if_neg mm]
        rfl
    · rintro σ H2 ⟨v3, v4, fs, rfl, S2, h2, R2⟩
      simp! []
      rw [List.length_map, lr, List.take_length] at R2
      exact q fl fs H2 nf S2 ⟨h2, R2.len, R2.row⟩

end
end Law

namespace Law
open PySem L2
local macro_rules | `(tactic| simp! [$ls,*]) => `(tactic| simp only [tSeq, tAsg, gName, tVar, tC, tOp, tUn, rI0, rI, rU, tCB, tCons, tNil, tRet, tRetN, tIfS, tTest, tB, tAnd, tOr, tNot, tAndV, tOrV, tNotV, tIf, tDrop, tNext, tCall, tMeth, tIsN, tNotN, L2.start, List.map_cons, List.map_nil, List.length_cons, List.length_nil, List.nil_append, List.cons_append, List.append_nil, Nat.reduceAdd, Nat.reduceSub, Nat.sub_self, List.replicate_succ, List.replicate_zero, List.set_cons_zero, List.set_cons_succ, List.getElem?_cons_zero, List.getElem?_cons_succ, Option.some.injEq, V.int.injEq, V.bl.injEq, V.str.injEq, V.ref.injEq, List.cons.injEq, exists_eq_left', exists_eq_left, exists_and_left, and_true, true_and, if_true, if_false, ite_true, ite_false, Bool.true_eq_false, Bool.false_eq_true, decide_eq_true_eq, Bool.not_true, Bool.not_false, Bool.not_eq_true', decide_eq_false_iff_not, reduceCtorEq, false_and, and_false, exists_false, tTup, tLst, sizeLine_eq, Nat.reduceLeDiff, Nat.zero_le, rEq, rNe, rIxF, rEqF, gSub, rSetL, HO.lst.injEq, HO.tup.injEq, HO.ins.injEq, HO.dK.injEq, scal_int, scal_bl, scal_str, tyF_ref, tyF_int, tyF_bl, tyF_str, tyF_non, lenF_ref, seqV_eq, kindV_eq, tyO_lst, tyO_frz, tyO_tup, tyO_dK, lenO_lst, lenO_frz, lenO_tup, seqO_lst, seqO_frz, seqO_tup, kindO_lst, kindO_frz, kindO_tup, isTys, and_assoc, atI_0, atI_1, atI_2, atI_3, atI_4, upd_same, V.ty.injEq, eq_self_iff_true, and_self, String.reduceEq, or_false, or_true, false_or, true_or, Bool.or_true, Bool.or_false, Bool.true_or, Bool.false_or, Bool.and_false, Bool.false_and, Bool.and_true, Bool.true_and, String.reduceBEq, beq_self_eq_true, tDGetF, tDInF, tDNotInF, sDPutF, keyOf_int, keyOf_str, sFld, tFld, tDNewK, tRaise, tMethE, EX, tFstr, tMake, cxOf_K, Nat.reduceLT, Option.join_some, Option.join_none, not_true_eq_false, not_false_eq_true, gCons, gNil, tChain, rEqE, tAug, ipI, $ls,*])
section
variable {P : Program} {w : World} {K : PySem.W.Frag} {mg : Str → Option Value} {base : Heap} {a : Ad}

abbrev DA := Addr × Addr × List Addr
def DefA (H : Hp) (a : DA) (d : Df) : Prop := H a.1 = some (.tup [.str d.1.1, .str d.1.2, .int d.2.1, .ref a.2.1]) ∧ RowsOf H a.2.1 a.2.2 d.2.2
theorem DefA.same {H H' : Hp} {a : DA} {d : Df} (S : Same H H') (h : DefA H a d) : DefA H' a d := ⟨S _ _ h.1, h.2.same S⟩
theorem DefA.put {H : Hp} {a : DA} {d : Df} {fl : Addr} {xs : List V} {u : HO} (h : DefA H a d) (hf : H fl = some (.lst xs)) (n : a.2.1 ≠ fl) : DefA (upd H fl u) a d := by
  refine ⟨by rw [upd_ne (fun e => by rw [← e, h.1] at hf; cases hf)]; exact h.1, ?_⟩
  exact h.2.fr (M := (· = fl)) (Fr.put rfl fun ys e => by rw [hf] at e; cases e) n
structure DL (H : Hp) (as : List DA) (ds : List Df) : Prop where
  len : as.length = ds.length
  def_ : ∀ (i : Nat) (a : DA) (d : Df), as[i]? = some a → ds[i]? = some d → DefA H a d
theorem DL.same {H H' : Hp} {as : List DA} {ds : List Df} (S : Same H H') (h : DL H as ds) : DL H' as ds := ⟨h.len, fun i a d h1 h2 => (h.def_ i a d h1 h2).same S⟩
theorem DL.put {H : Hp} {as : List DA} {ds : List Df} {fl : Addr} {xs : List V} {u : HO} (h : DL H as ds) (hf : H fl = some (.lst xs)) (n : ∀ a ∈ as, a.2.1 ≠ fl) : DL (upd H fl u) as ds :=
  ⟨h.len, fun i a d h1 h2 => (h.def_ i a d h1 h2).put hf (n a (List.mem_of_getElem? h1))⟩
theorem DL.snoc {H : Hp} {as : List DA} {ds : List Df} {a : DA} {d : Df} (h : DL H as ds) (hr : DefA H a d) : DL H (as ++ [a]) (ds ++ [d]) := by
  refine ⟨by rw [List.length_append, List.length_append, h.len]; rfl, fun i q x h1 h2 => ?_⟩
  rcases Nat.lt_trichotomy i as.length with c | c | c
  · rw [List.getElem?_append_left c] at h1
    rw [List.getElem?_append_left (by rw [← h.len]; exact c)] at h2
    exact h.def_ i q x h1 h2
  · subst c
    rw [List.getElem?_append_right (Nat.le_refl _), Nat.sub_self] at h1
    rw [h.len, List.getElem?_append_right (Nat.le_refl _), Nat.sub_self] at h2
    cases h1
    cases h2
    exact hr
  · rw [List.getElem?_eq_none (by simp; omega)] at h1
    cases h1
structure RestsAt (H : Hp) (ll : Addr) (las : List Addr) (nss : List (List Int)) : Prop where
  top : H ll = some (.lst (las.map V.ref))
  len : las.length = nss.length
  at_ : ∀ (i : Nat) (p : Addr) (ns : List Int), las[i]? = some p → nss[i]? = some ns → H p = some (.lst (ns.map V.int))
theorem RestsAt.same {H H' : Hp} {ll : Addr} {las : List Addr} {nss : List (List Int)} (S : Same H H') (h : RestsAt H ll las nss) : RestsAt H' ll las nss := ⟨S _ _ h.top, h.len, fun i p ns h1 h2 => S _ _ (h.at_ i p ns h1 h2)⟩
def DefOk (d : Df) : Prop := d.2.2.length ≤ 40 ∧ ∀ r ∈ d.2.2, ∃ (words many : Int) (sg : List Sg), RowFit words many sg r
def restD (d : Df) (ns : List Int) : Df := (d.1, d.2.1, rsts ns d.2.2 0)
def sp_rested : Sp := fun vs H Q _ => ∃ (pl ll : Addr) (das : List DA) (ds : List Df) (las : List Addr) (nss : List (List Int)), vs = [.ref pl, .ref ll] ∧ ProgAt H pl das ds ∧ (∀ d ∈ ds, DefOk d) ∧ ds.length ≤ 8 ∧ RestsAt H ll las nss ∧ nss.length = ds.length ∧ (∀ ns ∈ nss, ns.length ≤ 1000) ∧
  ∀ (fl : Addr) (fas : List DA) (H' : Hp), H fl = none → Same H H' → ProgAt H' fl fas (List.zipWith restD ds nss) → (∀ a ∈ fas, H a.2.1 = none ∧ a.2.1 ≠ fl) → (fas.map (·.2.1)).Nodup → Q (.ref fl) H'
set_option maxHeartbeats 2000000 in
theorem ok_rested (T : Txt K mg a) : FnOk P w K mg base CX0 3 a.f_rested a.d_rested ["program", "rests"] sp_rested := by
  refine T.F_rested.okC sc_rested (fun vs H Q E h => ?_) (fun cdv A outer s H vs Q E hr h => ?_)
  · obtain ⟨pl, ll, das, ds, las, nss, rfl, _⟩ := h
    rfl
  · obtain ⟨pl, ll, das, ds, las, nss, rfl, PR, OK, l8, RS, ln, lns, q⟩ := h
    have hu := hu_of hr
    have lp := PR.len
    have lr := RS.len
    refine ⟨_, (@pss_cons _ _ _ _ _ (ps_set (i := 2) sc_rested.nd (by rfl) (Or.inl rfl) (pe_lst pa_nil))
      (@pss_cons _ _ _ _ _ (ps_for PassesOwn.never (by rfl) (pi_enum (by rfl) T.z_enumerate (@pa_cname _ _ _ _ _ _ (pv 0) pa_nil)) (pg_tup (n := 2) (by rfl) (pgs_cons (pg_name (i := 3) sc_rested.nd (by rfl) (Or.inl rfl)) (pgs_cons (pg_name (i := 4) sc_rested.nd (by rfl) (Or.inl rfl)) pgs_nil)))
      (@pss_one _ _ _ (ps_expr (pe_bm PySem.F.plainAttrs_list PySem.F.slot_list_append PySem.F.type_list_append mt_append (pv 2) (pa_cons (pe_tup (pa_cons (pe_ix ix_F (pv 4) pe_int (fun _ _ => rfl)) (pa_cons (pe_ix ix_F (pv 4) pe_int (fun _ _ => rfl)) (pa_cons (pe_ix ix_F (pv 4) pe_int (fun _ _ => rfl)) (pa_cons (pe_call (ok_rested_rows T) (hr.mono (by decide)) (by rfl) T.m_rested_rows T.F_rested_rows.kp T.b_rested_rows .nil pass0 (pa_cons (pe_ix ix_F (pv 4) pe_int (fun _ _ => rfl)) (pa_cons (pe_ix ix_F (pv 1) (pv 3) (fun _ _ => rfl)) pa_nil))) pa_nil))))) pa_nil)))))
      (@pss_one _ _ _ (ps_ret (pv 2))))), ?_⟩
    simp! []
    intro fl nf
    refine forE pl (das.map fun a => V.ref a.1) (fun Q2 h2 => by simp! []; exact h2) (fun i σ H2 => ∃ (v3 v4 : Option V) (fas : List DA), σ = [some (.ref pl), some (.ref ll), some (.ref fl), v3, v4] ∧ Same H H2 ∧ H2 fl = some (.lst (fas.map fun a => V.ref a.1)) ∧ DL H2 fas (List.zipWith restD (ds.take i) (nss.take i)) ∧ (∀ a ∈ fas, H a.2.1 = none ∧ a.2.1 ≠ fl ∧ ∃ o, H2 a.2.1 = some o) ∧ (fas.map (·.2.1)).Nodup)
      ⟨_, _, [], rfl, Same.laid nf, upd_same, ⟨rfl, fun i p r h1 _ => by cases h1⟩, (fun a h => by cases h), List.nodup_nil⟩ ?_ ?_ ?_
    · rintro i σ H2 hi ⟨_, _, _, _, S2, _⟩
      exact .of (S2 _ _ PR.top)
    · rintro i x t σ H2 hx ⟨v3, v4, fas, rfl, S2, h2, D2, fr, nd⟩ nt
      obtain ⟨da, hda, rfl⟩ := of_map_get hx
      have il : i < ds.length := by rw [← lp]; exact (List.getElem?_eq_some_iff.mp hda).1
      have hdi := List.getElem?_eq_getElem il
      have hni := List.getElem?_eq_getElem (l := nss) (i := i) (by omega)
      have hli := List.getElem?_eq_getElem (l := las) (i := i) (by omega)
      have DA0 : DefA H da ds[i] := PR.def_ i da _ hda hdi
      have ok := OK _ (List.getElem_mem il)
      have hns := RS.at_ i _ _ hli hni
      have l1000 := lns _ (List.mem_of_getElem? hni)
      revert hdi hni hli DA0 ok hns l1000
      generalize ds[i] = d
      generalize nss[i] = ns
      generalize las[i] = lp1
      intro hdi hni hli DA0 ok hns l1000
      refine gTup_of upd_same rfl ?_
      have S3 : Same H2 (upd H2 t (.tup [.int i, .ref da.1])) := Same.laid nt
      revert S3
      generalize upd H2 t (.tup [.int i, .ref da.1]) = H3
      intro S3
      have DA3 := (DA0.same S2).same S3
      have hd3 := DA3.1
      have hl3 := S3 _ _ (S2 _ _ RS.top)
      have al : atI (las.map V.ref) ((i : Nat) : Int) = some (.ref lp1) := atI_nat (by rw [List.getElem?_map, hli]; rfl)
      have h3 := S3 _ _ h2
      simp! [tBM, hd3, hl3, al]
      obtain ⟨l40, RF⟩ := ok
      refine ⟨.inl ⟨rfl, _, .of h3⟩, da.2.1, lp1, da.2.2, d.2.2, ns, rfl, DA3.2, RF, l40, S3 _ _ (S2 _ _ hns), l1000, fun rl fs H4 nrl S4 RO4 p np => ?_⟩
      have S05 : Same H (upd H4 p (.tup [.str d.1.1, .str d.1.2, .int d.2.1, .ref rl])) := ((S2.trans S3).trans S4).step np
      have S35 : Same H3 (upd H4 p (.tup [.str d.1.1, .str d.1.2, .int d.2.1, .ref rl])) := S4.step np
      have D5 : DL (upd H4 p (.tup [.str d.1.1, .str d.1.2, .int d.2.1, .ref rl])) (fas ++ [(p, rl, fs)]) (List.zipWith restD (ds.take i) (nss.take i) ++ [restD d ns]) := ((D2.same S3).same S35).snoc ⟨upd_same, RO4.same (Same.laid np)⟩
      have h5 := S35 _ _ h3
      have rl5 := (RO4.same (Same.laid (u := .tup [.str d.1.1, .str d.1.2, .int d.2.1, .ref rl]) np)).top
      revert S05 S35 D5 h5 rl5
      generalize upd H4 p (.tup [.str d.1.1, .str d.1.2, .int d.2.1, .ref rl]) = H5
      intro S05 S35 D5 h5 rl5
      have nrf : rl ≠ fl := fun e => by rw [e, h3] at nrl; cases nrl
      have nrH : H rl = none := (S2.trans S3).free nrl
      have lf : fas.length ≤ 8 := by
        have := D2.len
        rw [List.length_zipWith, List.length_take, List.length_take] at this
        omega
      refine ⟨fl, _, _, rfl, rfl, h5, by rw [List.length_map, sizeLine_eq]; omega, upd_newS S05 nf, fas ++ [(p, rl, fs)], by rw [upd_same, List.map_append]; rfl, ?_, ?_, ?_⟩
      · have ez : List.zipWith restD (ds.take (i + 1)) (nss.take (i + 1)) = List.zipWith restD (ds.take i) (nss.take i) ++ [restD d ns] := by
          rw [List.take_succ, List.take_succ, hdi, hni]
          show List.zipWith restD (ds.take i ++ [d]) (nss.take i ++ [ns]) = _
          rw [List.zipWith_append (by rw [List.length_take, List.length_take]; omega)]
          rfl
        rw [ez]
        refine D5.put h5 fun a ha => ?_
        rcases List.mem_append.mp ha with ha | ha
        · exact (fr a ha).2.1
        · rw [List.mem_singleton.mp ha]; exact nrf
      · intro a ha
        rcases List.mem_append.mp ha with ha | ha
        · obtain ⟨g1, g2, o, g3⟩ := fr a ha
          exact ⟨g1, g2, o, by rw [upd_ne g2]; exact S35 _ _ (S3 _ _ g3)⟩
        · rw [List.mem_singleton.mp ha]
          exact ⟨nrH, nrf, _, by rw [upd_ne nrf]; exact rl5⟩
      · rw [List.map_append]
        refine List.nodup_append.mpr ⟨nd, by simp, fun y hy z hz => ?_⟩
        obtain ⟨a, ha, rfl⟩ := List.mem_map.mp hy
        obtain ⟨_, _, o, g3⟩ := fr a ha
        simp at hz
        rw [hz]
        intro e
        rw [e] at g3
        rw [S3 _ _ g3] at nrl
        cases nrl
    · rintro σ H2 ⟨v3, v4, fas, rfl, S2, h2, D2, fr, nd⟩
      simp! []
      rw [List.length_map, lp, List.take_length, ← ln, List.take_length] at D2
      exact q fl fas H2 nf S2 ⟨h2, D2.len, D2.def_⟩ (fun a h => ⟨(fr a h).1, (fr a h).2.1⟩) nd

end
end Law

namespace Law
open PySem L2
local macro_rules | `(tactic| simp! [$ls,*]) => `(tactic| simp only [tSeq, tAsg, gName, tVar, tC, tOp, tUn, rI0, rI, rU, tCB, tCons, tNil, tRet, tRetN, tIfS, tTest, tB, tAnd, tOr, tNot, tAndV, tOrV, tNotV, tIf, tDrop, tNext, tCall, tMeth, tIsN, tNotN, L2.start, List.map_cons, List.map_nil, List.length_cons, List.length_nil, List.nil_append, List.cons_append, List.append_nil, Nat.reduceAdd, Nat.reduceSub, Nat.sub_self, List.replicate_succ, List.replicate_zero, List.set_cons_zero, List.set_cons_succ, List.getElem?_cons_zero, List.getElem?_cons_succ, Option.some.injEq, V.int.injEq, V.bl.injEq, V.str.injEq, V.ref.injEq, List.cons.injEq, exists_eq_left', exists_eq_left, exists_and_left, and_true, true_and, if_true, if_false, ite_true, ite_false, Bool.true_eq_false, Bool.false_eq_true, decide_eq_true_eq, Bool.not_true, Bool.not_false, Bool.not_eq_true', decide_eq_false_iff_not, reduceCtorEq, false_and, and_false, exists_false, tTup, tLst, sizeLine_eq, Nat.reduceLeDiff, Nat.zero_le, rEq, rNe, rIxF, rEqF, gSub, rSetL, HO.lst.injEq, HO.tup.injEq, HO.ins.injEq, HO.dK.injEq, scal_int, scal_bl, scal_str, tyF_ref, tyF_int, tyF_bl, tyF_str, tyF_non, lenF_ref, seqV_eq, kindV_eq, tyO_lst, tyO_frz, tyO_tup, tyO_dK, lenO_lst, lenO_frz, lenO_tup, seqO_lst, seqO_frz, seqO_tup, kindO_lst, kindO_frz, kindO_tup, isTys, and_assoc, atI_0, atI_1, atI_2, atI_3, atI_4, upd_same, V.ty.injEq, eq_self_iff_true, and_self, String.reduceEq, or_false, or_true, false_or, true_or, Bool.or_true, Bool.or_false, Bool.true_or, Bool.false_or, Bool.and_false, Bool.false_and, Bool.and_true, Bool.true_and, String.reduceBEq, beq_self_eq_true, tDGetF, tDInF, tDNotInF, sDPutF, keyOf_int, keyOf_str, sFld, tFld, tDNewK, tRaise, tMethE, EX, tFstr, tMake, cxOf_K, Nat.reduceLT, Option.join_some, Option.join_none, not_true_eq_false, not_false_eq_true, gCons, gNil, tChain, rEqE, tAug, ipI, $ls,*])
section
variable {P : Program} {w : World} {K : PySem.W.Frag} {mg : Str → Option Value} {base : Heap} {a : Ad}
def cle (ns : List Int) (t : Int) : Nat := (ns.filter fun x => decide (x ≤ t)).length
theorem cle_cnt (t : Int) : ∀ {ns : List Int}, ns.Pairwise (· < ·) → cle ns t = cnt ns t + if t ∈ ns then 1 else 0
  | [], _ => rfl
  | x :: r, h => by
    obtain ⟨h1, h2⟩ := List.pairwise_cons.mp h
    have ih := cle_cnt t h2
    unfold cle cnt at ih ⊢
    rcases Int.lt_trichotomy x t with c | c | c
    · rw [List.filter_cons_of_pos (by simp; omega), List.filter_cons_of_pos (by simpa using c), List.length_cons, List.length_cons, ih]
      have : (t ∈ x :: r) ↔ t ∈ r := by
        rw [List.mem_cons]
        exact ⟨fun z => z.elim (fun e => by omega) id, .inr⟩
      simp only [this]
      omega
    · subst c
      have e1 : r.filter (fun y => decide (y ≤ x)) = [] := List.filter_eq_nil_iff.mpr fun y hy => by simp; exact h1 y hy
      have e2 : r.filter (fun y => decide (y < x)) = [] := List.filter_eq_nil_iff.mpr fun y hy => by simp; have := h1 y hy; omega
      rw [List.filter_cons_of_pos (by simp), List.filter_cons_of_neg (by simp), e1, e2, if_pos List.mem_cons_self]
      rfl
    · have e1 : r.filter (fun y => decide (y ≤ t)) = [] := List.filter_eq_nil_iff.mpr fun y hy => by simp; have := h1 y hy; omega
      have e2 : r.filter (fun y => decide (y < t)) = [] := List.filter_eq_nil_iff.mpr fun y hy => by simp; have := h1 y hy; omega
      rw [List.filter_cons_of_neg (by simp; omega), List.filter_cons_of_neg (by simp; omega), e1, e2, if_neg]
      · rfl
      · intro z
        rcases List.mem_cons.mp z with e | e
        · omega
        · have := h1 _ e; omega
theorem cnt_succ (ns : List Int) (i : Nat) : cnt ns ((i + 1 : Nat) : Int) = cle ns i := by
  unfold cnt cle
  congr 1
  apply List.filter_congr
  intro x _
  rw [decide_eq_decide]
  omega
theorem rsts_size {ns : List Int} (u : ns.Pairwise (· < ·)) (b : ∀ x ∈ ns, 0 ≤ x) : ∀ (rs : List Row), (rsts ns rs 0).length = rs.length + cnt ns rs.length := by
  intro rs
  induction h : rs.length generalizing rs with
  | zero =>
    have : cnt ns ((0 : Nat) : Int) = 0 := by
      unfold cnt
      rw [List.filter_eq_nil_iff.mpr fun y hy => by simp; exact b y hy]
      rfl
    rw [List.eq_nil_of_length_eq_zero h, this]
    rfl
  | succ n ih =>
    obtain ⟨xs, r, rfl⟩ : ∃ xs r, rs = xs ++ [r] := ⟨rs.dropLast, rs.getLast (fun e => by rw [e] at h; cases h), (List.dropLast_concat_getLast _).symm⟩
    have hx : xs.length = n := by simpa using h
    rw [rsts_snoc, List.length_append, ih xs hx, hx, cnt_succ, cle_cnt _ u, Nat.zero_add]
    unfold ro
    rw [List.length_append]
    split <;> simp <;> omega
def leF (t : Int) (x : V) : Option V := match x with
  | .int i => if i ≤ t then some (.int i) else none
  | _ => none
theorem fm_le (t : Int) : ∀ ns : List Int, (ns.map V.int).filterMap (leF t) = (ns.filter fun x => decide (x ≤ t)).map V.int
  | [] => rfl
  | x :: r => by
    have ih := fm_le t r
    rw [List.map_cons]
    by_cases h : x ≤ t
    · rw [List.filterMap_cons_some (b := .int x) (by show (if x ≤ t then some (V.int x) else none) = _; rw [if_pos h]), List.filter_cons_of_pos (by simpa using h), ih]; rfl
    · rw [List.filterMap_cons_none (by show (if x ≤ t then some (V.int x) else none) = _; rw [if_neg h]), List.filter_cons_of_neg (by simpa using h), ih]

/-- rests stand at rows: rising, none below 0 -/
structure Up (ns : List Int) : Prop where
  up : ns.Pairwise (· < ·)
  b : ∀ x ∈ ns, 0 ≤ x
theorem rsts_append (ns : List Int) : ∀ (as bs : List Row) (k : Nat), rsts ns (as ++ bs) k = rsts ns as k ++ rsts ns bs (k + as.length)
  | [], bs, k => by simp [rsts]
  | x :: as, bs, k => by
    rw [List.cons_append]
    show ro ns k x ++ rsts ns (as ++ bs) (k + 1) = ro ns k x ++ rsts ns as (k + 1) ++ _
    rw [rsts_append ns as bs (k + 1), List.append_assoc, List.length_cons, show k + 1 + as.length = k + (as.length + 1) by omega]
theorem rsts_at {ns : List Int} (U : Up ns) {rws : List Row} {i : Nat} {r : Row} (h : rws[i]? = some r) : (rsts ns rws 0)[i + cle ns i]? = some (tgt ns r) ∧ ((i : Int) ∈ ns → (rsts ns rws 0)[i + cnt ns i]? = some rowRest) := by
  have il := (List.getElem?_eq_some_iff.mp h).1
  have e : rws = rws.take i ++ (r :: rws.drop (i + 1)) := by
    rw [← (List.getElem?_eq_some_iff.mp h).2, ← List.drop_eq_getElem_cons il, List.take_append_drop]
  have lt : (rws.take i).length = i := by rw [List.length_take]; omega
  have sz := rsts_size U.up U.b (rws.take i)
  rw [lt] at sz
  have er : rsts ns rws 0 = rsts ns (rws.take i) 0 ++ (ro ns i r ++ rsts ns (rws.drop (i + 1)) (i + 1)) := by
    rw [e]
    rw [rsts_append, List.take_left' lt, lt, Nat.zero_add]
    congr 1
    show ro ns i r ++ rsts ns _ (i + 1) = _
    rw [show (rws.take i ++ r :: rws.drop (i + 1)).drop (i + 1) = rws.drop (i + 1) by rw [← e]]
  have cl := cle_cnt (i : Int) U.up
  rw [er]
  by_cases m : (i : Int) ∈ ns
  · rw [if_pos m] at cl
    unfold ro
    rw [if_pos m]
    refine ⟨?_, fun _ => ?_⟩
    · rw [List.getElem?_append_right (by omega), show i + cle ns i - (rsts ns (rws.take i) 0).length = 1 by omega]
      rfl
    · rw [List.getElem?_append_right (by omega), show i + cnt ns i - (rsts ns (rws.take i) 0).length = 0 by omega]
      rfl
  · rw [if_neg m] at cl
    unfold ro
    rw [if_neg m]
    refine ⟨?_, fun z => absurd z m⟩
    rw [List.getElem?_append_right (by omega), show i + cle ns i - (rsts ns (rws.take i) 0).length = 0 by omega]
    rfl
theorem rsts_all {ns : List Int} (U : Up ns) : ∀ (rws : List Row) (q : Nat), q < (rsts ns rws 0).length → ∃ i, i < rws.length ∧ (q = i + cle ns i ∨ ((i : Int) ∈ ns ∧ q = i + cnt ns i)) := by
  intro rws
  induction h : rws.length generalizing rws with
  | zero => intro q hq; rw [List.eq_nil_of_length_eq_zero h] at hq; simp [rsts] at hq
  | succ n ih =>
    obtain ⟨xs, r, rfl⟩ : ∃ xs r, rws = xs ++ [r] := ⟨rws.dropLast, rws.getLast (fun e => by rw [e] at h; cases h), (List.dropLast_concat_getLast _).symm⟩
    have hx : xs.length = n := by simpa using h
    intro q hq
    have sz := rsts_size U.up U.b xs
    rw [hx] at sz
    rw [rsts_snoc, List.length_append, Nat.zero_add, hx] at hq
    by_cases c : q < (rsts ns xs 0).length
    · obtain ⟨i, h1, h2⟩ := ih xs hx q c
      exact ⟨i, by omega, h2⟩
    · have cl := cle_cnt (n : Int) U.up
      refine ⟨n, by omega, ?_⟩
      by_cases m : (n : Int) ∈ ns
      · rw [if_pos m] at cl
        unfold ro at hq
        rw [if_pos m] at hq
        simp at hq
        by_cases d : q = n + cnt ns n
        · exact .inr ⟨m, d⟩
        · exact .inl (by omega)
      · rw [if_neg m] at cl
        unfold ro at hq
        rw [if_neg m] at hq
        simp at hq
        exact .inl (by omega)
def pos (ns : List Int) (x : Int) : Int := x + cle ns x
def ent (ns : List Int) (x : Int) : Int := x + cnt ns x
theorem cle_le_cnt {ns : List Int} {x y : Int} (h : x < y) : cle ns x ≤ cnt ns y := by
  unfold cle cnt
  rw [← List.countP_eq_length_filter, ← List.countP_eq_length_filter]
  exact List.countP_mono_left fun a _ ha => by
    rw [decide_eq_true_eq] at ha ⊢
    omega
theorem cnt_le {ns : List Int} {x : Int} : cnt ns x ≤ cle ns x := by
  unfold cle cnt
  rw [← List.countP_eq_length_filter, ← List.countP_eq_length_filter]
  exact List.countP_mono_left fun a _ ha => by
    rw [decide_eq_true_eq] at ha ⊢
    omega
theorem ent_pos {ns : List Int} (U : Up ns) {x y : Int} (h : ent ns y = pos ns x) : x = y ∧ x ∉ ns := by
  unfold ent pos at h
  have e : x = y := by
    rcases Int.lt_trichotomy x y with c | c | c
    · have := cle_le_cnt (ns := ns) c; omega
    · exact c
    · have := cle_le_cnt (ns := ns) c
      have := cnt_le (ns := ns) (x := x)
      have := cnt_le (ns := ns) (x := y)
      omega
  subst e
  refine ⟨rfl, fun m => ?_⟩
  have cl := cle_cnt x U.up
  rw [if_pos m] at cl
  omega
theorem pos_inj {ns : List Int} {x y : Int} (h : pos ns x = pos ns y) : x = y := by
  unfold pos at h
  rcases Int.lt_trichotomy x y with c | c | c
  · have := cle_le_cnt (ns := ns) c
    have := cnt_le (ns := ns) (x := y)
    omega
  · exact c
  · have := cle_le_cnt (ns := ns) c
    have := cnt_le (ns := ns) (x := x)
    omega
theorem ent_eq {ns : List Int} (U : Up ns) {x : Int} (h : x ∉ ns) : ent ns x = pos ns x := by
  have cl := cle_cnt x U.up
  rw [if_neg h] at cl
  unfold ent pos
  omega
theorem mem_twoI {a b y : Int} : y ∈ twoI a b ↔ y = a ∨ y = b := by
  unfold twoI
  split
  · rename_i e; rw [List.mem_singleton, e, or_self]
  · split
    · simp
    · rw [List.mem_cons, List.mem_singleton]; exact or_comm
theorem tgt_tag (ns : List Int) (r : Row) : (tgt ns r).1 = r.1 := by
  unfold tgt
  split <;> rfl
theorem tgt_last {ns : List Int} {r : Row} {words many : Int} {sg : List Sg} (F : RowFit words many sg r) (c : r.1 = "jump" ∨ Br r.1) : lastI (tgt ns r) = lastI r + cnt ns (lastI r) := by
  unfold tgt
  rw [if_pos c]
  show lastI (r.1, r.2.dropLast ++ [Sum.inl (lastI r + (cnt ns (lastI r) : Int))]) = _
  unfold lastI
  simp
theorem nxt_tgt {ns : List Int} {r : Row} {words many : Int} {sg : List Sg} (F : RowFit words many sg r) (i : Nat) (q : Int) : q ∈ nxt (tgt ns r) (pos ns i) ↔ ∃ y ∈ nxt r i, q = ent ns y := by
  have e1 : pos ns i + 1 = ent ns ((i : Int) + 1) := by
    unfold pos ent
    have := cnt_succ ns i
    rw [show ((i : Int) + 1) = ((i + 1 : Nat) : Int) by omega, this]
    omega
  unfold nxt
  rw [tgt_tag]
  by_cases c1 : r.1 = "back"
  · rw [if_pos c1, if_pos c1]; simp
  rw [if_neg c1, if_neg c1]
  by_cases c2 : r.1 = "jump"
  · rw [if_pos c2, if_pos c2, tgt_last F (.inl c2)]
    simp [ent]
  rw [if_neg c2, if_neg c2]
  by_cases c3 : Br r.1
  · rw [if_pos c3, if_pos c3, tgt_last F (.inr c3), mem_twoI, e1]
    constructor
    · rintro (h | h)
      · exact ⟨_, mem_twoI.mpr (.inl rfl), h⟩
      · exact ⟨_, mem_twoI.mpr (.inr rfl), h⟩
    · rintro ⟨y, hy, h⟩
      rcases mem_twoI.mp hy with e | e
      · rw [e] at h; exact .inl h
      · rw [e] at h; exact .inr h
  · rw [if_neg c3, if_neg c3, e1]
    simp

end
end Law

namespace Law
open PySem L2
local macro_rules | `(tactic| simp! [$ls,*]) => `(tactic| simp only [tSeq, tAsg, gName, tVar, tC, tOp, tUn, rI0, rI, rU, tCB, tCons, tNil, tRet, tRetN, tIfS, tTest, tB, tAnd, tOr, tNot, tAndV, tOrV, tNotV, tIf, tDrop, tNext, tCall, tMeth, tIsN, tNotN, L2.start, List.map_cons, List.map_nil, List.length_cons, List.length_nil, List.nil_append, List.cons_append, List.append_nil, Nat.reduceAdd, Nat.reduceSub, Nat.sub_self, List.replicate_succ, List.replicate_zero, List.set_cons_zero, List.set_cons_succ, List.getElem?_cons_zero, List.getElem?_cons_succ, Option.some.injEq, V.int.injEq, V.bl.injEq, V.str.injEq, V.ref.injEq, List.cons.injEq, exists_eq_left', exists_eq_left, exists_and_left, and_true, true_and, if_true, if_false, ite_true, ite_false, Bool.true_eq_false, Bool.false_eq_true, decide_eq_true_eq, Bool.not_true, Bool.not_false, Bool.not_eq_true', decide_eq_false_iff_not, reduceCtorEq, false_and, and_false, exists_false, tTup, tLst, sizeLine_eq, Nat.reduceLeDiff, Nat.zero_le, rEq, rNe, rIxF, rEqF, gSub, rSetL, HO.lst.injEq, HO.tup.injEq, HO.ins.injEq, HO.dK.injEq, scal_int, scal_bl, scal_str, tyF_ref, tyF_int, tyF_bl, tyF_str, tyF_non, lenF_ref, seqV_eq, kindV_eq, tyO_lst, tyO_frz, tyO_tup, tyO_dK, lenO_lst, lenO_frz, lenO_tup, seqO_lst, seqO_frz, seqO_tup, kindO_lst, kindO_frz, kindO_tup, isTys, and_assoc, atI_0, atI_1, atI_2, atI_3, atI_4, upd_same, V.ty.injEq, eq_self_iff_true, and_self, String.reduceEq, or_false, or_true, false_or, true_or, Bool.or_true, Bool.or_false, Bool.true_or, Bool.false_or, Bool.and_false, Bool.false_and, Bool.and_true, Bool.true_and, String.reduceBEq, beq_self_eq_true, tDGetF, tDInF, tDNotInF, sDPutF, keyOf_int, keyOf_str, sFld, tFld, tDNewK, tRaise, tMethE, EX, tFstr, tMake, cxOf_K, Nat.reduceLT, Option.join_some, Option.join_none, not_true_eq_false, not_false_eq_true, gCons, gNil, tChain, rEqE, tAug, ipI, $ls,*])
section
variable {P : Program} {w : World} {K : PySem.W.Frag} {mg : Str → Option Value} {base : Heap} {a : Ad}

section
variable {rws : List Row} {ns : List Int}
theorem Rch.nx {x y : Int} (h : Rch rws x) (n : Nx rws x y) : Rch rws y := by
  obtain ⟨k, r, rfl, hr, m⟩ := n
  exact .step h hr m
theorem nx_pos (F : RowsFit rws) (U : Up ns) {x q : Int} (x0 : 0 ≤ x) (x1 : x < rws.length) : Nx (rsts ns rws 0) (pos ns x) q ↔ ∃ y, Nx rws x y ∧ q = ent ns y := by
  obtain ⟨i, rfl⟩ := Int.eq_ofNat_of_zero_le x0
  have hr := List.getElem?_eq_getElem (l := rws) (i := i) (by omega)
  obtain ⟨words, sg, rf, _⟩ := F.fit _ (List.mem_of_getElem? hr)
  have e : pos ns (i : Int) = ((i + cle ns i : Nat) : Int) := by unfold pos; omega
  have h1 := Nx.of (y := q) (rsts_at U hr).1
  rw [← e, nxt_tgt rf] at h1
  rw [h1]
  constructor
  · rintro ⟨y, hy, h⟩; exact ⟨y, (Nx.of hr).mpr hy, h⟩
  · rintro ⟨y, hy, h⟩; exact ⟨y, (Nx.of hr).mp hy, h⟩
theorem nx_ent (U : Up ns) {x q : Int} (x0 : 0 ≤ x) (x1 : x < rws.length) (m : x ∈ ns) : Nx (rsts ns rws 0) (ent ns x) q ↔ q = pos ns x := by
  obtain ⟨i, rfl⟩ := Int.eq_ofNat_of_zero_le x0
  have hr := List.getElem?_eq_getElem (l := rws) (i := i) (by omega)
  have e : ent ns (i : Int) = ((i + cnt ns i : Nat) : Int) := by unfold ent; omega
  have h1 := Nx.of (y := q) ((rsts_at U hr).2 m)
  rw [← e] at h1
  rw [h1]
  have e2 : nxt rowRest (ent ns (i : Int)) = [ent ns (i : Int) + 1] := by
    unfold nxt
    rw [if_neg (by decide +kernel), if_neg (by decide +kernel), if_neg (show ¬ Br rowRest.1 by unfold Br; decide +kernel)]
  have cl := cle_cnt (i : Int) U.up
  rw [if_pos m] at cl
  rw [e2, List.mem_singleton]
  unfold ent pos
  constructor <;> intro h <;> omega
theorem rch_pos (F : RowsFit rws) (U : Up ns) {x : Int} (h : Rch rws x) : Rch (rsts ns rws 0) (pos ns x) := by
  have go : ∀ y : Int, Rch rws y → Rch (rsts ns rws 0) (ent ns y) → Rch (rsts ns rws 0) (pos ns y) := fun y hy he => by
    obtain ⟨y0, y1⟩ := rch_in F hy
    by_cases m : y ∈ ns
    · exact he.nx ((nx_ent U y0 y1 m).mpr rfl)
    · rw [← ent_eq U m]; exact he
  induction h with
  | zero =>
    refine go 0 .zero ?_
    have : cnt ns 0 = 0 := by
      unfold cnt
      rw [List.filter_eq_nil_iff.mpr fun y hy => by have := U.b y hy; simp; omega]
      rfl
    unfold ent
    rw [this]
    exact .zero
  | step hk hr hy ih =>
    rename_i y r k
    have hR : Rch rws y := .step hk hr hy
    obtain ⟨k0, k1⟩ := rch_in F hk
    exact go _ hR (ih.nx ((nx_pos F U k0 k1).mpr ⟨_, ⟨_, _, rfl, hr, hy⟩, rfl⟩))
theorem rch_L (F : RowsFit rws) (U : Up ns) {q : Int} (h : Rch (rsts ns rws 0) q) : ∃ x, Rch rws x ∧ (q = pos ns x ∨ (x ∈ ns ∧ q = ent ns x)) := by
  have ch : ∀ x, Rch rws x → ∃ x', Rch rws x' ∧ (ent ns x = pos ns x' ∨ (x' ∈ ns ∧ ent ns x = ent ns x')) := fun x hx => by
    by_cases m : x ∈ ns
    · exact ⟨x, hx, .inr ⟨m, rfl⟩⟩
    · exact ⟨x, hx, .inl (ent_eq U m)⟩
  induction h with
  | zero =>
    have : ent ns 0 = 0 := by
      unfold ent cnt
      rw [List.filter_eq_nil_iff.mpr fun y hy => by have := U.b y hy; simp; omega]
      rfl
    have := ch 0 .zero
    rw [‹ent ns 0 = 0›] at this
    exact this
  | step hk hr hy ih =>
    rename_i y r k
    obtain ⟨x, hx, e⟩ := ih
    obtain ⟨x0, x1⟩ := rch_in F hx
    have n : Nx (rsts ns rws 0) (k : Int) y := ⟨k, r, rfl, hr, hy⟩
    rcases e with e | ⟨m, e⟩
    · rw [e] at n
      obtain ⟨z, nz, ez⟩ := (nx_pos F U x0 x1).mp n
      rw [ez]
      exact ch z (hx.nx nz)
    · rw [e] at n
      exact ⟨x, hx, .inl ((nx_ent U x0 x1 m).mp n)⟩
theorem bare_L (F : RowsFit rws) (U : Up ns) {q : Int} : Bare (rsts ns rws 0) q ↔ ∃ x, Bare rws x ∧ q = pos ns x := by
  constructor
  · rintro ⟨h1, k, r, rfl, hr, p1, p2⟩
    obtain ⟨x, hx, e⟩ := rch_L F U h1
    obtain ⟨x0, x1⟩ := rch_in F hx
    obtain ⟨i, rfl⟩ := Int.eq_ofNat_of_zero_le x0
    have hi := List.getElem?_eq_getElem (l := rws) (i := i) (by omega)
    rcases e with e | ⟨m, e⟩
    · refine ⟨i, ⟨hx, i, _, rfl, hi, ?_⟩, e⟩
      have h2 := (rsts_at U hi).1
      rw [show i + cle ns i = k by unfold pos at e; omega, hr] at h2
      cases h2
      rw [tgt_tag] at p1 p2
      exact ⟨p1, p2⟩
    · have h2 := (rsts_at U hi).2 m
      rw [show i + cnt ns i = k by unfold ent at e; omega, hr] at h2
      cases h2
      exact absurd rfl p2
  · rintro ⟨x, ⟨hx, i, r, rfl, hi, p1, p2⟩, rfl⟩
    refine ⟨rch_pos F U hx, i + cle ns i, tgt ns r, by unfold pos; omega, (rsts_at U hi).1, ?_, ?_⟩
    · rw [tgt_tag]; exact p1
    · rw [tgt_tag]; exact p2
theorem rc_L (F : RowsFit rws) (U : Up ns) {T : Int → Prop} (hT : ∀ q, T q → Bare (rsts ns rws 0) q) {x q : Int} (x0 : 0 ≤ x) (x1 : x < rws.length) (h : Rc (rsts ns rws 0) (pos ns x) T q) : ∃ z, q = pos ns z ∧ 0 ≤ z ∧ z < rws.length ∧ Rc rws x (fun y => y ∉ ns ∧ T (pos ns y)) z := by
  induction h with
  | base => exact ⟨x, rfl, x0, x1, .base⟩
  | step _ n s ih =>
    obtain ⟨z, rfl, z0, z1, rz⟩ := ih
    obtain ⟨y, ny, rfl⟩ := (nx_pos F U z0 z1).mp n
    obtain ⟨y', by', e⟩ := (bare_L F U).mp (hT _ s)
    obtain ⟨rfl, nm⟩ := ent_pos U e
    obtain ⟨y0, y1⟩ := rch_in F by'.1
    exact ⟨y', e, y0, y1, .step rz ny ⟨nm, by rw [← e]; exact s⟩⟩
theorem cb_L (F : RowsFit rws) (U : Up ns) {T : Int → Prop} (hT : ∀ q, T q → Bare (rsts ns rws 0) q) {x : Int} (x0 : 0 ≤ x) (x1 : x < rws.length) (h : CB (rsts ns rws 0) (pos ns x) T) : x ∉ ns ∧ CB rws x (fun y => y ∉ ns ∧ T (pos ns y)) := by
  obtain ⟨q, rc, n⟩ := h
  obtain ⟨z, rfl, z0, z1, rz⟩ := rc_L F U hT x0 x1 rc
  obtain ⟨y, ny, e⟩ := (nx_pos F U z0 z1).mp n
  obtain ⟨rfl, nm⟩ := ent_pos U e.symm
  exact ⟨nm, z, rz, ny⟩
theorem cb_up (F : RowsFit rws) (U : Up ns) {x : Int} (bx : Bare rws x) (nx : x ∉ ns) (h : CB rws x (fun y => Bare rws y ∧ y ∉ ns)) : CB (rsts ns rws 0) (pos ns x) (fun y => Bare (rsts ns rws 0) y ∧ y ∉ ([] : List Int)) := by
  obtain ⟨z, rc, n⟩ := h
  have key : ∀ z, Rc rws x (fun y => Bare rws y ∧ y ∉ ns) z → Bare rws z ∧ Rc (rsts ns rws 0) (pos ns x) (fun y => Bare (rsts ns rws 0) y ∧ y ∉ ([] : List Int)) (pos ns z) := by
    intro z h
    induction h with
    | base => exact ⟨bx, .base⟩
    | step _ n s ih =>
      obtain ⟨b1, r1⟩ := ih
      obtain ⟨y0, y1⟩ := rch_in F b1.1
      refine ⟨s.1, .step r1 ((nx_pos F U y0 y1).mpr ⟨_, n, (ent_eq U s.2).symm⟩) ⟨(bare_L F U).mpr ⟨_, s.1, rfl⟩, by simp⟩⟩
  obtain ⟨bz, rz⟩ := key z rc
  obtain ⟨z0, z1⟩ := rch_in F bz.1
  exact ⟨_, rz, (nx_pos F U z0 z1).mpr ⟨_, n, (ent_eq U nx).symm⟩⟩
def NoRd (rws : List Row) (ms : List Int) : Prop := ∀ x, Bare rws x → x ∉ ms → ¬ CB rws x (fun y => Bare rws y ∧ y ∉ ms)
theorem nord_L (F : RowsFit rws) (U : Up ns) (h : NoRd rws ns) : NoRd (rsts ns rws 0) [] := fun q bq _ cb => by
  obtain ⟨x, bx, rfl⟩ := (bare_L F U).mp bq
  obtain ⟨x0, x1⟩ := rch_in F bx.1
  obtain ⟨nm, z, rz, n⟩ := cb_L F U (fun q h => h.1) x0 x1 cb
  refine h x bx nm ⟨z, rz.mono fun y _ hy => ?_, n⟩
  obtain ⟨y', by', e⟩ := (bare_L F U).mp hy.2.1
  rw [pos_inj e]
  rw [pos_inj e] at hy
  exact ⟨by', hy.1⟩
theorem Rc.trans' {S : Int → Prop} {x y z : Int} (a : Rc rws x S y) (b : Rc rws y S z) : Rc rws x S z := by
  induction b with
  | base => exact a
  | step _ n s ih => exact .step ih n s
theorem told_nord (F : RowsFit rws) (A : Told rws ns) : NoRd rws ns := by
  have main : ∀ (k : Nat) (x : Int), x = k → Bare rws x → x ∉ ns → ¬ CB rws x (fun y => Bare rws y ∧ y ∉ ns) := by
    intro k
    induction k using Nat.strongRecOn with
    | _ k ih =>
      intro x ex bx nx cb
      obtain ⟨z, rc, n⟩ := cb
      have key : ∀ y, Rc rws x (fun y => Bare rws y ∧ y ∉ ns) y → (∃ w, Rc rws y (fun y => Bare rws y ∧ y ∉ ns) w ∧ Nx rws w x) → Rc rws x (fun y => Bare rws y ∧ y ∉ ns ∧ x < y) y := by
        intro y h
        induction h with
        | base => intro _; exact .base
        | step ru nu sy ihu =>
          rename_i u y
          rintro ⟨w, rw_, nw⟩
          have r1 := ihu ⟨w, rw_.pre nu sy, nw⟩
          rcases Int.lt_trichotomy y x with c | c | c
          · exfalso
            obtain ⟨y0, _⟩ := rch_in F sy.1.1
            refine ih y.toNat (by omega) y (by omega) sy.1 sy.2 ⟨u, ?_, nu⟩
            exact (Rc.step rw_ nw ⟨bx, nx⟩).trans' ru
          · rw [c]; exact .base
          · exact .step r1 nu ⟨sy.1, sy.2, c⟩
      exact nx ((A.2.2 x bx).mpr ⟨z, key z rc ⟨z, .base, n⟩, n⟩)
  intro x bx nx cb
  obtain ⟨x0, _⟩ := rch_in F bx.1
  exact main x.toNat x (by omega) bx nx cb
end

end
end Law

namespace Law
open PySem L2
local macro_rules | `(tactic| simp! [$ls,*]) => `(tactic| simp only [tSeq, tAsg, gName, tVar, tC, tOp, tUn, rI0, rI, rU, tCB, tCons, tNil, tRet, tRetN, tIfS, tTest, tB, tAnd, tOr, tNot, tAndV, tOrV, tNotV, tIf, tDrop, tNext, tCall, tMeth, tIsN, tNotN, L2.start, List.map_cons, List.map_nil, List.length_cons, List.length_nil, List.nil_append, List.cons_append, List.append_nil, Nat.reduceAdd, Nat.reduceSub, Nat.sub_self, List.replicate_succ, List.replicate_zero, List.set_cons_zero, List.set_cons_succ, List.getElem?_cons_zero, List.getElem?_cons_succ, Option.some.injEq, V.int.injEq, V.bl.injEq, V.str.injEq, V.ref.injEq, List.cons.injEq, exists_eq_left', exists_eq_left, exists_and_left, and_true, true_and, if_true, if_false, ite_true, ite_false, Bool.true_eq_false, Bool.false_eq_true, decide_eq_true_eq, Bool.not_true, Bool.not_false, Bool.not_eq_true', decide_eq_false_iff_not, reduceCtorEq, false_and, and_false, exists_false, tTup, tLst, sizeLine_eq, Nat.reduceLeDiff, Nat.zero_le, rEq, rNe, rIxF, rEqF, gSub, rSetL, HO.lst.injEq, HO.tup.injEq, HO.ins.injEq, HO.dK.injEq, scal_int, scal_bl, scal_str, tyF_ref, tyF_int, tyF_bl, tyF_str, tyF_non, lenF_ref, seqV_eq, kindV_eq, tyO_lst, tyO_frz, tyO_tup, tyO_dK, lenO_lst, lenO_frz, lenO_tup, seqO_lst, seqO_frz, seqO_tup, kindO_lst, kindO_frz, kindO_tup, isTys, and_assoc, atI_0, atI_1, atI_2, atI_3, atI_4, upd_same, V.ty.injEq, eq_self_iff_true, and_self, String.reduceEq, or_false, or_true, false_or, true_or, Bool.or_true, Bool.or_false, Bool.true_or, Bool.false_or, Bool.and_false, Bool.false_and, Bool.and_true, Bool.true_and, String.reduceBEq, beq_self_eq_true, tDGetF, tDInF, tDNotInF, sDPutF, keyOf_int, keyOf_str, sFld, tFld, tDNewK, tRaise, tMethE, EX, tFstr, tMake, cxOf_K, Nat.reduceLT, Option.join_some, Option.join_none, not_true_eq_false, not_false_eq_true, gCons, gNil, tChain, rEqE, tAug, ipI, $ls,*])
section
variable {P : Program} {w : World} {K : PySem.W.Frag} {mg : Str → Option Value} {base : Heap} {a : Ad}

theorem PartFit.to {words n N : Int} {sg : List Sg} {ps ps' : List Part} {c : Nat} {p : Part} (h : PartFit words n sg ps c p) (hc : c ≠ 113) (le : n ≤ N) : PartFit words N sg ps' c p := by
  rcases h with h | h | ⟨e, x, e2, x0, x1⟩ | h | h | ⟨e, _⟩
  · exact .inl h
  · exact .inr (.inl h)
  · exact .inr (.inr (.inl ⟨e, x, e2, x0, by omega⟩))
  · exact .inr (.inr (.inr (.inl h)))
  · exact .inr (.inr (.inr (.inr (.inl h))))
  · exact absurd e hc
theorem PartFit.mono {words n N : Int} {sg : List Sg} {ps : List Part} {c : Nat} {p : Part} (h : PartFit words n sg ps c p) (le : n ≤ N) : PartFit words N sg ps c p := by
  rcases h with h | h | ⟨e, x, e2, x0, x1⟩ | h | h | h
  · exact .inl h
  · exact .inr (.inl h)
  · exact .inr (.inr (.inl ⟨e, x, e2, x0, by omega⟩))
  · exact .inr (.inr (.inr (.inl h)))
  · exact .inr (.inr (.inr (.inr (.inl h))))
  · exact .inr (.inr (.inr (.inr (.inr h))))
theorem LW_to : ∀ p ∈ LW, (p.1 = "jump" ∨ p.1 = "zero" ∨ p.1 = "none" ∨ p.1 = "same") → (∀ c ∈ p.2.cps.toList, c ≠ 113) ∧ p.2.cps.toList.getLast? = some 116 := by decide +kernel
theorem rowfit_L {ns : List Int} {words n N : Int} {sg : List Sg} {r : Row} (F : RowFit words n sg r) (le : n ≤ N) (hx : ∀ x, 0 ≤ x → x < n → ent ns x < N) : RowFit words N sg (tgt ns r) := by
  by_cases c : r.1 = "jump" ∨ Br r.1
  · obtain ⟨pre, x, er, x0, x1, _, lx⟩ := row_to F c
    obtain ⟨ls, m, l, pf⟩ := F
    obtain ⟨nq, lt⟩ := LW_to _ m (by unfold Br at c; exact c)
    have et : tgt ns r = (r.1, pre ++ [.inl (x + cnt ns x)]) := by
      unfold tgt
      rw [if_pos c, lx, er, List.dropLast_concat]
    rw [et]
    rw [er, List.length_append, List.length_singleton] at l
    refine ⟨ls, m, by rw [List.length_append, List.length_singleton]; exact l, ⟨fun i ch p h1 h2 => ?_⟩⟩
    have hl : ls.cps.toList[i]? = some ch := by rw [Array.getElem?_toList]; exact h1
    have ll : ls.cps.toList.length = pre.length + 1 := by rw [Array.length_toList]; omega
    by_cases d : i < pre.length
    · rw [List.getElem?_append_left d] at h2
      exact (pf.at_ i ch p h1 (by rw [er, List.getElem?_append_left d]; exact h2)).to (nq ch (List.mem_of_getElem? hl)) le
    · have ei : i = pre.length := by
        have := (List.getElem?_eq_some_iff.mp h2).1
        rw [List.length_append, List.length_singleton] at this
        omega
      rw [List.getLast?_eq_getElem?, ll, Nat.add_sub_cancel, ← ei, hl] at lt
      cases lt
      rw [ei, List.getElem?_append_right (Nat.le_refl _), Nat.sub_self] at h2
      cases h2
      refine .inr (.inr (.inl ⟨rfl, x + cnt ns x, rfl, by omega, hx x x0 x1⟩))
  · have et : tgt ns r = r := by unfold tgt; rw [if_neg c]
    rw [et]
    obtain ⟨ls, m, l, pf⟩ := F
    exact ⟨ls, m, l, ⟨fun i c p h1 h2 => (pf.at_ i c p h1 h2).mono le⟩⟩
theorem ent_le_pos {ns : List Int} {x : Int} : ent ns x ≤ pos ns x := by
  unfold ent pos
  have := cnt_le (ns := ns) (x := x)
  omega
theorem fit_L {rws : List Row} {ns : List Int} (F : RowsFit rws) (U : Up ns) (l40 : (rsts ns rws 0).length ≤ 40) : RowsFit (rsts ns rws 0) := by
  have sz := rsts_size U.up U.b rws
  have n0 := F.n0
  have hx : ∀ x : Int, 0 ≤ x → x < (rws.length : Int) → ent ns x < ((rsts ns rws 0).length : Int) := fun x x0 x1 => by
    obtain ⟨i, rfl⟩ := Int.eq_ofNat_of_zero_le x0
    have := (List.getElem?_eq_some_iff.mp (rsts_at U (List.getElem?_eq_getElem (l := rws) (i := i) (by omega))).1).1
    have h2 := ent_le_pos (ns := ns) (x := i)
    unfold pos at h2
    omega
  refine ⟨fun r hr => ?_, ?_, by omega, l40⟩
  · obtain ⟨q, hq⟩ := List.mem_iff_getElem?.mp hr
    have ql := (List.getElem?_eq_some_iff.mp hq).1
    obtain ⟨i, il, e⟩ := rsts_all U rws q ql
    have hi := List.getElem?_eq_getElem il
    obtain ⟨words, sg, rf, s6⟩ := F.fit _ (List.mem_of_getElem? hi)
    rcases e with e | ⟨m, e⟩
    · have h2 := (rsts_at U hi).1
      rw [← e, hq] at h2
      cases h2
      exact ⟨words, sg, rowfit_L rf (by omega) hx, s6⟩
    · have h2 := (rsts_at U hi).2 m
      rw [← e, hq] at h2
      cases h2
      exact ⟨words, sg, rowfit_mk (ls := "") [] (by decide +kernel) rfl rfl (fun q m => by cases m), s6⟩
  · obtain ⟨r, h1, h2⟩ := F.last
    obtain ⟨xs, e⟩ : ∃ xs, rws = xs ++ [r] := ⟨rws.dropLast, by
      have := List.getLast?_eq_some_iff.mp h1
      obtain ⟨ys, e⟩ := this
      rw [e, List.dropLast_concat]⟩
    refine ⟨tgt ns r, ?_, by rw [tgt_tag]; exact h2⟩
    rw [e, rsts_snoc]
    unfold ro
    rw [← List.append_assoc, List.getLast?_concat]
theorem told_up {rws : List Row} {ns : List Int} (F : RowsFit rws) (A : Told rws ns) : Up ns := ⟨A.1, fun x hx => (rch_in F (A.2.1 x hx).1).1⟩
theorem cnt_all {ns : List Int} {n : Int} (h : ∀ x ∈ ns, x < n) : cnt ns n = ns.length := by
  unfold cnt
  rw [List.filter_eq_self.mpr fun x hx => by simpa using h x hx]
theorem told_nil {rws : List Row} {ts : List Int} (n : NoRd rws []) (A : Told rws ts) : ts = [] := by
  cases ts with
  | nil => rfl
  | cons x r =>
    exfalso
    have bx := A.2.1 x List.mem_cons_self
    obtain ⟨z, rc, nz⟩ := (A.2.2 x bx).mp List.mem_cons_self
    exact n x bx (by simp) ⟨z, rc.mono fun y _ hy => ⟨hy.1, by simp⟩, nz⟩
theorem way_cb {rws : List Row} {ns ws : List Int} {at_ x : Int} (BL : BareL rws [] ns) (W : Way rws at_ ns ws) (hl : ws.getLast? = some x) (n : Nx rws x at_) : CB rws at_ (fun y => Bare rws y ∧ y ∉ ([] : List Int)) :=
  (CB.congr fun y _ => (BL.2 y)).mp (W.cb hl n)
/-- one rest left out: each round goes through its row -/
theorem way_hit {rws : List Row} {ns fw ns' ws : List Int} {a at_ x : Int} (F : RowsFit rws) (U : Up fw) (nr : NoRd rws ns) (mem : ∀ y, y ∈ ns → y ∈ fw ∨ y = a) (BL : BareL (rsts fw rws 0) [] ns') (ma : at_ ∈ ns') (W : Way (rsts fw rws 0) at_ ns' ws) (hl : ws.getLast? = some x) (n : Nx (rsts fw rws 0) x at_) : pos fw a ∈ ws := by
  by_cases c : pos fw a ∈ ws
  · exact c
  exfalso
  have inw : ∀ y ∈ ws, Bare (rsts fw rws 0) y := fun y hy => by
    rcases W.in_ y hy with e | e
    · rw [e]; exact ((BL.2 at_).mp ma).1
    · exact ((BL.2 y).mp e).1
  have hd := List.mem_of_getElem? W.hd
  have W2 : Way (rsts fw rws 0) at_ ws ws := ⟨W.hd, W.nd, fun y hy => .inr hy, W.st⟩
  have cb := W2.cb hl n
  obtain ⟨x0, bx, rfl⟩ := (bare_L F U).mp (inw at_ hd)
  obtain ⟨r0, r1⟩ := rch_in F bx.1
  obtain ⟨nf, z, rc, nz⟩ := cb_L F U inw r0 r1 cb
  refine nr x0 bx (fun m => ?_) ⟨z, rc.mono fun y _ hy => ?_, nz⟩
  · rcases mem x0 m with e | e
    · exact nf e
    · rw [e] at hd; exact c hd
  · obtain ⟨y', by', e⟩ := (bare_L F U).mp (inw _ hy.2)
    have e2 := pos_inj e
    subst e2
    refine ⟨by', fun m => ?_⟩
    rcases mem y m with e | e
    · exact hy.1 e
    · rw [e] at hy; exact c hy.2
theorem sIx_nat (n d k : Nat) : HT.sIx n d (some (k : Int)) = min k n := by
  unfold HT.sIx
  simp only
  rw [if_neg (by omega)]
  omega
theorem cut_take (ns : List Int) {k : Nat} (h : k ≤ ns.length) : cutV (ns.map V.int) none (some (k : Int)) = (ns.take k).map V.int := by
  unfold cutV
  rw [sIx_nat, List.length_map, Nat.min_eq_left h, List.map_take]
  rfl
theorem cut_drop (ns : List Int) {k : Nat} (h : k < ns.length) : cutV (ns.map V.int) (some ((k : Int) + 1)) none = (ns.drop (k + 1)).map V.int := by
  unfold cutV
  rw [show (k : Int) + 1 = ((k + 1 : Nat) : Int) by omega, sIx_nat, List.length_map, Nat.min_eq_left (by omega), List.map_drop]
  show List.take (ns.length - (k + 1)) _ = _
  rw [List.take_of_length_le (by rw [List.length_drop, List.length_map]; omega)]

end
end Law

namespace Law
open PySem L2
local macro_rules | `(tactic| simp! [$ls,*]) => `(tactic| simp only [tSeq, tAsg, gName, tVar, tC, tOp, tUn, rI0, rI, rU, tCB, tCons, tNil, tRet, tRetN, tIfS, tTest, tB, tAnd, tOr, tNot, tAndV, tOrV, tNotV, tIf, tDrop, tNext, tCall, tMeth, tIsN, tNotN, L2.start, List.map_cons, List.map_nil, List.length_cons, List.length_nil, List.nil_append, List.cons_append, List.append_nil, Nat.reduceAdd, Nat.reduceSub, Nat.sub_self, List.replicate_succ, List.replicate_zero, List.set_cons_zero, List.set_cons_succ, List.getElem?_cons_zero, List.getElem?_cons_succ, Option.some.injEq, V.int.injEq, V.bl.injEq, V.str.injEq, V.ref.injEq, List.cons.injEq, exists_eq_left', exists_eq_left, exists_and_left, and_true, true_and, if_true, if_false, ite_true, ite_false, Bool.true_eq_false, Bool.false_eq_true, decide_eq_true_eq, Bool.not_true, Bool.not_false, Bool.not_eq_true', decide_eq_false_iff_not, reduceCtorEq, false_and, and_false, exists_false, tTup, tLst, sizeLine_eq, Nat.reduceLeDiff, Nat.zero_le, rEq, rNe, rIxF, rEqF, gSub, rSetL, HO.lst.injEq, HO.tup.injEq, HO.ins.injEq, HO.dK.injEq, scal_int, scal_bl, scal_str, tyF_ref, tyF_int, tyF_bl, tyF_str, tyF_non, lenF_ref, seqV_eq, kindV_eq, tyO_lst, tyO_frz, tyO_tup, tyO_dK, lenO_lst, lenO_frz, lenO_tup, seqO_lst, seqO_frz, seqO_tup, kindO_lst, kindO_frz, kindO_tup, isTys, and_assoc, atI_0, atI_1, atI_2, atI_3, atI_4, upd_same, V.ty.injEq, eq_self_iff_true, and_self, String.reduceEq, or_false, or_true, false_or, true_or, Bool.or_true, Bool.or_false, Bool.true_or, Bool.false_or, Bool.and_false, Bool.false_and, Bool.and_true, Bool.true_and, String.reduceBEq, beq_self_eq_true, tDGetF, tDInF, tDNotInF, sDPutF, keyOf_int, keyOf_str, sFld, tFld, tDNewK, tRaise, tMethE, EX, tFstr, tMake, cxOf_K, Nat.reduceLT, Option.join_some, Option.join_none, not_true_eq_false, not_false_eq_true, gCons, gNil, tChain, rEqE, tAug, ipI, $ls,*])
section
variable {P : Program} {w : World} {K : PySem.W.Frag} {mg : Str → Option Value} {base : Heap} {a : Ad}

theorem rested_one {H : Hp} {rl t pl sl ll : Addr} {rs : List Addr} {rws : List Row} {ns : List Int} {Q : VK} (R : RowsOf H rl rs rws) (F : RowsFit rws) (hs : H sl = some (.lst (ns.map V.int))) (ht : H t = some (.tup [.str "", .str "n", .int 0, .ref rl])) (hp : H pl = some (.lst [.ref t])) (hl : H ll = some (.lst [.ref sl])) (ln : ns.length ≤ 1000)
    (q : ∀ (fl tl l : Addr) (fs : List Addr) (H' : Hp), Same H H' → H' fl = some (.lst [.ref tl]) → H' tl = some (.tup [.str "", .str "n", .int 0, .ref l]) → RowsOf H' l fs (rsts ns rws 0) → Q (.ref fl) H') : sp_rested [.ref pl, .ref ll] H Q E0 := by
  refine ⟨pl, ll, [(t, rl, rs)], [(("", "n"), 0, rws)], [sl], [ns], rfl, ⟨hp, rfl, fun i a d h1 h2 => ?_⟩, fun d hd => ?_, by simp, ⟨hl, rfl, fun i p m h1 h2 => ?_⟩, rfl, fun m hm => by rw [List.mem_singleton.mp hm]; exact ln, fun fl fas H' nfl S PF _ _ => ?_⟩
  · cases i with
    | zero => cases h1; cases h2; exact ⟨ht, R⟩
    | succ i => simp at h1
  · rw [List.mem_singleton.mp hd]
    refine ⟨F.n1, fun r hr => ?_⟩
    obtain ⟨words, sg, rf, _⟩ := F.fit r hr
    exact ⟨words, _, sg, rf⟩
  · cases i with
    | zero => cases h1; cases h2; exact hs
    | succ i => simp at h1
  · have l1 := PF.len
    cases fas with
    | nil => simp [List.zipWith] at l1
    | cons fa r =>
      have : r = [] := by
        have : (fa :: r).length = 1 := by rw [l1]; rfl
        simpa using this
      subst this
      obtain ⟨g1, g2⟩ := PF.def_ 0 fa (restD (("", "n"), 0, rws) ns) rfl rfl
      exact q fl fa.1 fa.2.1 fa.2.2 H' S PF.top g1 g2
def sp_left : Sp := fun vs H Q _ => ∃ (rl sl : Addr) (k : Nat) (rs : List Addr) (rws : List Row) (ns : List Int), vs = [.ref rl, .ref sl, .int k] ∧ RowsOf H rl rs rws ∧ RowsFit rws ∧ H sl = some (.lst (ns.map V.int)) ∧ Told rws ns ∧ k < ns.length ∧ rws.length + ns.length ≤ 40 ∧ ∀ H', Same H H' → Q (.bl true) H'
set_option maxHeartbeats 4000000 in
theorem ok_law_left_out (T : Txt K mg a) : FnOk P w K mg base CX0 5 a.f_law_left_out a.d_law_left_out ["rows", "some", "at"] sp_left := by
  refine T.F_law_left_out.okC sc_law_left_out (fun vs H Q E h => ?_) (fun cdv A outer s H vs Q E hr h => ?_)
  · obtain ⟨rl, sl, k, rs, rws, ns, rfl, _⟩ := h
    rfl
  · obtain ⟨rl, sl, k, rs, rws, ns, rfl, R, F, hs, TD, kl, l40, q⟩ := h
    have hu := hu_of hr
    refine ⟨_, (@pss_cons _ _ _ _ _ (ps_set (i := 3) sc_law_left_out.nd (by rfl) (Or.inl rfl) (pe_op op_cat (pe_slice sl_list (pv 1) po_none (po_some (pv 2))) (pe_slice sl_list (pv 1) (po_some (pe_op op_add (pv 2) pe_int)) po_none)))
      (@pss_cons _ _ _ _ _ (ps_set (i := 4) sc_law_left_out.nd (by rfl) (Or.inl rfl) (pe_ix ix_F (pe_ix ix_F (pe_call (ok_rested T) (hr.mono (by decide)) (by rfl) T.m_rested T.F_rested.kp T.b_rested .nil pass0 (pa_cons (pe_lst (pa_cons (pe_tup (@pa_cstr _ _ _ _ _ _ (@pa_cstr _ _ _ _ _ _ (@pa_cint _ _ _ _ _ _ (@pa_cname _ _ _ _ _ _ (pv 0) pa_nil))))) pa_nil)) (pa_cons (pe_lst (@pa_cname _ _ _ _ _ _ (pv 3) pa_nil)) pa_nil))) pe_int (fun _ _ => rfl)) pe_int (fun _ _ => rfl)))
      (@pss_cons _ _ _ _ _ (ps_set (i := 5) sc_law_left_out.nd (by rfl) (Or.inl rfl) (pe_call (ok_bare_round T) (hr.mono (by decide)) (by rfl) T.m_bare_round T.F_bare_round.kp T.b_bare_round .nil pass0 (@pa_cname _ _ _ _ _ _ (pv 4) (pa_cons (pe_lst pa_nil) pa_nil))))
      (@pss_cons _ _ _ _ _ (@ps_if _ _ _ _ _ _ _ _ (pt_not (pt_val (pe_call (ok_law_round_good T) (hr.mono (by decide)) (by rfl) T.m_law_round_good T.F_law_round_good.kp T.b_law_round_good .nil pass0 (@pa_cname _ _ _ _ _ _ (pv 4) (@pa_cname _ _ _ _ _ _ (pv 5) (pa_cons (pe_lst pa_nil) pa_nil)))))) (@pss_one _ _ _ (ps_ret pe_bl)) pss_nil)
      (@pss_one _ _ _ (ps_ret (pe_cmpR op_in_seq (pe_op op_add (pe_ix ix_F (pv 1) (pv 2) (fun _ _ => rfl)) (pe_callB call_lenF (by rfl) T.z_len (by decide +kernel) (pa_cons (pe_comp (N' := ["one", "some", "at"]) (cap := [none, some 1, some 2]) ⟨rfl, (by decide +kernel), (by decide +kernel), (by rfl), rfl, (by rfl)⟩ (by rfl) (pi_list (pv 3)) (fun C_ ex_ s_ H_ => (pg_name (i := 0) (show (["one", "some", "at"] : List Str).Nodup by decide +kernel) (by rfl) (Or.inl rfl))) gkp_name (fun C_ ex_ s_ H_ => (pifs_one (pt_cmpR op_le (pv 0) (pe_ix ix_F (pv 1) (pv 2) (fun _ _ => rfl)) (nomark _)))) (fun C_ ex_ s_ H_ => (pv 0))) pa_nil))) (pv 5) (by with_unfolding_all rfl)))))))), ?_⟩
    simp! [tSl, tPart, tNoPart, rSlL]
    have U0 := told_up F TD
    have bd : ∀ x ∈ ns, x < rws.length := fun x hx => (rch_in F (TD.2.1 x hx).1).2
    refine ⟨_, .of hs, ?_⟩
    rw [cut_take ns (by omega)]
    refine fun p1 np1 => ⟨_, .of (upd_old hs np1), ?_⟩
    rw [cut_drop ns kl]
    intro p2 np2
    refine ⟨p1, p2, _, _, rfl, rfl, upd_old upd_same np2, upd_same, by rw [List.length_map, List.length_map, List.length_take, List.length_drop, sizeLine_eq]; omega, fun p3 np3 => ?_⟩
    have S3 : Same H (upd (upd (upd H p1 (.lst ((ns.take k).map V.int))) p2 (.lst ((ns.drop (k + 1)).map V.int))) p3 (.lst ((ns.take k).map V.int ++ (ns.drop (k + 1)).map V.int))) := ((Same.laid np1).step np2).step np3
    have hf3 : upd (upd (upd H p1 (.lst ((ns.take k).map V.int))) p2 (.lst ((ns.drop (k + 1)).map V.int))) p3 (.lst ((ns.take k).map V.int ++ (ns.drop (k + 1)).map V.int)) p3 = some (.lst ((ns.take k ++ ns.drop (k + 1)).map V.int)) := by rw [upd_same, List.map_append]
    revert S3 hf3
    generalize upd (upd (upd H p1 (.lst ((ns.take k).map V.int))) p2 (.lst ((ns.drop (k + 1)).map V.int))) p3 (.lst ((ns.take k).map V.int ++ (ns.drop (k + 1)).map V.int)) = H3
    intro S3 hf3
    have hk := List.getElem?_eq_getElem kl
    have sub : (ns.take k ++ ns.drop (k + 1)).Sublist ns := by
      rw [← List.eraseIdx_eq_take_drop_succ]
      exact List.eraseIdx_sublist ns k
    have U : Up (ns.take k ++ ns.drop (k + 1)) := ⟨TD.1.sublist sub, fun x hx => U0.b x (sub.subset hx)⟩
    have lf : (ns.take k ++ ns.drop (k + 1)).length + 1 = ns.length := by rw [List.length_append, List.length_take, List.length_drop]; omega
    have e0 : ns = ns.take k ++ (ns[k] :: ns.drop (k + 1)) := by rw [← List.drop_eq_getElem_cons kl, List.take_append_drop]
    have mem : ∀ y, y ∈ ns → y ∈ ns.take k ++ ns.drop (k + 1) ∨ y = ns[k] := fun y hy => by
      rw [e0] at hy
      rcases List.mem_append.mp hy with m | m
      · exact .inl (List.mem_append_left _ m)
      · rcases List.mem_cons.mp m with m | m
        · exact .inr m
        · exact .inl (List.mem_append_right _ m)
    have nin : ns[k] ∉ ns.take k ++ ns.drop (k + 1) := fun m => by
      have nd : (ns.take k ++ (ns[k] :: ns.drop (k + 1))).Pairwise (· < ·) := by rw [← e0]; exact TD.1
      rw [List.pairwise_append] at nd
      rcases List.mem_append.mp m with m | m
      · have := nd.2.2 _ m _ List.mem_cons_self; omega
      · have := (List.pairwise_cons.mp nd.2.1).1 _ m; omega
    have ak := TD.2.1 _ (List.mem_of_getElem? hk)
    have ck := (TD.2.2 _ ak).mp (List.mem_of_getElem? hk)
    have al : atI (ns.map V.int) ((k : Nat) : Int) = some (.int ns[k]) := atI_nat (by rw [List.getElem?_map, hk]; rfl)
    clear e0 hk
    revert sub U lf mem nin ak ck al hf3
    generalize ns[k] = av
    generalize ns.take k ++ ns.drop (k + 1) = fw
    intro hf3 sub U lf mem nin ak ck al
    have bdf : ∀ x ∈ fw, x < rws.length := fun x hx => bd x (sub.subset hx)
    have lL : (rsts fw rws 0).length ≤ 40 := by rw [rsts_size U.up U.b, cnt_all bdf]; omega
    have FL := fit_L F U lL
    intro t nt pl npl ll nll
    have S6 : Same H3 (upd (upd (upd H3 t (.tup [.str (Str.ofString ""), .str (Str.ofString "n"), .int 0, .ref rl])) pl (.lst [.ref t])) ll (.lst [.ref p3])) := ((Same.laid nt).step npl).step nll
    have ht6 : upd (upd (upd H3 t (.tup [.str (Str.ofString ""), .str (Str.ofString "n"), .int 0, .ref rl])) pl (.lst [.ref t])) ll (.lst [.ref p3]) t = some (.tup [.str (Str.ofString ""), .str (Str.ofString "n"), .int 0, .ref rl]) := upd_old (upd_old upd_same npl) nll
    have hp6 : upd (upd (upd H3 t (.tup [.str (Str.ofString ""), .str (Str.ofString "n"), .int 0, .ref rl])) pl (.lst [.ref t])) ll (.lst [.ref p3]) pl = some (.lst [.ref t]) := upd_old upd_same nll
    have hl6 : upd (upd (upd H3 t (.tup [.str (Str.ofString ""), .str (Str.ofString "n"), .int 0, .ref rl])) pl (.lst [.ref t])) ll (.lst [.ref p3]) ll = some (.lst [.ref p3]) := upd_same
    revert S6 ht6 hp6 hl6
    generalize upd (upd (upd H3 t (.tup [.str (Str.ofString ""), .str (Str.ofString "n"), .int 0, .ref rl])) pl (.lst [.ref t])) ll (.lst [.ref p3]) = H6
    intro S6 ht6 hp6 hl6
    refine rested_one (ns := fw) ((R.same S3).same S6) F (S6 _ _ hf3) ht6 hp6 hl6 (by omega) fun fl tl l fs H7 S7 h1 h2 RL => ?_
    refine ⟨fl, rfl, _, by rw [h1]; rfl, _, atI_0, tl, rfl, _, by rw [h2]; rfl, _, atI_3, fun e ne => ?_⟩
    have S37 := S6.trans S7
    refine ⟨l, e, fs, rsts fw rws 0, [], rfl, RL.same (Same.laid ne), FL, upd_same, fun H8 S8 ncb => ?_, fun p ns' ws at' x H8 S8 np hp BL ma W hl nx => ?_⟩
    · exfalso
      refine ncb (pos fw av) ((bare_L F U).mpr ⟨av, ak, rfl⟩) (by simp) (cb_up F U ak nin ?_)
      obtain ⟨z, rc, n⟩ := ck
      exact ⟨z, rc.mono fun y _ hy => ⟨hy.1, fun m => hy.2.1 (sub.subset m)⟩, n⟩
    · intro e2 ne2
      have S38 := (S37.step ne).trans S8
      have RL8 := (RL.same (Same.laid (u := .lst []) ne)).same S8
      refine ⟨l, p, e2, fs, rsts fw rws 0, [], ns', ws, at', x, rfl, RL8.same (Same.laid ne2), FL, upd_old hp ne2, upd_same, BL, ma, W, hl, nx, fun H9 S9 => ⟨true, rfl, ?_⟩⟩
      rw [if_neg (by decide)]
      have S39 := (S38.step ne2).trans S9
      have hs9 := S39 _ _ (S3 _ _ hs)
      have hf9 := S39 _ _ hf3
      have hp9 := S9 _ _ (upd_old (u := .lst []) hp ne2)
      have hit := way_hit F U (told_nord F TD) mem BL ma W hl nx
      simp! [hs9, al]
      refine compLS (H1 := H9) p3 (fw.map V.int) (leF av) (fun Q2 h2 => by simp! []; exact h2) (.of hf9) (by rw [List.length_map, sizeLine_eq]; omega) ?_ ?_
      · intro y H10 R10 N hy S10 hR hN
        obtain ⟨j, hj, rfl⟩ := List.mem_map.mp hy
        have hs10 := S10 _ _ hs9
        simp! [capSt, hs10, al]
        by_cases lt : j ≤ av
        · rw [if_pos lt]
          exact hR _ _ (by show (if j ≤ av then some (V.int j) else none) = _; rw [if_pos lt]) (Same.refl _)
        · rw [if_neg lt]
          exact hN (by show (if j ≤ av then some (V.int j) else none) = _; rw [if_neg lt]) _ (Same.refl _)
      · intro D H10 hD S10 e10
        rw [fm_le] at e10
        refine ⟨cle fw av, by rw [lenF_ref, e10, lenO_lst, List.length_map]; rfl, ?_⟩
        refine rIn_ints (S10 _ _ hp9) ?_
        rw [if_neg Bool.false_ne_true, decide_eq_true (show av + ((cle fw av : Nat) : Int) ∈ ws from hit)]
        exact q _ (S3.trans (S39.trans S10))

end
end Law

namespace Law
open PySem L2
local macro_rules | `(tactic| simp! [$ls,*]) => `(tactic| simp only [tSeq, tAsg, gName, tVar, tC, tOp, tUn, rI0, rI, rU, tCB, tCons, tNil, tRet, tRetN, tIfS, tTest, tB, tAnd, tOr, tNot, tAndV, tOrV, tNotV, tIf, tDrop, tNext, tCall, tMeth, tIsN, tNotN, L2.start, List.map_cons, List.map_nil, List.length_cons, List.length_nil, List.nil_append, List.cons_append, List.append_nil, Nat.reduceAdd, Nat.reduceSub, Nat.sub_self, List.replicate_succ, List.replicate_zero, List.set_cons_zero, List.set_cons_succ, List.getElem?_cons_zero, List.getElem?_cons_succ, Option.some.injEq, V.int.injEq, V.bl.injEq, V.str.injEq, V.ref.injEq, List.cons.injEq, exists_eq_left', exists_eq_left, exists_and_left, and_true, true_and, if_true, if_false, ite_true, ite_false, Bool.true_eq_false, Bool.false_eq_true, decide_eq_true_eq, Bool.not_true, Bool.not_false, Bool.not_eq_true', decide_eq_false_iff_not, reduceCtorEq, false_and, and_false, exists_false, tTup, tLst, sizeLine_eq, Nat.reduceLeDiff, Nat.zero_le, rEq, rNe, rIxF, rEqF, gSub, rSetL, HO.lst.injEq, HO.tup.injEq, HO.ins.injEq, HO.dK.injEq, scal_int, scal_bl, scal_str, tyF_ref, tyF_int, tyF_bl, tyF_str, tyF_non, lenF_ref, seqV_eq, kindV_eq, tyO_lst, tyO_frz, tyO_tup, tyO_dK, lenO_lst, lenO_frz, lenO_tup, seqO_lst, seqO_frz, seqO_tup, kindO_lst, kindO_frz, kindO_tup, isTys, and_assoc, atI_0, atI_1, atI_2, atI_3, atI_4, upd_same, V.ty.injEq, eq_self_iff_true, and_self, String.reduceEq, or_false, or_true, false_or, true_or, Bool.or_true, Bool.or_false, Bool.true_or, Bool.false_or, Bool.and_false, Bool.false_and, Bool.and_true, Bool.true_and, String.reduceBEq, beq_self_eq_true, tDGetF, tDInF, tDNotInF, sDPutF, keyOf_int, keyOf_str, sFld, tFld, tDNewK, tRaise, tMethE, EX, tFstr, tMake, cxOf_K, Nat.reduceLT, Option.join_some, Option.join_none, not_true_eq_false, not_false_eq_true, gCons, gNil, tChain, rEqE, tAug, ipI, $ls,*])
section
variable {P : Program} {w : World} {K : PySem.W.Frag} {mg : Str → Option Value} {base : Heap} {a : Ad}

set_option maxHeartbeats 4000000 in
theorem ok_law (T : Txt K mg a) : FnOk P w K mg base CX0 6 a.f_law a.d_law ["script"] (spLaw K) := by
  refine T.F_law.okC sc_law (fun vs H Q E h => ?_) (fun cdv A outer s H vs Q E hr h => ?_)
  · obtain ⟨r, ns, rfl, _⟩ := h
    rfl
  · obtain ⟨r, ns, rfl, hS, _, fin⟩ := h
    have hu := hu_of hr
    refine ⟨_, (@pss_cons _ _ _ _ _ (ps_set (i := 1) sc_law.nd (by rfl) (Or.inl rfl) (pe_call (ok_law_bag T) (hr.mono (by decide)) (by rfl) T.m_law_bag T.F_law_bag.kp T.b_law_bag .nil pass0 (@pa_cname _ _ _ _ _ _ (pv 0) pa_nil)))
      (@pss_cons _ _ _ _ _ (@ps_setL _ 2 _ _ _ _ _ _ sc_law.nd (by rfl) (Or.inl rfl) (pa_cons (pe_call (ok_law_draw T) (hr.mono (by decide)) (by rfl) T.m_law_draw T.F_law_draw.kp T.b_law_draw .nil pass0 (@pa_cname _ _ _ _ _ _ (pv 1) (@pa_cint _ _ _ _ _ _ pa_nil))) (pa_cons (pe_call (ok_law_draw T) (hr.mono (by decide)) (by rfl) T.m_law_draw T.F_law_draw.kp T.b_law_draw .nil pass0 (@pa_cname _ _ _ _ _ _ (pv 1) (@pa_cint _ _ _ _ _ _ pa_nil))) pa_nil)) (by first | exact .inl (by rfl) | exact .inr (by rfl) | assumption))
      (@pss_cons _ _ _ _ _ (ps_set (i := 3) sc_law.nd (by rfl) (Or.inl rfl) (pe_call (ok_law_loops T) (hr.mono (by decide)) (by rfl) T.m_law_loops T.F_law_loops.kp T.b_law_loops .nil pass0 (@pa_cname _ _ _ _ _ _ (pv 1) pa_nil)))
      (@pss_cons _ _ _ _ _ (ps_set (i := 4) sc_law.nd (by rfl) (Or.inl rfl) (pe_call (ok_told_rests T) (hr.mono (by decide)) (by rfl) T.m_told_rests T.F_told_rests.kp T.b_told_rests .nil pass0 (@pa_cname _ _ _ _ _ _ (pv 3) pa_nil)))
      (@pss_cons _ _ _ _ _ (ps_set (i := 5) sc_law.nd (by rfl) (Or.inl rfl) (pe_ix ix_F (pe_ix ix_F (pe_call (ok_rested T) (hr.mono (by decide)) (by rfl) T.m_rested T.F_rested.kp T.b_rested .nil pass0 (pa_cons (pe_lst (pa_cons (pe_tup (@pa_cstr _ _ _ _ _ _ (@pa_cstr _ _ _ _ _ _ (@pa_cint _ _ _ _ _ _ (@pa_cname _ _ _ _ _ _ (pv 3) pa_nil))))) pa_nil)) (pa_cons (pe_lst (@pa_cname _ _ _ _ _ _ (pv 4) pa_nil)) pa_nil))) pe_int (fun _ _ => rfl)) pe_int (fun _ _ => rfl)))
      (@pss_cons _ _ _ _ _ (@ps_if _ _ _ _ _ _ _ _ (pt_cmpR op_ne (pe_callB call_lenF (by rfl) T.z_len (by decide +kernel) (@pa_cname _ _ _ _ _ _ (pv 5) pa_nil)) (pe_op op_add (pe_callB call_lenF (by rfl) T.z_len (by decide +kernel) (@pa_cname _ _ _ _ _ _ (pv 3) pa_nil)) (pe_callB call_lenF (by rfl) T.z_len (by decide +kernel) (@pa_cname _ _ _ _ _ _ (pv 4) pa_nil))) (nomark _)) (@pss_one _ _ _ (ps_ret pe_bl)) pss_nil)
      (@pss_cons _ _ _ _ _ (@ps_if _ _ _ _ _ _ _ _ (pt_cmpR op_gt (pe_callB call_lenF (by rfl) T.z_len (by decide +kernel) (@pa_cname _ _ _ _ _ _ (pv 5) pa_nil)) pe_int (nomark _)) (@pss_one _ _ _ (ps_ret pe_bl)) pss_nil)
      (@pss_cons _ _ _ _ _ (@ps_if _ _ _ _ _ _ _ _ (PW.pt (pw_or (pt_cmp (pc_notN (pe_call (ok_bare_round T) (hr.mono (by decide)) (by rfl) T.m_bare_round T.F_bare_round.kp T.b_bare_round .nil pass0 (@pa_cname _ _ _ _ _ _ (pv 5) (pa_cons (pe_lst pa_nil) pa_nil))))) (pw_or (pt_cmpR (op_neE hu) (pe_call (ok_law_lasting T) (hr.mono (by decide)) (by rfl) T.m_law_lasting T.F_law_lasting.kp T.b_law_lasting .nil pass0 (@pa_cname _ _ _ _ _ _ (pv 5) (pa_cons (pe_lst pa_nil) pa_nil))) (pe_lst pa_nil) (nomark _)) (pw_or1 (pt_cmpR (op_neE hu) (pe_call (ok_told_rests T) (hr.mono (by decide)) (by rfl) T.m_told_rests T.F_told_rests.kp T.b_told_rests .nil pass0 (@pa_cname _ _ _ _ _ _ (pv 5) pa_nil)) (pe_lst pa_nil) (nomark _)))))) (@pss_one _ _ _ (ps_ret pe_bl)) pss_nil)
      (@pss_cons _ _ _ _ _ (ps_for PassesOwn.never (by rfl) (pi_list (pv 2)) (pg_name (i := 6) sc_law.nd (by rfl) (Or.inl rfl))
      (@pss_one _ _ _ (@ps_if _ _ _ _ _ _ _ _ (PW.pt (pw_and (pt_cmpR (op_neE hu) (pv 4) (pe_lst pa_nil) (nomark _)) (pw_and1 (pt_not (pt_val (pe_call (ok_law_left_out T) (hr.mono (by decide)) (by rfl) T.m_law_left_out T.F_law_left_out.kp T.b_law_left_out .nil pass0 (@pa_cname _ _ _ _ _ _ (pv 3) (@pa_cname _ _ _ _ _ _ (pv 4) (pa_cons (pe_op op_mod (pv 6) (pe_callB call_lenF (by rfl) T.z_len (by decide +kernel) (@pa_cname _ _ _ _ _ _ (pv 4) pa_nil))) pa_nil))))))))) (@pss_one _ _ _ (ps_ret pe_bl)) pss_nil)))
      (@pss_one _ _ _ (ps_ret pe_bl))))))))))), ?_⟩
    generalize hG : tSeq (tIfS _ _ _) _ = tail
    simp! []
    refine ⟨r, ns, rfl, hS, fun b c cs H1 nb nc B1 S1 => ?_⟩
    refine ⟨b, c, cs, 40, rfl, B1, by decide, by decide, fun x1 H2 x10 x11 B2 k2 => ?_⟩
    refine ⟨b, c, cs, 40, rfl, B2, by decide, by decide, fun x2 H3 x20 x21 B3 k3 pk npk => ?_⟩
    have hpk : upd H3 pk (.lst [.int x1, .int x2]) pk = some (.lst [.int x1, .int x2]) := upd_same
    obtain ⟨npb, npc⟩ := B3.apart npk
    have B4 := B3.laid (u := .lst [.int x1, .int x2]) npk
    revert hpk B4
    generalize upd H3 pk (.lst [.int x1, .int x2]) = H4
    intro hpk B4
    refine ⟨b, c, cs, rfl, B4, fun rl rs rws H5 R F nrl B5 k5 => ?_⟩
    have hpk5 := k5 _ _ hpk npb
    refine ⟨rl, rs, rws, rfl, R, F, fun sl ms H6 S6 nsl TD hsl => ?_⟩
    have hpk6 := S6 _ _ hpk5
    have R6 := R.same S6
    clear hpk5 hpk B5 k5 B4 B3 B2 B1 k2 k3
    have U := told_up F TD
    have bd : ∀ x ∈ ms, x < rws.length := fun x hx => (rch_in F (TD.2.1 x hx).1).2
    have n40 := F.n1
    have lms : ms.length ≤ 40 := by
      have := nodup_rng (n := rws.length) (TD.1.imp fun h => by omega) fun x hx => rch_in F (TD.2.1 x hx).1
      omega
    have sz : (rsts ms rws 0).length = rws.length + ms.length := by rw [rsts_size U.up U.b, cnt_all bd]
    simp! []
    intro t nt pl npl ll nll
    have S7 : Same H6 (upd (upd (upd H6 t (.tup [.str (Str.ofString ""), .str (Str.ofString "n"), .int 0, .ref rl])) pl (.lst [.ref t])) ll (.lst [.ref sl])) := ((Same.laid nt).step npl).step nll
    have ht7 : upd (upd (upd H6 t (.tup [.str (Str.ofString ""), .str (Str.ofString "n"), .int 0, .ref rl])) pl (.lst [.ref t])) ll (.lst [.ref sl]) t = some (.tup [.str (Str.ofString ""), .str (Str.ofString "n"), .int 0, .ref rl]) := upd_old (upd_old upd_same npl) nll
    have hp7 : upd (upd (upd H6 t (.tup [.str (Str.ofString ""), .str (Str.ofString "n"), .int 0, .ref rl])) pl (.lst [.ref t])) ll (.lst [.ref sl]) pl = some (.lst [.ref t]) := upd_old upd_same nll
    have hl7 : upd (upd (upd H6 t (.tup [.str (Str.ofString ""), .str (Str.ofString "n"), .int 0, .ref rl])) pl (.lst [.ref t])) ll (.lst [.ref sl]) ll = some (.lst [.ref sl]) := upd_same
    revert S7 ht7 hp7 hl7
    generalize upd (upd (upd H6 t (.tup [.str (Str.ofString ""), .str (Str.ofString "n"), .int 0, .ref rl])) pl (.lst [.ref t])) ll (.lst [.ref sl]) = H7
    intro S7 ht7 hp7 hl7
    refine rested_one (ns := ms) (R6.same S7) F (S7 _ _ hsl) ht7 hp7 hl7 (by omega) fun fl tl l fs H8 S8 h1 h2 RL => ?_
    have S68 := S7.trans S8
    have R8 := R6.same S68
    have hsl8 := S68 _ _ hsl
    have hpk8 := S68 _ _ hpk6
    refine ⟨fl, rfl, _, by rw [h1]; rfl, _, atI_0, tl, rfl, _, by rw [h2]; rfl, _, atI_3, ?_⟩
    subst hG
    have lr := R8.len
    have lR := RL.len
    generalize hG : tSeq (tIfS (tOr _ _) _ _) _ = tail
    simp! [RL.top, R8.top, hsl8, List.length_map]
    rw [if_neg (by rw [Classical.not_not]; omega)]
    refine ite2 (fun _ => fin _) fun l40 => ?_
    have lL : (rsts ms rws 0).length ≤ 40 := by omega
    have FL := fit_L F U lL
    have NR := nord_L F U (told_nord F TD)
    subst hG
    generalize hG : tSeq (tFor _ _ _) _ = tail
    simp! []
    intro e ne
    refine ⟨l, e, fs, rsts ms rws 0, [], rfl, RL.same (Same.laid ne), FL, upd_same, fun H9 S9 _ => ?_, fun p ns' ws at' x H9 S9 np hp BL ma W hl nx => ?_⟩
    · dsimp only
      rw [if_neg (by simp)]
      intro e2 ne2
      have S89 := (Same.laid (u := .lst []) ne).trans S9
      refine ⟨l, e2, fs, rsts ms rws 0, [], rfl, (RL.same S89).same (Same.laid ne2), FL, upd_same, fun l2 ls H10 S10 LS h10 => ?_⟩
      have els : ls = [] := no_last (S := fun y => Bare (rsts ms rws 0) y ∧ y ∉ ([] : List Int)) (fun x hx => NR x hx.1 hx.2) ls.length ls (Nat.le_refl _) fun x hx => ⟨LS.in_ x hx, LS.go x hx⟩
      subst els
      intro e3 ne3
      have h11 := upd_old (u := .lst []) h10 ne3
      refine ⟨l2, rfl, [], by rw [h11]; rfl, by rw [h11]; rfl, ?_⟩
      rw [if_neg (by decide)]
      have S811 := ((S89.step ne2).trans S10).step ne3 (u := .lst [])
      refine ⟨l, fs, rsts ms rws 0, rfl, RL.same S811, FL, fun l3 ts H12 S12 _ TD3 h12 => ?_⟩
      have ets := told_nil NR TD3
      subst ets
      intro e4 ne4
      have h13 := upd_old (u := .lst []) h12 ne4
      refine ⟨l3, rfl, [], by rw [h13]; rfl, by rw [h13]; rfl, ?_⟩
      rw [if_neg (by decide)]
      have S813 := (S811.trans S12).step ne4 (u := .lst [])
      revert S813
      generalize upd H12 e4 (.lst []) = H13
      intro S813
      subst hG
      simp! []
      refine forL (H1 := H13) pk [.int x1, .int x2] (fun Q2 h2 => by simp! []; exact h2) (fun j σ H14 => ∃ v6 : Option V, σ = [some (.ref r), some (.ref b), some (.ref pk), some (.ref rl), some (.ref sl), some (.ref l), v6] ∧ Same H8 H14) ⟨_, rfl, S813⟩ ?_ ?_ ?_
      · rintro j σ H14 hj ⟨_, _, S14⟩
        exact .of (S14 _ _ hpk8)
      · rintro j y σ H14 hj ⟨v6, rfl, S14⟩
        obtain ⟨z, rfl, z0⟩ : ∃ z : Int, y = .int z ∧ 0 ≤ z := by
          match j, hj with
          | 0, hj => cases hj; exact ⟨x1, rfl, x10⟩
          | 1, hj => cases hj; exact ⟨x2, rfl, x20⟩
          | j + 2, hj => simp at hj
        have hs14 := S14 _ _ hsl8
        simp! [hs14]
        intro e5 ne5
        have hs15 := upd_old (u := .lst []) hs14 ne5
        refine ⟨ms.map V.int, by rw [hs15]; rfl, by rw [hs15]; rfl, ?_⟩
        refine ite2 (fun cm => ?_) fun _ => S14.step ne5
        have l0 : 0 < ms.length := by
          cases ms with
          | nil => simp at cm
          | cons y r => simp
        simp! [hs15, List.length_map]
        have S15 := S14.step ne5 (u := .lst [])
        have lm : (0 : Int) < ms.length := by omega
        have m0 := Int.emod_nonneg z (show (ms.length : Int) ≠ 0 by omega)
        have m1 := Int.emod_lt_of_pos z lm
        obtain ⟨kz, ekz⟩ := Int.eq_ofNat_of_zero_le m0
        rw [ekz] at m1 ⊢
        exact ⟨lm, rl, sl, kz, rs, rws, ms, rfl, R8.same S15, F, hs15, TD, by omega, by omega, fun H' S' => ⟨true, rfl, by rw [if_neg (by decide)]; exact S15.trans S'⟩⟩
      · rintro σ H14 ⟨v6, rfl, S14⟩
        simp! []
        exact fin _
    · exact absurd (way_cb BL W hl nx) (NR at' ((BL.2 at').mp ma).1 (by simp))

end
end Law

namespace Law
open PySem L2
theorem all_mk {l : PySem.W.OpenLaw} {w : World} {K : PySem.W.Frag} {h : Heap} {mg : Str → Option Value} {fa : Addr} {f0 : Addr} {od0 an0 : Option Addr} {sl0 : Array (Option Value)} {oc0 kV0 dc0 pm0 cd0 ct0 : Value} {f1 : Addr} {od1 an1 : Option Addr} {sl1 : Array (Option Value)} {oc1 kV1 dc1 pm1 cd1 ct1 : Value} {f2 : Addr} {od2 an2 : Option Addr} {sl2 : Array (Option Value)} {oc2 kV2 dc2 pm2 cd2 ct2 : Value} {f3 : Addr} {od3 an3 : Option Addr} {sl3 : Array (Option Value)} {oc3 kV3 dc3 pm3 cd3 ct3 : Value} {f4 : Addr} {od4 an4 : Option Addr} {sl4 : Array (Option Value)} {oc4 kV4 dc4 pm4 cd4 ct4 : Value} {f5 : Addr} {od5 an5 : Option Addr} {sl5 : Array (Option Value)} {oc5 kV5 dc5 pm5 cd5 ct5 : Value} {f6 : Addr} {od6 an6 : Option Addr} {sl6 : Array (Option Value)} {oc6 kV6 dc6 pm6 cd6 ct6 : Value} {f7 : Addr} {od7 an7 : Option Addr} {sl7 : Array (Option Value)} {oc7 kV7 dc7 pm7 cd7 ct7 : Value} {f8 : Addr} {od8 an8 : Option Addr} {sl8 : Array (Option Value)} {oc8 kV8 dc8 pm8 cd8 ct8 : Value} {f9 : Addr} {od9 an9 : Option Addr} {sl9 : Array (Option Value)} {oc9 kV9 dc9 pm9 cd9 ct9 : Value} {f10 : Addr} {od10 an10 : Option Addr} {sl10 : Array (Option Value)} {oc10 kV10 dc10 pm10 cd10 ct10 : Value} {f11 : Addr} {od11 an11 : Option Addr} {sl11 : Array (Option Value)} {oc11 kV11 dc11 pm11 cd11 ct11 : Value} {f12 : Addr} {od12 an12 : Option Addr} {sl12 : Array (Option Value)} {oc12 kV12 dc12 pm12 cd12 ct12 : Value} {f13 : Addr} {od13 an13 : Option Addr} {sl13 : Array (Option Value)} {oc13 kV13 dc13 pm13 cd13 ct13 : Value} {f14 : Addr} {od14 an14 : Option Addr} {sl14 : Array (Option Value)} {oc14 kV14 dc14 pm14 cd14 ct14 : Value} {f15 : Addr} {od15 an15 : Option Addr} {sl15 : Array (Option Value)} {oc15 kV15 dc15 pm15 cd15 ct15 : Value} {f16 : Addr} {od16 an16 : Option Addr} {sl16 : Array (Option Value)} {oc16 kV16 dc16 pm16 cd16 ct16 : Value} {f17 : Addr} {od17 an17 : Option Addr} {sl17 : Array (Option Value)} {oc17 kV17 dc17 pm17 cd17 ct17 : Value} {f18 : Addr} {od18 an18 : Option Addr} {sl18 : Array (Option Value)} {oc18 kV18 dc18 pm18 cd18 ct18 : Value} {f19 : Addr} {od19 an19 : Option Addr} {sl19 : Array (Option Value)} {oc19 kV19 dc19 pm19 cd19 ct19 : Value}
    (X : K.In h) (G : h.Ns mainGlobals mg) (hfa : mg "law" = some (.ref fa))
    (a0 : PySem.W.nsIn K mainGlobals "nexts" = some (some (.ref f0)))
    (l0 : K.lookup f0 = some ⟨oc0, od0, .func (PySem.W.fnOf "nexts" "nexts" (defArgs s_nexts) (defBody s_nexts) (defScope s_nexts) .none kV0 dc0 pm0 an0 cd0 ct0), sl0⟩) (c0 : PySem.W.codeIn K cd0 "nexts" = true) (k0 : PySem.W.keepIn K (.ref f0) = true)
    (a1 : PySem.W.nsIn K mainGlobals "reached" = some (some (.ref f1)))
    (l1 : K.lookup f1 = some ⟨oc1, od1, .func (PySem.W.fnOf "reached" "reached" (defArgs s_reached) (defBody s_reached) (defScope s_reached) .none kV1 dc1 pm1 an1 cd1 ct1), sl1⟩) (c1 : PySem.W.codeIn K cd1 "reached" = true) (k1 : PySem.W.keepIn K (.ref f1) = true)
    (a2 : PySem.W.nsIn K mainGlobals "bare_rows" = some (some (.ref f2)))
    (l2 : K.lookup f2 = some ⟨oc2, od2, .func (PySem.W.fnOf "bare_rows" "bare_rows" (defArgs s_bare_rows) (defBody s_bare_rows) (defScope s_bare_rows) .none kV2 dc2 pm2 an2 cd2 ct2), sl2⟩) (c2 : PySem.W.codeIn K cd2 "bare_rows" = true) (k2 : PySem.W.keepIn K (.ref f2) = true)
    (a3 : PySem.W.nsIn K mainGlobals "round_through" = some (some (.ref f3)))
    (l3 : K.lookup f3 = some ⟨oc3, od3, .func (PySem.W.fnOf "round_through" "round_through" (defArgs s_round_through) (defBody s_round_through) (defScope s_round_through) .none kV3 dc3 pm3 an3 cd3 ct3), sl3⟩) (c3 : PySem.W.codeIn K cd3 "round_through" = true) (k3 : PySem.W.keepIn K (.ref f3) = true)
    (a4 : PySem.W.nsIn K mainGlobals "bare_round" = some (some (.ref f4)))
    (l4 : K.lookup f4 = some ⟨oc4, od4, .func (PySem.W.fnOf "bare_round" "bare_round" (defArgs s_bare_round) (defBody s_bare_round) (defScope s_bare_round) .none kV4 dc4 pm4 an4 cd4 ct4), sl4⟩) (c4 : PySem.W.codeIn K cd4 "bare_round" = true) (k4 : PySem.W.keepIn K (.ref f4) = true)
    (a5 : PySem.W.nsIn K mainGlobals "told_rests" = some (some (.ref f5)))
    (l5 : K.lookup f5 = some ⟨oc5, od5, .func (PySem.W.fnOf "told_rests" "told_rests" (defArgs s_told_rests) (defBody s_told_rests) (defScope s_told_rests) .none kV5 dc5 pm5 an5 cd5 ct5), sl5⟩) (c5 : PySem.W.codeIn K cd5 "told_rests" = true) (k5 : PySem.W.keepIn K (.ref f5) = true)
    (a6 : PySem.W.nsIn K mainGlobals "with_target" = some (some (.ref f6)))
    (l6 : K.lookup f6 = some ⟨oc6, od6, .func (PySem.W.fnOf "with_target" "with_target" (defArgs s_with_target) (defBody s_with_target) (defScope s_with_target) .none kV6 dc6 pm6 an6 cd6 ct6), sl6⟩) (c6 : PySem.W.codeIn K cd6 "with_target" = true) (k6 : PySem.W.keepIn K (.ref f6) = true)
    (a7 : PySem.W.nsIn K mainGlobals "rested_rows" = some (some (.ref f7)))
    (l7 : K.lookup f7 = some ⟨oc7, od7, .func (PySem.W.fnOf "rested_rows" "rested_rows" (defArgs s_rested_rows) (defBody s_rested_rows) (defScope s_rested_rows) .none kV7 dc7 pm7 an7 cd7 ct7), sl7⟩) (c7 : PySem.W.codeIn K cd7 "rested_rows" = true) (k7 : PySem.W.keepIn K (.ref f7) = true)
    (a8 : PySem.W.nsIn K mainGlobals "rested" = some (some (.ref f8)))
    (l8 : K.lookup f8 = some ⟨oc8, od8, .func (PySem.W.fnOf "rested" "rested" (defArgs s_rested) (defBody s_rested) (defScope s_rested) .none kV8 dc8 pm8 an8 cd8 ct8), sl8⟩) (c8 : PySem.W.codeIn K cd8 "rested" = true) (k8 : PySem.W.keepIn K (.ref f8) = true)
    (a9 : PySem.W.nsIn K mainGlobals "_law_bag" = some (some (.ref f9)))
    (l9 : K.lookup f9 = some ⟨oc9, od9, .func (PySem.W.fnOf "_law_bag" "_law_bag" (defArgs s_law_bag) (defBody s_law_bag) (defScope s_law_bag) .none kV9 dc9 pm9 an9 cd9 ct9), sl9⟩) (c9 : PySem.W.codeIn K cd9 "_law_bag" = true) (k9 : PySem.W.keepIn K (.ref f9) = true)
    (a10 : PySem.W.nsIn K mainGlobals "_law_draw" = some (some (.ref f10)))
    (l10 : K.lookup f10 = some ⟨oc10, od10, .func (PySem.W.fnOf "_law_draw" "_law_draw" (defArgs s_law_draw) (defBody s_law_draw) (defScope s_law_draw) .none kV10 dc10 pm10 an10 cd10 ct10), sl10⟩) (c10 : PySem.W.codeIn K cd10 "_law_draw" = true) (k10 : PySem.W.keepIn K (.ref f10) = true)
    (a11 : PySem.W.nsIn K mainGlobals "_law_loops" = some (some (.ref f11)))
    (l11 : K.lookup f11 = some ⟨oc11, od11, .func (PySem.W.fnOf "_law_loops" "_law_loops" (defArgs s_law_loops) (defBody s_law_loops) (defScope s_law_loops) .none kV11 dc11 pm11 an11 cd11 ct11), sl11⟩) (c11 : PySem.W.codeIn K cd11 "_law_loops" = true) (k11 : PySem.W.keepIn K (.ref f11) = true)
    (a12 : PySem.W.nsIn K mainGlobals "_law_loop_row" = some (some (.ref f12)))
    (l12 : K.lookup f12 = some ⟨oc12, od12, .func (PySem.W.fnOf "_law_loop_row" "_law_loop_row" (defArgs s_law_loop_row) (defBody s_law_loop_row) (defScope s_law_loop_row) .none kV12 dc12 pm12 an12 cd12 ct12), sl12⟩) (c12 : PySem.W.codeIn K cd12 "_law_loop_row" = true) (k12 : PySem.W.keepIn K (.ref f12) = true)
    (a13 : PySem.W.nsIn K mainGlobals "_law_nexts" = some (some (.ref f13)))
    (l13 : K.lookup f13 = some ⟨oc13, od13, .func (PySem.W.fnOf "_law_nexts" "_law_nexts" (defArgs s_law_nexts) (defBody s_law_nexts) (defScope s_law_nexts) .none kV13 dc13 pm13 an13 cd13 ct13), sl13⟩) (c13 : PySem.W.codeIn K cd13 "_law_nexts" = true) (k13 : PySem.W.keepIn K (.ref f13) = true)
    (a14 : PySem.W.nsIn K mainGlobals "_law_walked" = some (some (.ref f14)))
    (l14 : K.lookup f14 = some ⟨oc14, od14, .func (PySem.W.fnOf "_law_walked" "_law_walked" (defArgs s_law_walked) (defBody s_law_walked) (defScope s_law_walked) .none kV14 dc14 pm14 an14 cd14 ct14), sl14⟩) (c14 : PySem.W.codeIn K cd14 "_law_walked" = true) (k14 : PySem.W.keepIn K (.ref f14) = true)
    (a15 : PySem.W.nsIn K mainGlobals "_law_goes_on" = some (some (.ref f15)))
    (l15 : K.lookup f15 = some ⟨oc15, od15, .func (PySem.W.fnOf "_law_goes_on" "_law_goes_on" (defArgs s_law_goes_on) (defBody s_law_goes_on) (defScope s_law_goes_on) .none kV15 dc15 pm15 an15 cd15 ct15), sl15⟩) (c15 : PySem.W.codeIn K cd15 "_law_goes_on" = true) (k15 : PySem.W.keepIn K (.ref f15) = true)
    (a16 : PySem.W.nsIn K mainGlobals "_law_lasting" = some (some (.ref f16)))
    (l16 : K.lookup f16 = some ⟨oc16, od16, .func (PySem.W.fnOf "_law_lasting" "_law_lasting" (defArgs s_law_lasting) (defBody s_law_lasting) (defScope s_law_lasting) .none kV16 dc16 pm16 an16 cd16 ct16), sl16⟩) (c16 : PySem.W.codeIn K cd16 "_law_lasting" = true) (k16 : PySem.W.keepIn K (.ref f16) = true)
    (a17 : PySem.W.nsIn K mainGlobals "_law_round_good" = some (some (.ref f17)))
    (l17 : K.lookup f17 = some ⟨oc17, od17, .func (PySem.W.fnOf "_law_round_good" "_law_round_good" (defArgs s_law_round_good) (defBody s_law_round_good) (defScope s_law_round_good) .none kV17 dc17 pm17 an17 cd17 ct17), sl17⟩) (c17 : PySem.W.codeIn K cd17 "_law_round_good" = true) (k17 : PySem.W.keepIn K (.ref f17) = true)
    (a18 : PySem.W.nsIn K mainGlobals "_law_left_out" = some (some (.ref f18)))
    (l18 : K.lookup f18 = some ⟨oc18, od18, .func (PySem.W.fnOf "_law_left_out" "_law_left_out" (defArgs s_law_left_out) (defBody s_law_left_out) (defScope s_law_left_out) .none kV18 dc18 pm18 an18 cd18 ct18), sl18⟩) (c18 : PySem.W.codeIn K cd18 "_law_left_out" = true) (k18 : PySem.W.keepIn K (.ref f18) = true)
    (a19 : PySem.W.nsIn K mainGlobals "law" = some (some (.ref f19)))
    (l19 : K.lookup f19 = some ⟨oc19, od19, .func (PySem.W.fnOf "law" "law" (defArgs s_law) (defBody s_law) (defScope s_law) .none kV19 dc19 pm19 an19 cd19 ct19), sl19⟩) (c19 : PySem.W.codeIn K cd19 "law" = true) (k19 : PySem.W.keepIn K (.ref f19) = true)
    (z_abs : PySem.W.nsIn K mainGlobals "abs" = some none)
    (z_bool : PySem.W.nsIn K mainGlobals "bool" = some none)
    (z_enumerate : PySem.W.nsIn K mainGlobals "enumerate" = some none)
    (z_int : PySem.W.nsIn K mainGlobals "int" = some none)
    (z_isinstance : PySem.W.nsIn K mainGlobals "isinstance" = some none)
    (z_len : PySem.W.nsIn K mainGlobals "len" = some none)
    (z_list : PySem.W.nsIn K mainGlobals "list" = some none)
    (z_max : PySem.W.nsIn K mainGlobals "max" = some none)
    (z_min : PySem.W.nsIn K mainGlobals "min" = some none)
    (z_range : PySem.W.nsIn K mainGlobals "range" = some none)
    (z_set : PySem.W.nsIn K mainGlobals "set" = some none)
    (z_sorted : PySem.W.nsIn K mainGlobals "sorted" = some none) :
    ∃ fd : FuncData, (∀ (s : Shared) (v : Value), BindsTo s fd ⟨[v], []⟩ [("script", v)]) ∧ ∀ base : Heap, K.In base → base.Ns mainGlobals mg → FnOk l.prog w K mg base CX0 6 fa fd ["script"] (spLaw K) := by
  have e := hfa.symm.trans (PySem.W.mg_of X G a19)
  cases e
  have F0 := fun_mk (st := s_nexts) l0 c0 k0
  have b0 := F0.binds (ps := ["rows", "at"]) fun _ _ _ _ _ _ us hl => match us, hl with | [_, _], _ => rfl
  have F1 := fun_mk (st := s_reached) l1 c1 k1
  have b1 := F1.binds (ps := ["rows"]) fun _ _ _ _ _ _ us hl => match us, hl with | [_], _ => rfl
  have F2 := fun_mk (st := s_bare_rows) l2 c2 k2
  have b2 := F2.binds (ps := ["rows", "some"]) fun _ _ _ _ _ _ us hl => match us, hl with | [_, _], _ => rfl
  have F3 := fun_mk (st := s_round_through) l3 c3 k3
  have b3 := F3.binds (ps := ["rows", "at", "bare"]) fun _ _ _ _ _ _ us hl => match us, hl with | [_, _, _], _ => rfl
  have F4 := fun_mk (st := s_bare_round) l4 c4 k4
  have b4 := F4.binds (ps := ["rows", "some"]) fun _ _ _ _ _ _ us hl => match us, hl with | [_, _], _ => rfl
  have F5 := fun_mk (st := s_told_rests) l5 c5 k5
  have b5 := F5.binds (ps := ["rows"]) fun _ _ _ _ _ _ us hl => match us, hl with | [_], _ => rfl
  have F6 := fun_mk (st := s_with_target) l6 c6 k6
  have b6 := F6.binds (ps := ["row", "rests"]) fun _ _ _ _ _ _ us hl => match us, hl with | [_, _], _ => rfl
  have F7 := fun_mk (st := s_rested_rows) l7 c7 k7
  have b7 := F7.binds (ps := ["rows", "rests"]) fun _ _ _ _ _ _ us hl => match us, hl with | [_, _], _ => rfl
  have F8 := fun_mk (st := s_rested) l8 c8 k8
  have b8 := F8.binds (ps := ["program", "rests"]) fun _ _ _ _ _ _ us hl => match us, hl with | [_, _], _ => rfl
  have F9 := fun_mk (st := s_law_bag) l9 c9 k9
  have b9 := F9.binds (ps := ["script"]) fun _ _ _ _ _ _ us hl => match us, hl with | [_], _ => rfl
  have F10 := fun_mk (st := s_law_draw) l10 c10 k10
  have b10 := F10.binds (ps := ["bag", "many"]) fun _ _ _ _ _ _ us hl => match us, hl with | [_, _], _ => rfl
  have F11 := fun_mk (st := s_law_loops) l11 c11 k11
  have b11 := F11.binds (ps := ["bag"]) fun _ _ _ _ _ _ us hl => match us, hl with | [_], _ => rfl
  have F12 := fun_mk (st := s_law_loop_row) l12 c12 k12
  have b12 := F12.binds (ps := ["bag", "word", "k", "many", "near"]) fun _ _ _ _ _ _ us hl => match us, hl with | [_, _, _, _, _], _ => rfl
  have F13 := fun_mk (st := s_law_nexts) l13 c13 k13
  have b13 := F13.binds (ps := ["rows", "at"]) fun _ _ _ _ _ _ us hl => match us, hl with | [_, _], _ => rfl
  have F14 := fun_mk (st := s_law_walked) l14 c14 k14
  have b14 := F14.binds (ps := ["rows"]) fun _ _ _ _ _ _ us hl => match us, hl with | [_], _ => rfl
  have F15 := fun_mk (st := s_law_goes_on) l15 c15 k15
  have b15 := F15.binds (ps := ["rows", "at", "some"]) fun _ _ _ _ _ _ us hl => match us, hl with | [_, _, _], _ => rfl
  have F16 := fun_mk (st := s_law_lasting) l16 c16 k16
  have b16 := F16.binds (ps := ["rows", "some"]) fun _ _ _ _ _ _ us hl => match us, hl with | [_, _], _ => rfl
  have F17 := fun_mk (st := s_law_round_good) l17 c17 k17
  have b17 := F17.binds (ps := ["rows", "found", "some"]) fun _ _ _ _ _ _ us hl => match us, hl with | [_, _, _], _ => rfl
  have F18 := fun_mk (st := s_law_left_out) l18 c18 k18
  have b18 := F18.binds (ps := ["rows", "some", "at"]) fun _ _ _ _ _ _ us hl => match us, hl with | [_, _, _], _ => rfl
  have F19 := fun_mk (st := s_law) l19 c19 k19
  have b19 := F19.binds (ps := ["script"]) fun _ _ _ _ _ _ us hl => match us, hl with | [_], _ => rfl
  have T : Txt K mg ⟨_, _, _, _, _, _, _, _, _, _, _, _, _, _, _, _, _, _, _, _, _, _, _, _, _, _, _, _, _, _, _, _, _, _, _, _, _, _, _, _⟩ := ⟨F0, b0, PySem.W.mg_of X G a0, F1, b1, PySem.W.mg_of X G a1, F2, b2, PySem.W.mg_of X G a2, F3, b3, PySem.W.mg_of X G a3, F4, b4, PySem.W.mg_of X G a4, F5, b5, PySem.W.mg_of X G a5, F6, b6, PySem.W.mg_of X G a6, F7, b7, PySem.W.mg_of X G a7, F8, b8, PySem.W.mg_of X G a8, F9, b9, PySem.W.mg_of X G a9, F10, b10, PySem.W.mg_of X G a10, F11, b11, PySem.W.mg_of X G a11, F12, b12, PySem.W.mg_of X G a12, F13, b13, PySem.W.mg_of X G a13, F14, b14, PySem.W.mg_of X G a14, F15, b15, PySem.W.mg_of X G a15, F16, b16, PySem.W.mg_of X G a16, F17, b17, PySem.W.mg_of X G a17, F18, b18, PySem.W.mg_of X G a18, F19, b19, PySem.W.mg_of X G a19, PySem.W.mg_none_of X G z_abs, PySem.W.mg_none_of X G z_bool, PySem.W.mg_none_of X G z_enumerate, PySem.W.mg_none_of X G z_int, PySem.W.mg_none_of X G z_isinstance, PySem.W.mg_none_of X G z_len, PySem.W.mg_none_of X G z_list, PySem.W.mg_none_of X G z_max, PySem.W.mg_none_of X G z_min, PySem.W.mg_none_of X G z_range, PySem.W.mg_none_of X G z_set, PySem.W.mg_none_of X G z_sorted⟩
  exact ⟨_, fun s v => .of_eq rfl, fun base _ _ => ok_law T⟩
theorem walk {l : PySem.W.OpenLaw} {q : Program} {loose : List Str} {XP : (Str → Option Value) → Heap → Prop} {YP : World → Heap → Prop} {d : DefRec} {K : Params → PySem.W.Frag} (hn : l.most = some 63) (hdf : d.params.defaults = [])
    (hY : ∀ (w : World) (h : Heap), YP w h → (K w.params).In h)
    (F : ∀ (w : World) (mg : Str → Option Value) (fa : Addr) (h : Heap), (K w.params).In h → h.Ns mainGlobals mg → mg d.name = some (.ref fa) →
      ∃ fd : FuncData, (∀ (s : Shared) (u : Value), BindsTo s fd ⟨[u], []⟩ [("script", u)]) ∧ ∀ base : Heap, (K w.params).In base → base.Ns mainGlobals mg → FnOk l.prog w (K w.params) mg base CX0 6 fa fd ["script"] (spLaw (K w.params))) :
    PySem.W.WalkO q loose XP YP l.row.toRowW d [] (fun f vs => PySem.call f vs) :=
  L2.walk_of (n := 63) (k := 6) (x := "script") (CX := fun w => CX0) (sp := fun w => spLaw (K w.params)) hn (by decide) hdf ⟨rfl, by decide, by decide⟩ hY F (fun _ _ a ns hl _ hS => ⟨a, ns, rfl, hS, hl, fun _ => rfl⟩) fun _ _ _ _ _ z => z
end Law
open PySem PySem.W PyProof.Rows
set_option maxRecDepth 100000 in
set_option maxHeartbeats 0 in
theorem PySem.Challenge.cw_knownholds_k65_whole_rounds_meet_rests_holds : PySem.Challenge.rw_knownholds_k65_whole_rounds_meet_rests.Holds := by
  w_on; o_law; k_head; (case hw => w_witness2)
  k_fill
  refine Law.walk (l := PySem.Challenge.rw_knownholds_k65_whole_rounds_meet_rests) rfl rfl (fun w h Y => PySem.W.kIn_of Y) ?F
  case F =>
    intro w mg fa h KX G hmg
    refine' Law.all_mk KX G hmg ?a0 ?l0 ?c0 ?k0 ?a1 ?l1 ?c1 ?k1 ?a2 ?l2 ?c2 ?k2 ?a3 ?l3 ?c3 ?k3 ?a4 ?l4 ?c4 ?k4 ?a5 ?l5 ?c5 ?k5 ?a6 ?l6 ?c6 ?k6 ?a7 ?l7 ?c7 ?k7 ?a8 ?l8 ?c8 ?k8 ?a9 ?l9 ?c9 ?k9 ?a10 ?l10 ?c10 ?k10 ?a11 ?l11 ?c11 ?k11 ?a12 ?l12 ?c12 ?k12 ?a13 ?l13 ?c13 ?k13 ?a14 ?l14 ?c14 ?k14 ?a15 ?l15 ?c15 ?k15 ?a16 ?l16 ?c16 ?k16 ?a17 ?l17 ?c17 ?k17 ?a18 ?l18 ?c18 ?k18 ?a19 ?l19 ?c19 ?k19 ?z_abs ?z_bool ?z_enumerate ?z_int ?z_isinstance ?z_len ?z_list ?z_max ?z_min ?z_range ?z_set ?z_sorted
    (case a0 => k_is)
    (case l0 => k_is)
    (case c0 => k_is)
    (case k0 => k_is)
    (case a1 => k_is)
    (case l1 => k_is)
    (case c1 => k_is)
    (case k1 => k_is)
    (case a2 => k_is)
    (case l2 => k_is)
    (case c2 => k_is)
    (case k2 => k_is)
    (case a3 => k_is)
    (case l3 => k_is)
    (case c3 => k_is)
    (case k3 => k_is)
    (case a4 => k_is)
    (case l4 => k_is)
    (case c4 => k_is)
    (case k4 => k_is)
    (case a5 => k_is)
    (case l5 => k_is)
    (case c5 => k_is)
    (case k5 => k_is)
    (case a6 => k_is)
    (case l6 => k_is)
    (case c6 => k_is)
    (case k6 => k_is)
    (case a7 => k_is)
    (case l7 => k_is)
    (case c7 => k_is)
    (case k7 => k_is)
    (case a8 => k_is)
    (case l8 => k_is)
    (case c8 => k_is)
    (case k8 => k_is)
    (case a9 => k_is)
    (case l9 => k_is)
    (case c9 => k_is)
    (case k9 => k_is)
    (case a10 => k_is)
    (case l10 => k_is)
    (case c10 => k_is)
    (case k10 => k_is)
    (case a11 => k_is)
    (case l11 => k_is)
    (case c11 => k_is)
    (case k11 => k_is)
    (case a12 => k_is)
    (case l12 => k_is)
    (case c12 => k_is)
    (case k12 => k_is)
    (case a13 => k_is)
    (case l13 => k_is)
    (case c13 => k_is)
    (case k13 => k_is)
    (case a14 => k_is)
    (case l14 => k_is)
    (case c14 => k_is)
    (case k14 => k_is)
    (case a15 => k_is)
    (case l15 => k_is)
    (case c15 => k_is)
    (case k15 => k_is)
    (case a16 => k_is)
    (case l16 => k_is)
    (case c16 => k_is)
    (case k16 => k_is)
    (case a17 => k_is)
    (case l17 => k_is)
    (case c17 => k_is)
    (case k17 => k_is)
    (case a18 => k_is)
    (case l18 => k_is)
    (case c18 => k_is)
    (case k18 => k_is)
    (case a19 => k_is)
    (case l19 => k_is)
    (case c19 => k_is)
    (case k19 => k_is)
    (case z_abs => k_is)
    (case z_bool => k_is)
    (case z_enumerate => k_is)
    (case z_int => k_is)
    (case z_isinstance => k_is)
    (case z_len => k_is)
    (case z_list => k_is)
    (case z_max => k_is)
    (case z_min => k_is)
    (case z_range => k_is)
    (case z_set => k_is)
    (case z_sorted => k_is)

