import PyProof.Rows.All
import Wide.All
import OpenK.AllK
import Wide.FinOn
import Lean
import PyProof.EqAt
import PyProof.EqKinds
import PyProof.TupleCall
import KE.KTab
import PyProof.ListRange
import KE.KTryMore
import PySem.Challenge.RW_knownholds_k06_no_thing_there
set_option Elab.async false
set_option linter.all false
set_option maxRecDepth 100000
namespace L2
open PySem PySem.Spec PyProof.Rows

/-- a key: an int or a str -/
abbrev Key := Sum Int Str
def keyIs : Key → Value → Bool
  | .inl k, v => Value.isInt k v
  | .inr x, v => Value.isStrOf x v
def keyH (w : World) : Key → Int
  | .inl k => hashInt k
  | .inr x => hashStr w x
theorem keyIs_shape : ∀ {k : Key} {v : Value}, keyIs k v = true → (∃ i t, k = Sum.inl i ∧ v = Value.int i t) ∨ (∃ x t, k = Sum.inr x ∧ v = Value.str x t)
  | .inl i, v, h => by
    obtain ⟨t, e⟩ := Value.isInt_shape (k := i) (v := v) h
    exact .inl ⟨i, t, rfl, e⟩
  | .inr x, v, h => by
    obtain ⟨t, e⟩ := Value.isStrOf_shape (x := x) (v := v) h
    exact .inr ⟨x, t, rfl, e⟩
theorem keyIs_int (i : Int) (t : Tok) : keyIs (.inl i) (.int i t) = true := by simp [keyIs, Value.isInt]
theorem keyIs_str (x : Str) (t : Tok) : keyIs (.inr x) (.str x t) = true := by simp [keyIs, Value.isStrOf]
theorem key_ll (a b : Int) : decide ((Sum.inl a : Key) = Sum.inl b) = (a == b) := by
  by_cases e : a = b
  · subst e; simp
  · have h : ¬ (Sum.inl a : Key) = Sum.inl b := fun q => e (Sum.inl.inj q)
    rw [decide_eq_false h]
    exact (beq_eq_false_iff_ne.mpr e).symm
theorem key_rr (a b : Str) : decide ((Sum.inr a : Key) = Sum.inr b) = decide (a = b) := by
  by_cases e : a = b
  · subst e; simp
  · have h : ¬ (Sum.inr a : Key) = Sum.inr b := fun q => e (Sum.inr.inj q)
    rw [decide_eq_false h, decide_eq_false e]
theorem key_lr (a : Int) (b : Str) : decide ((Sum.inl a : Key) = Sum.inr b) = false := decide_eq_false (fun q => nomatch q)
theorem key_rl (a : Str) (b : Int) : decide ((Sum.inr a : Key) = Sum.inl b) = false := decide_eq_false (fun q => nomatch q)

def mixKind (prog : Program) (w : World) : PySem.KeyKind prog w Key where
  is := keyIs
  hash := keyH w
  inj := fun v a b ha hb => by
    rcases keyIs_shape ha with ⟨i, t, rfl, rfl⟩ | ⟨x, t, rfl, rfl⟩
    · rcases keyIs_shape hb with ⟨j, u, rfl, e⟩ | ⟨y, u, rfl, e⟩
      · injection e with e1 _; rw [e1]
      · exact nomatch e
    · rcases keyIs_shape hb with ⟨j, u, rfl, e⟩ | ⟨y, u, rfl, e⟩
      · exact nomatch e
      · injection e with e1 _; rw [e1]
  byValue := fun k v h => by
    rcases keyIs_shape h with ⟨i, t, rfl, rfl⟩ | ⟨x, t, rfl, rfl⟩ <;> rfl
  pyHash := fun hv h => by
    rcases keyIs_shape hv with ⟨i, t, rfl, rfl⟩ | ⟨x, t, rfl, rfl⟩
    · exact wpAny_pyHash_int h
    · exact wpAny_pyHash_str h
  eqBool := fun hu hv h => by
    rcases keyIs_shape hu with ⟨i, t, rfl, rfl⟩ | ⟨x, t, rfl, rfl⟩
    · rcases keyIs_shape hv with ⟨j, u, rfl, rfl⟩ | ⟨y, u, rfl, rfl⟩
      · rw [key_ll] at h; exact wpAny_eqBool_int h
      · rw [key_lr] at h; exact SeqAt.EqAt.int_str i t y u _ _ _ _ h
    · rcases keyIs_shape hv with ⟨j, u, rfl, rfl⟩ | ⟨y, u, rfl, rfl⟩
      · rw [key_rl] at h; exact SeqAt.EqAt.str_int x t j u _ _ _ _ h
      · rw [key_rr] at h; exact wpAny_eqBool_str h
  «strs» := fun k x t v h => by
    rcases keyIs_shape h with ⟨i, u, rfl, e⟩ | ⟨y, u, rfl, e⟩
    · exact nomatch e
    · injection e with e1 _
      subst e1
      cases v <;> rfl

theorem mixKind_int (prog : Program) (w : World) (i : Int) (t : Tok) : (mixKind prog w).is (.inl i) (.int i t) = true := keyIs_int i t
theorem mixKind_str (prog : Program) (w : World) (x : Str) (t : Tok) : (mixKind prog w).is (.inr x) (.str x t) = true := keyIs_str x t
end L2

namespace L2
open PySem PySem.Spec PyProof.Rows

/-- a value, without the heap -/
inductive V where
  | non | bl (b : Bool) | int (i : Int) | str (x : Str) | byt (b : Array UInt8) | flt (b : UInt64) | ref (a : Addr) | ty (n : String)
  deriving DecidableEq

def RelV : V → Value → Prop
  | .non, u => u = Value.none
  | .bl b, u => u = Value.bool b
  | .int i, u => ∃ t, u = Value.int i t
  | .str x, u => ∃ t, u = Value.str x t
  | .byt b, u => ∃ t, u = Value.bytes b t
  | .flt b, u => ∃ t, u = Value.float b t
  | .ref a, u => u = Value.ref a
  | .ty n, u => u = Value.type n

abbrev Vals : List V → List Value → Prop := Paired RelV
theorem Vals.length {xs : List V} {us : List Value} (r : Vals xs us) : xs.length = us.length := Paired.length r
theorem Vals.get : ∀ {xs : List V} {us : List Value} {i : Nat} {x : V}, Vals xs us → xs[i]? = some x → ∃ u, us[i]? = some u ∧ RelV x u
  | _, _, _, _, .nil, e => by simp at e
  | _, _, 0, _, .cons r _, e => by simp at e; subst e; exact ⟨_, rfl, r⟩
  | _, _, i + 1, x, .cons _ t, e => by
    obtain ⟨u, h1, h2⟩ := Vals.get (i := i) (x := x) t (by simpa using e)
    exact ⟨u, by simpa using h1, h2⟩
theorem Vals.set {x : V} {u : Value} (r : RelV x u) : ∀ {xs : List V} {us : List Value} (i : Nat), Vals xs us → Vals (xs.set i x) (us.set i u)
  | _, _, _, .nil => .nil
  | _, _, 0, .cons _ t => .cons r t
  | _, _, i + 1, .cons q t => .cons q (Vals.set r i t)
theorem Vals.append : ∀ {xs ys : List V} {us ws : List Value}, Vals xs us → Vals ys ws → Vals (xs ++ ys) (us ++ ws)
  | _, _, _, _, .nil, s => s
  | _, _, _, _, .cons r t, s => .cons r (Vals.append t s)
theorem Vals.take : ∀ {xs : List V} {us : List Value} (n : Nat), Vals xs us → Vals (xs.take n) (us.take n)
  | _, _, 0, _ => .nil
  | _, _, _ + 1, .nil => .nil
  | _, _, n + 1, .cons r t => .cons r (Vals.take n t)
theorem Vals.drop : ∀ {xs : List V} {us : List Value} (n : Nat), Vals xs us → Vals (xs.drop n) (us.drop n)
  | _, _, 0, r => r
  | _, _, _ + 1, .nil => .nil
  | _, _, n + 1, .cons _ t => Vals.drop n t
def RelO : Option V → Option Value → Prop
  | some v, some u => RelV v u
  | none, none => True
  | _, _ => False
def KV {κ : Type} : List (κ × V) → List (κ × Value) → Prop := Paired fun (p : κ × V) (q : κ × Value) => p.1 = q.1 ∧ RelV p.2 q.2

/-- a key of a dict (00_mix): an int or a text -/
def kV : Key → V
  | .inl i => .int i
  | .inr x => .str x

/-- what stands at a tracked address -/
inductive HO where
  /-- a list -/
  | lst (xs : List V)
  /-- a tuple (never changes) -/
  | tup (xs : List V)
  /-- a dict whose keys are ints and texts; one whose keys are tuples of ints and texts (the empty one is both) -/
  | dK (kvs : List (Key × V)) | dT (kvs : List (List Key × V))
  /-- a set of ints: its members, its size -/
  | set (S : Int → Bool) (n : Nat)
  /-- an instance of the class at C, its dict at dx, its attributes -/
  | ins (C dx : Addr) (fs : List (Str × V))
  /-- the dict of the instance at x -/
  | own (x : Addr)
  /-- the dict of an exception -/
  | xd (fs : List (Str × V))
  /-- a bound method, f of x -/
  | met (f x : Addr)
  /-- a range object lo, lo + 1, .. below hi -/
  | rng (lo hi : Int)
  /-- a thing that is known to the object (the script; a dict while a loop walks it): read, never written while it is so -/
  | frz (o : Obj) (u : HO)
  /-- a code object's table -/
  | tbl (ps : Array Value)
  /-- any other thing, by what is true of its one object (a def of one's own: SetO a S n := HO.ext fun h => ..) -/
  | ext (φ : Heap → Prop)

abbrev Hp := Addr → Option HO
def upd (H : Hp) (a : Addr) (o : HO) : Hp := fun b => if b = a then some o else H b
theorem upd_same {H : Hp} {a : Addr} {o : HO} : upd H a o a = some o := by unfold upd; rw [if_pos rfl]
theorem upd_ne {H : Hp} {a b : Addr} {o : HO} (h : b ≠ a) : upd H a o b = H b := by unfold upd; rw [if_neg h]
theorem upd_upd {H : Hp} {a : Addr} {o u : HO} : upd (upd H a o) a u = upd H a u := by
  funext b; unfold upd; split <;> rfl
/-- two objects of different content stand apart -/
theorem ne_of {H : Hp} {a b : Addr} {o u : HO} (h : H a = some o) (h' : H b = some u) (d : o ≠ u) : a ≠ b := by
  intro e; subst e; rw [h] at h'; exact d (Option.some.inj h')
theorem ne_of_none {H : Hp} {a b : Addr} {o : HO} (h : H a = some o) (h' : H b = none) : a ≠ b := by
  intro e; subst e; rw [h] at h'; cases h'

section
variable (P : Program) (w : World)
def ObjOk (H : Hp) (h : Heap) (a : Addr) : HO → Prop
  | .lst xs => xs.length ≤ sizeLine ∧ ∃ (its : List Value) (n : Nat), Vals xs its ∧ h.get? a = some { cls := .type "list", data := .seq its.toArray n }
  | .tup xs => xs.length ≤ sizeLine ∧ ∃ its : List Value, Vals xs its ∧ IsTup h a its.toArray
  | .dK kvs => kvs.length ≤ sizeLine ∧ (a == sysModules) = false ∧ ∃ vs, KV kvs vs ∧ h.DictOf (mixKind P w) a vs
  | .dT kvs => kvs.length ≤ sizeLine ∧ (a == sysModules) = false ∧ ∃ xs : List (List Key × Addr × Value),
      Paired (fun (p : List Key × V) (q : List Key × Addr × Value) => p.1 = q.1 ∧ H q.2.1 = some (.tup (p.1.map kV)) ∧ RelV p.2 q.2.2) kvs xs ∧
      ∃ o es ep, h.get? a = some o ∧ o.ExactDict ∧ o.data = .dict es ep ∧ es.toList = xs.map (entryOfKey (tupleKind (mixKind P w))) ∧ (xs.map (·.1)).Nodup
  | .set S n => h.SetOf (intKind P w) a S n
  | .ins C dx fs => H dx = some (.own a) ∧ fs.length ≤ 1000 ∧ dx ≠ a ∧ h.get? a = some (PySem.W.instObj C dx) ∧
      ∃ mA, h.Ns1 dx mA ∧ (∀ f, RelO (fs.lookup f) (mA f)) ∧ PySem.Within mA (fs.map (·.1))
  | .own _ => ∃ o, h.get? a = some o
  | .xd fs => ∃ mA, h.Ns1 a mA ∧ ∀ f, RelO (fs.lookup f) (mA f)
  | .rng lo hi => ∃ t u v, h.get? a = some { cls := .type "range", data := .fields #[.int lo t, .int hi u, .int 1 v] }
  | .frz o u => h.get? a = some o ∧ ObjOk H h a u
  | .tbl ps => h.get? a = some { cls := .none, data := .fields ps }
  | .met f x => h.get? a = some (PySem.W.methodObj (.ref f) (.ref x))
  | .ext φ => φ h ∧ (∃ o, h.get? a = some o) ∧ ∀ h1 h2 : Heap, φ h1 → (∀ o, h1.get? a = some o → h2.get? a = some o) → φ h2
/-- the abstract heap is held -/
def HOk (H : Hp) (h : Heap) : Prop := ∀ a o, H a = some o → ObjOk P w H h a o
end

section
variable {P : Program} {w : World} {H H' : Hp} {h h' : Heap} {a : Addr} {o : HO}
theorem ObjOk.lt (x : ObjOk P w H h a o) : a < h.objs.size := by
  cases o with
  | lst xs => obtain ⟨_, _, _, _, e⟩ := x; exact Heap.lt_size e
  | tup xs => obtain ⟨_, _, _, p⟩ := x; exact p.lt
  | dK kvs => obtain ⟨_, _, _, _, o, _, _, e, _⟩ := x; exact Heap.lt_size e
  | dT kvs => obtain ⟨_, _, _, _, o, _, _, e, _⟩ := x; exact Heap.lt_size e
  | set S n => obtain ⟨o, _, _, _, e, _⟩ := x; exact Heap.lt_size e
  | ins C dx fs => obtain ⟨_, _, _, e, _⟩ := x; exact Heap.lt_size e
  | own y => obtain ⟨_, e⟩ := x; exact Heap.lt_size e
  | xd fs => obtain ⟨_, ⟨_, _, _, e, _⟩, _⟩ := x; exact Heap.lt_size e
  | rng lo hi => obtain ⟨_, _, _, e⟩ := x; exact Heap.lt_size e
  | frz ob u => obtain ⟨e, _⟩ := x; exact Heap.lt_size e
  | tbl ps => exact Heap.lt_size (show h.get? a = some _ from x)
  | met f y => exact Heap.lt_size (show h.get? a = some _ from x)
  | ext φ => obtain ⟨_, ⟨_, e⟩, _⟩ := x; exact Heap.lt_size e
theorem Paired.mapP {α β : Type} {F G : α → β → Prop} : ∀ {l₁ : List α} {l₂ : List β}, Paired F l₁ l₂ → (∀ a b, F a b → G a b) → Paired G l₁ l₂
  | _, _, .nil, _ => .nil
  | _, _, .cons r t, f => .cons (f _ _ r) (Paired.mapP t f)
/-- what an object's description leans on: its own object, its own dict, the tuples -/
theorem ObjOk.stay (x : ObjOk P w H h a o) (k : ∀ b u, (b = a ∨ H b = some (.own a)) → h.get? b = some u → h'.get? b = some u)
    (ho : ∀ b, H b = some (.own a) → H' b = some (.own a)) (ht : ∀ b xs, H b = some (.tup xs) → H' b = some (.tup xs)) : ObjOk P w H' h' a o := by
  induction o with
  | lst xs => obtain ⟨z, its, n, r, e⟩ := x; exact ⟨z, its, n, r, k _ _ (.inl rfl) e⟩
  | tup xs => obtain ⟨z, its, r, ob, e, c⟩ := x; exact ⟨z, its, r, ob, k _ _ (.inl rfl) e, c⟩
  | dK kvs => obtain ⟨z, y, vs, r, ob, es, ep, e, c⟩ := x; exact ⟨z, y, vs, r, ob, es, ep, k _ _ (.inl rfl) e, c⟩
  | dT kvs =>
    obtain ⟨z, y, xs, r, ob, es, ep, e, c⟩ := x
    exact ⟨z, y, xs, Paired.mapP r fun p q z => ⟨z.1, ht _ _ z.2.1, z.2.2⟩, ob, es, ep, k _ _ (.inl rfl) e, c⟩
  | set S n => obtain ⟨ob, es, ep, t, e, c⟩ := x; exact ⟨ob, es, ep, t, k _ _ (.inl rfl) e, c⟩
  | ins C dx fs =>
    obtain ⟨d, z, ne, e, mA, ⟨od, es, ep, e2, c⟩, r⟩ := x
    exact ⟨ho _ d, z, ne, k _ _ (.inl rfl) e, mA, ⟨od, es, ep, k _ _ (.inr d) e2, c⟩, r⟩
  | own y => obtain ⟨ob, e⟩ := x; exact ⟨ob, k _ _ (.inl rfl) e⟩
  | xd fs => obtain ⟨mA, ⟨od, es, ep, e, c⟩, r⟩ := x; exact ⟨mA, ⟨od, es, ep, k _ _ (.inl rfl) e, c⟩, r⟩
  | rng lo hi => obtain ⟨t, u, v, e⟩ := x; exact ⟨t, u, v, k _ _ (.inl rfl) e⟩
  | frz ob u ih => obtain ⟨e, q⟩ := x; exact ⟨k _ _ (.inl rfl) e, ih q⟩
  | tbl ps =>
    have e : h.get? a = some { cls := .none, data := .fields ps } := x
    show h'.get? a = some { cls := .none, data := .fields ps }
    exact k a _ (.inl rfl) e
  | met f y =>
    have e : h.get? a = some (PySem.W.methodObj (.ref f) (.ref y)) := x
    show h'.get? a = some (PySem.W.methodObj (.ref f) (.ref y))
    exact k a _ (.inl rfl) e
  | ext φ => obtain ⟨p, ⟨o, e⟩, st⟩ := x; exact ⟨st _ _ p fun o q => k _ _ (.inl rfl) q, ⟨o, k _ _ (.inl rfl) e⟩, st⟩
theorem HOk.lt (x : HOk P w H h) (e : H a = some o) : a < h.objs.size := (x a o e).lt
theorem HOk.fresh (x : HOk P w H h) (e : h.objs.size ≤ a) : H a = none := by
  cases q : H a with
  | none => rfl
  | some u => exact absurd (Nat.lt_of_lt_of_le (x.lt q) e) (Nat.lt_irrefl _)
/-- every object of the heap is kept -/
theorem HOk.kept (x : HOk P w H h) (k : ∀ b u, h.get? b = some u → h'.get? b = some u) : HOk P w H h' := fun a o e =>
  (x a o e).stay (fun b u _ q => k b u q) (fun _ q => q) fun _ _ q => q
/-- a new object is laid and tracked -/
theorem HOk.laid (x : HOk P w H h) (k : ∀ b u, h.get? b = some u → h'.get? b = some u) (hp : h.objs.size ≤ a) (new : ObjOk P w (upd H a o) h' a o) : HOk P w (upd H a o) h' := fun b u e => by
  have hn := x.fresh hp
  by_cases hb : b = a
  · subst hb; rw [upd_same] at e; cases e; exact new
  · rw [upd_ne hb] at e
    exact (x b u e).stay (fun c v _ q => k c v q) (fun c q => by rw [upd_ne (ne_of_none q hn)]; exact q) fun c xs q => by rw [upd_ne (ne_of_none q hn)]; exact q
end

/-- what may be read as u: it is u, or a known u -/
def Rd (H : Hp) (a : Addr) (u : HO) : Prop := H a = some u ∨ ∃ o, H a = some (.frz o u)
theorem Rd.ok {P : Program} {w : World} {H : Hp} {h : Heap} {a : Addr} {u : HO} (r : Rd H a u) (x : HOk P w H h) : ObjOk P w H h a u := by
  rcases r with r | ⟨o, r⟩
  · exact x a u r
  · obtain ⟨_, q⟩ := x a _ r
    exact q
/-- what may be written -/
def Mut : Option HO → Prop
  | some (.lst _) => True
  | some (.dK _) => True
  | some (.dT _) => True
  | some (.set _ _) => True
  | some (.ins _ _ _) => True
  | some (.ext _) => True
  | _ => False
section
variable {P : Program} {w : World} {H : Hp} {h h' : Heap} {x e : Addr} {o' : HO}
/-- the object at e is changed: x itself, or the dict of the instance x -/
theorem HOk.write (ok : HOk P w H h) (mu : Mut (H x)) (he : e = x ∨ H e = some (.own x)) (k : ∀ b u, b ≠ e → h.get? b = some u → h'.get? b = some u) (heo : ∃ u, h'.get? e = some u)
    (new : ObjOk P w (upd H x o') h' x o') : HOk P w (upd H x o') h' := fun b u q => by
  have nown : ∀ c y, H c = some (.own y) → c ≠ x := fun c y r z => by subst z; rw [r] at mu; exact mu
  have ntup : ∀ c xs, H c = some (.tup xs) → c ≠ x := fun c xs r z => by subst z; rw [r] at mu; exact mu
  by_cases hb : b = x
  · subst hb; rw [upd_same] at q; cases q; exact new
  · rw [upd_ne hb] at q
    by_cases hbe : b = e
    · have q' : H b = some (.own x) := by
        rcases he with z | z
        · exact absurd (hbe.trans z) hb
        · rw [hbe]; exact z
      rw [q] at q'; cases q'
      obtain ⟨v, hv⟩ := heo
      exact ⟨v, by rw [hbe]; exact hv⟩
    · refine (ok b u q).stay (fun c v hc r => k c v ?_ r) (fun c r => by rw [upd_ne (nown c b r)]; exact r) fun c xs r => by rw [upd_ne (ntup c xs r)]; exact r
      rcases hc with rfl | hc
      · exact hbe
      · rintro rfl
        rcases he with z | z
        · exact nown c b hc z
        · rw [hc] at z; cases z; exact hb rfl
end

structure Un (fs ex : List Addr) (H H' : Hp) (h h' : Heap) : Prop where
  keep : ∀ b o, h.get? b = some o → H b = none → b ∉ fs → b ∉ ex → h'.get? b = some o
  slot : ∀ b o, h.get? b = some o → H b = none → b ∈ fs → b ∉ ex → ∃ sl, h'.get? b = some { o with slots := sl }
  free : ∀ b o, h.get? b = some o → H b = none → b ∉ ex → H' b = none
  there : ∀ b o, h.get? b = some o → b ∉ ex → ∃ o', h'.get? b = some o'
  tups : ∀ b xs, H b = some (.tup xs) → H' b = some (.tup xs)
  frzs : ∀ b o u, H b = some (.frz o u) → H' b = some (.frz o u)
  tbls : ∀ b ps, H b = some (.tbl ps) → ∃ more, H' b = some (.tbl (ps ++ more))
section
variable {fs fs' ex ex' : List Addr} {H H1 H2 : Hp} {h h1 h2 h' : Heap} {a x e : Addr} {o : HO}
theorem Un.any (u : Un fs ex H H1 h h1) {b : Addr} {ob : Obj} (q : h.get? b = some ob) (n : H b = none) (hx : b ∉ ex) : ∃ sl, h1.get? b = some { ob with slots := sl } := by
  by_cases hb : b ∈ fs
  · exact u.slot b ob q n hb hx
  · exact ⟨ob.slots, u.keep b ob q n hb hx⟩
theorem Un.kept (k : ∀ b u, h.get? b = some u → h'.get? b = some u) : Un fs ex H H h h' :=
  ⟨fun b ob q _ _ _ => k b ob q, fun b ob q _ _ _ => ⟨ob.slots, k b ob q⟩, fun _ _ _ n _ => n, fun b ob q _ => ⟨ob, k b ob q⟩, fun _ _ q => q, fun _ _ _ q => q, fun _ ps q => ⟨#[], by rw [q]; simp⟩⟩
theorem Un.refl : Un fs ex H H h h := Un.kept fun _ _ q => q
theorem Un.laid (k : ∀ b u, h.get? b = some u → h'.get? b = some u) (hp : h.objs.size ≤ a) (hn : H a = none) : Un fs ex H (upd H a o) h h' where
  keep := fun b u q _ _ _ => k b u q
  slot := fun b u q _ _ _ => ⟨u.slots, k b u q⟩
  free := fun b u q n _ => by rw [upd_ne (Nat.ne_of_lt (Nat.lt_of_lt_of_le (Heap.lt_size q) hp))]; exact n
  there := fun b u q _ => ⟨u, k b u q⟩
  tups := fun b xs q => by rw [upd_ne (ne_of_none q hn)]; exact q
  frzs := fun b u xs q => by rw [upd_ne (ne_of_none q hn)]; exact q
  tbls := fun b ps q => ⟨#[], by rw [upd_ne (ne_of_none q hn), q]; simp⟩
theorem Un.write (mu : Mut (H x)) (he : e = x ∨ H e = some (.own x)) (k : ∀ b u, b ≠ e → h.get? b = some u → h'.get? b = some u) (heo : ∃ u, h'.get? e = some u) : Un fs ex H (upd H x o) h h' := by
  have hx : ∀ b, H b = none → b ≠ x := fun b n z => by subst z; rw [n] at mu; exact mu
  have hb : ∀ b, H b = none → b ≠ e := fun b n z => by
    subst z
    rcases he with r | r
    · exact hx b n r
    · rw [n] at r; cases r
  have hm : ∀ b u, H b = some u → ¬ Mut (some u) → b ≠ x := fun b u q nm z => by subst z; rw [q] at mu; exact nm mu
  refine ⟨fun b u q n _ _ => k b u (hb b n) q, fun b u q n _ _ => ⟨u.slots, k b u (hb b n) q⟩, fun b u q n _ => by rw [upd_ne (hx b n)]; exact n, fun b u q _ => ?_,
    fun b xs q => by rw [upd_ne (hm b _ q fun z => z)]; exact q, fun b u xs q => by rw [upd_ne (hm b _ q fun z => z)]; exact q, fun b ps q => ⟨#[], by rw [upd_ne (hm b _ q fun z => z), q]; simp⟩⟩
  by_cases hbe : b = e
  · subst hbe; exact heo
  · exact ⟨u, k b u hbe q⟩
end

def trk (h : Heap) (H : Hp) : List Addr := (List.range h.objs.size).filter fun a => (H a).isSome
def hidT (h : Heap) (H : Hp) : Heap := PySem.W.hideAll h (trk h H)
theorem hidT_size (h : Heap) (H : Hp) : (hidT h H).objs.size = h.objs.size := PySem.W.hideAll_size _ _
theorem hidT_get {h : Heap} {H : Hp} {b : Addr} {o : Obj} (e : h.get? b = some o) (n : H b = none) : (hidT h H).get? b = some o :=
  PySem.W.hideAll_get _ e fun hm => by
    have q : (H b).isSome = true := (List.mem_filter.mp hm).2
    rw [n] at q; simp at q
theorem of_hidT {h : Heap} {H : Hp} {b : Addr} {o : Obj} (e : (hidT h H).get? b = some o) : h.get? b = some o ∧ H b = none := by
  have e' : h.get? b = some o := PySem.W.of_hideAll (trk h H) e
  refine ⟨e', ?_⟩
  cases q : H b with
  | none => rfl
  | some x =>
    have hm : b ∈ trk h H := List.mem_filter.mpr ⟨List.mem_range.mpr (Heap.lt_size e'), by simp [q]⟩
    have z : (hidT h H).get? b = none := PySem.W.hideAll_none (trk h H) hm
    rw [z] at e; cases e

def allNews (g h : Heap) (L : Addr) : List (Addr × Obj) := (List.range h.objs.size).filterMap fun a => if a = L ∨ (g.get? a).isSome = true then none else (h.get? a).map fun o => (a, o)
def rest (g h : Heap) (L d : Addr) : List (Addr × Obj) := (allNews g h L).filter fun p => decide (p.1 ≠ d)
end L2

namespace L2
open PySem PySem.Spec PyProof.Rows

/-- the module's facts, over the base: the heap at the law's entry without what is tracked there -/
structure Mod (K : PySem.W.Frag) (mg : Str → Option Value) (base : Heap) : Prop where
  kin : K.In base
  glob : base.Ns mainGlobals mg
  blt : ∃ mb, base.Ns builtinsNs mb ∧ ∀ x : Str, x ≠ "__name__" → mb x = bootBuiltins x
  nolimit : base.NoLimit

/-- the context: a def's body (or a comprehension's block) running. base: fixed through the whole law; s₀, H₀: the entry; outer: the frames whose slots others may change (a def's callers); stack: all frames that run;
   ex: iterators that were made ahead of the entry and are walked here (a comprehension's); fn: the names whose cells were made at the entry (a def: all; a comprehension's block: its own); calm: not within an except suite; pn: pins that every state bears; xe: what is wanted of an exception that leaves the code -/
structure Cx where
  prog : Program
  w : World
  K : PySem.W.Frag
  mg : Str → Option Value
  base : Heap
  A : Around
  N : List Str
  s₀ : Shared
  H₀ : Hp
  env : Env
  outer : List Env
  stack : List Env
  ex : List Addr
  fn : Str → Bool
  calm : Bool
  pn : List (Addr × Obj)
  xe : Value → Shared → Prop
/-- the callers' frames -/
def frs (l : List Env) : List Addr := l.filterMap (·.frame)
abbrev Cx.fs (X : Cx) : List Addr := frs X.outer

def Vis (sc : Scope) (x : Str) : Prop := sc.names.lookup x = some .local ∨ sc.names.lookup x = some .cell ∨ sc.names.lookup x = some .free
def Loc (sc : Scope) (x : Str) : Prop := sc.names.lookup x = some .local ∨ sc.names.lookup x = some .cell
def Look (env : Env) (h : Heap) (m : Str → Option Value) (x : Str) (u : Value) : Prop :=
  (env.kindOf x = some .local ∧ m x = some u) ∨ ((env.kindOf x = some .cell ∨ env.kindOf x = some .free) ∧ ∃ c, env.cells.lookup x = some c ∧ h.IsCell c (some u))

structure Cx.Ok (X : Cx) : Prop where
  mod : Mod X.K X.mg X.base
  kind : X.env.scope.kind = .function
  glob : X.env.globals = mainGlobals
  blt : X.env.builtins = builtinsNs
  above : X.s₀.heap.objs.size ≤ X.env.locals
  inj : ∀ x y c, X.env.cells.lookup x = some c → X.env.cells.lookup y = some c → x = y
  has : ∀ x, (X.env.kindOf x = some .cell ∨ X.env.kindOf x = some .free) → ∃ c, X.env.cells.lookup x = some c
  cab : ∀ x c, X.fn x = true → X.env.cells.lookup x = some c → X.s₀.heap.objs.size ≤ c
  hd : X.calm = true → X.A.handled = none
  frames : X.A.frames = some X.stack
  stk : X.stack = X.outer ∨ (X.stack = X.env :: X.outer ∧ X.env.frame = some X.env.locals)
  exf : ∀ b ∈ X.ex, b ≠ X.env.locals ∧ ∀ x c, X.env.cells.lookup x = some c → c ≠ b
  bs : ∀ b o, X.base.get? b = some o → X.s₀.heap.get? b = some o ∧ X.H₀ b = none
  bsz : X.base.objs.size ≤ X.s₀.heap.objs.size
  noex : ∀ b o, X.base.get? b = some o → b ∉ X.ex
  exfs : ∀ b ∈ X.ex, b ∉ X.fs
  funs : X.s₀.heap.FunFrames X.base X.outer
  frf : ∀ b ∈ X.fs, X.H₀ b = none

structure Inv (X : Cx) (pins : List (Addr × Obj)) (σ : List (Option V)) (H : Hp) (s : Shared) : Prop where
  ok : X.Ok
  os : s.os = X.s₀.os
  bare : AllBare s.gens
  base : Un X.fs X.ex X.H₀ H X.s₀.heap s.heap
  loc : ∃ m, s.heap.Ns X.env.locals m ∧ ∀ (i : Nat) (x : Str) (v : V), X.N[i]? = some x → σ[i]? = some (some v) → Vis X.env.scope x → ∃ u, RelV v u ∧ Look X.env s.heap m x u
  cell : ∀ x c, X.env.cells.lookup x = some c → ∃ v, s.heap.IsCell c v
  free : H X.env.locals = none
  freeC : ∀ x c, X.env.cells.lookup x = some c → H c = none
  pin : ∀ p ∈ X.pn ++ pins, s.heap.get? p.1 = some p.2 ∧ H p.1 = none ∧ p.1 ≠ X.env.locals ∧ p.1 ∉ X.fs ∧ ∀ v, p.2.data ≠ .cell v
  hok : HOk X.prog X.w H s.heap
  len : σ.length = X.N.length

section
variable {X : Cx} {pins : List (Addr × Obj)} {σ : List (Option V)} {H H' : Hp} {s : Shared} {h' : Heap}

theorem Cx.Ok.nofr (ok : X.Ok) {b : Addr} {o : Obj} (e : X.base.get? b = some o) : b ∉ X.fs := fun hb => by
  have := (ok.funs.mem hb).1
  rw [e] at this; cases this
theorem Inv.bs (I : Inv X pins σ H s) : ∀ b o, X.base.get? b = some o → s.heap.get? b = some o ∧ H b = none := fun b o e =>
  ⟨I.base.keep b o (I.ok.bs b o e).1 (I.ok.bs b o e).2 (I.ok.nofr e) (I.ok.noex b o e), I.base.free b o (I.ok.bs b o e).1 (I.ok.bs b o e).2 (I.ok.noex b o e)⟩
theorem Inv.bk (I : Inv X pins σ H s) : ∀ b o, X.base.get? b = some o → s.heap.get? b = some o := fun b o e => (I.bs b o e).1
theorem Inv.mod (I : Inv X pins σ H s) : Mod X.K X.mg X.base := I.ok.mod
theorem Inv.kIn (I : Inv X pins σ H s) : X.K.In s.heap := I.ok.mod.kin.keeps I.bk
/-- the frame over the base: for OpenK's rules (K.In X.base is I.mod.kin) -/
theorem Inv.fr (I : Inv X pins σ H s) : ∃ m, Fr X.base X.env.locals s.heap m :=
  let ⟨m, hn, _⟩ := I.loc
  ⟨m, hn, I.bk, Nat.le_trans I.ok.bsz I.ok.above⟩
theorem Inv.lt (I : Inv X pins σ H s) : X.env.locals < s.heap.objs.size := let ⟨_, hn, _⟩ := I.loc; hn.lt
theorem Inv.sz (I : Inv X pins σ H s) : X.s₀.heap.objs.size ≤ s.heap.objs.size := Nat.le_trans I.ok.above (Nat.le_of_lt I.lt)
theorem Inv.nofs (I : Inv X pins σ H s) {a : Addr} (h : s.heap.objs.size ≤ a) : a ∉ X.fs := fun hb => by
  obtain ⟨_, o, ho, _⟩ := I.ok.funs.mem hb
  exact absurd (Nat.lt_of_lt_of_le (Heap.lt_size ho) (Nat.le_trans I.sz h)) (Nat.lt_irrefl _)
theorem Inv.cne (I : Inv X pins σ H s) : ∀ x c, X.env.cells.lookup x = some c → c ≠ X.env.locals := fun x c e z => by
  obtain ⟨v, o, ho, hd⟩ := I.cell x c e
  obtain ⟨m, ⟨o', es, ep, ho', hd', _⟩, _⟩ := I.loc
  rw [z, ho'] at ho; cases ho; rw [hd'] at hd; cases hd
theorem Inv.funs (I : Inv X pins σ H s) : s.heap.FunFrames X.base X.outer := by
  have all : ∀ (l : List Env), (∀ b ∈ frs l, b ∈ X.fs) → X.s₀.heap.FunFrames X.base l → s.heap.FunFrames X.base l := by
    intro l
    induction l with
    | nil => intro _ _; trivial
    | cons env r ih =>
      intro hs hl
      obtain ⟨hk, ⟨L, o, hf, hn, ho, hd⟩, hr⟩ := hl
      have hL : L ∈ X.fs := hs L (by unfold frs; rw [List.filterMap_cons, hf]; exact List.mem_cons_self)
      obtain ⟨sl, e⟩ := I.base.slot L o ho (I.ok.frf L hL) hL fun z => I.ok.exfs L z hL
      exact ⟨hk, ⟨L, _, hf, hn, e, hd⟩, ih (fun b hb => hs b (by unfold frs; rw [List.filterMap_cons, hf]; exact List.mem_cons_of_mem _ hb)) hr⟩
  exact all X.outer (fun _ hb => hb) I.ok.funs

/-- the frames that run, for a call -/
theorem Inv.stack (I : Inv X pins σ H s) : s.heap.FunFrames X.base X.stack := by
  rcases I.ok.stk with e | ⟨e, hf⟩
  · rw [e]; exact I.funs
  · rw [e]
    obtain ⟨m, hn, _⟩ := I.loc
    refine .cons (by rw [I.ok.kind]; decide) hf hn ?_ I.funs
    exact Heap.get?_none_of_le (Nat.le_trans I.ok.bsz I.ok.above)
theorem Inv.stkSub (I : Inv X pins σ H s) : ∀ b ∈ frs X.stack, b ∈ X.env.locals :: X.fs := fun b hb => by
  rcases I.ok.stk with e | ⟨e, hf⟩
  · rw [e] at hb; exact List.mem_cons_of_mem _ hb
  · rw [e] at hb
    unfold frs at hb
    rw [List.filterMap_cons, hf] at hb
    exact hb
theorem Inv.stkFree (I : Inv X pins σ H s) : ∀ b ∈ frs X.stack, H b = none := fun b hb => by
  rcases List.mem_cons.mp (I.stkSub b hb) with e | hb
  · rw [e]; exact I.free
  · obtain ⟨_, o, ho, _⟩ := I.ok.funs.mem hb
    exact I.base.free b o ho (I.ok.frf b hb) fun z => I.ok.exfs b z hb

/-- THE STEP: the untracked objects but the frame and the records at ch are kept (the callers' frames up to slots), the frame's map is kept, the new abstract heap is held -/
theorem Inv.step {g' : Array GenState} {t' : Nat} {d' : Drawn} {ch : List Addr} (I : Inv X pins σ H s)
    (hch : ∀ b ∈ ch, (b ∈ X.ex ∨ X.s₀.heap.objs.size ≤ b) ∧ b ≠ X.env.locals ∧ (∀ x c, X.env.cells.lookup x = some c → c ≠ b) ∧ ∀ p ∈ X.pn ++ pins, p.1 ≠ b)
    (keep : ∀ b o, b ≠ X.env.locals → b ∉ X.fs → b ∉ ch → s.heap.get? b = some o → H b = none → h'.get? b = some o)
    (slot : ∀ b o, b ≠ X.env.locals → b ∈ X.fs → b ∉ ch → s.heap.get? b = some o → H b = none → ∃ sl, h'.get? b = some { o with slots := sl }) (free : ∀ b o, b ∉ ch → s.heap.get? b = some o → H b = none → H' b = none)
    (there : ∀ b o, b ∉ ch → s.heap.get? b = some o → ∃ o', h'.get? b = some o')
    (tups : ∀ b xs, H b = some (.tup xs) → H' b = some (.tup xs)) (frzs : ∀ b o u, H b = some (.frz o u) → H' b = some (.frz o u)) (tbls : ∀ b ps, H b = some (.tbl ps) → ∃ more, H' b = some (.tbl (ps ++ more)))
    (ns : ∀ m, s.heap.Ns X.env.locals m → h'.Ns X.env.locals m) (hok : HOk X.prog X.w H' h') (hg : AllBare g') :
    Inv X pins σ H' { s with heap := h', gens := g', drawn := d', toks := t' } := by
  have neL : ∀ b o, X.s₀.heap.get? b = some o → b ≠ X.env.locals := fun b o e => Nat.ne_of_lt (Nat.lt_of_lt_of_le (Heap.lt_size e) I.ok.above)
  have neC : ∀ b o, X.s₀.heap.get? b = some o → b ∉ X.ex → b ∉ ch := fun b o e hx hb => by
    rcases (hch b hb).1 with z | z
    · exact hx z
    · exact absurd (Nat.lt_of_lt_of_le (Heap.lt_size e) z) (Nat.lt_irrefl _)
  have cellK : ∀ x c, X.env.cells.lookup x = some c → ∀ v, s.heap.IsCell c v → h'.IsCell c v := fun x c e v ⟨o, ho, hd⟩ => by
    have nch : c ∉ ch := fun z => (hch c z).2.2.1 x c e rfl
    by_cases hc : c ∈ X.fs
    · obtain ⟨sl, q⟩ := slot c o (I.cne x c e) hc nch ho (I.freeC x c e)
      exact ⟨_, q, hd⟩
    · exact ⟨o, keep c o (I.cne x c e) hc nch ho (I.freeC x c e), hd⟩
  refine ⟨I.ok, I.os, hg, ⟨fun b o e n hb hx => ?_, fun b o e n hb hx => ?_, fun b o e n hx => ?_, fun b o e hx => ?_, fun b xs e => tups b xs (I.base.tups b xs e), fun b o xs e => frzs b o xs (I.base.frzs b o xs e), fun b ps e => ?_⟩, ?_, fun x c e => ?_, ?_, fun x c e => ?_, fun p hp => ?_, hok, I.len⟩
  · exact keep b o (neL b o e) hb (neC b o e hx) (I.base.keep b o e n hb hx) (I.base.free b o e n hx)
  · obtain ⟨sl, e1⟩ := I.base.slot b o e n hb hx
    obtain ⟨sl', e2⟩ := slot b _ (neL b o e) hb (neC b o e hx) e1 (I.base.free b o e n hx)
    exact ⟨sl', e2⟩
  · obtain ⟨o', e1⟩ := I.base.there b o e hx
    exact free b o' (neC b o e hx) e1 (I.base.free b o e n hx)
  · obtain ⟨o', e1⟩ := I.base.there b o e hx
    exact there b o' (neC b o e hx) e1
  · obtain ⟨m1, e1⟩ := I.base.tbls b ps e
    obtain ⟨m2, e2⟩ := tbls b _ e1
    exact ⟨m1 ++ m2, by rw [e2, Array.append_assoc]⟩
  · obtain ⟨m, hn, hl⟩ := I.loc
    refine ⟨m, ns m hn, fun i x v e1 e2 e3 => ?_⟩
    obtain ⟨u, r, l⟩ := hl i x v e1 e2 e3
    refine ⟨u, r, ?_⟩
    rcases l with l | ⟨k, c, e, z⟩
    · exact .inl l
    · exact .inr ⟨k, c, e, cellK x c e _ z⟩
  · obtain ⟨v, z⟩ := I.cell x c e
    exact ⟨v, cellK x c e v z⟩
  · obtain ⟨m, ⟨o, _, _, ho, _⟩, _⟩ := I.loc
    exact free _ o (fun z => (hch _ z).2.1 rfl) ho I.free
  · obtain ⟨v, o, ho, hd⟩ := I.cell x c e
    exact free c o (fun z => (hch c z).2.2.1 x c e rfl) ho (I.freeC x c e)
  · obtain ⟨e, n, ne, nf, d⟩ := I.pin p hp
    have nch : p.1 ∉ ch := fun z => (hch p.1 z).2.2.2 p hp rfl
    exact ⟨keep p.1 p.2 ne nf nch e n, free p.1 p.2 nch e n, ne, nf, d⟩
/-- .. where the frame's own object is kept too -/
theorem Inv.un {t' : Nat} (I : Inv X pins σ H s) (u : Un X.fs [] H H' s.heap h') (hok : HOk X.prog X.w H' h') : Inv X pins σ H' { s with heap := h', toks := t' } := by
  obtain ⟨m, ⟨o, es, ep, ho, r⟩, _⟩ := id I.loc
  obtain ⟨sl, hL⟩ := u.any ho I.free (by simp)
  exact I.step (g' := s.gens) (d' := s.drawn) (ch := []) (fun _ z => nomatch z) (fun b o _ hb _ e n => u.keep b o e n hb (by simp)) (fun b o _ hb _ e n => u.slot b o e n hb (by simp)) (fun b o _ e n => u.free b o e n (by simp)) (fun b o _ e => u.there b o e (by simp)) u.tups u.frzs u.tbls (fun m' hm => by
    obtain ⟨o', es', ep', ho', r'⟩ := hm
    rw [ho] at ho'; cases ho'
    exact ⟨_, es', ep', hL, r'⟩) hok I.bare
/-- behind a call (or a comprehension's block): the slots of this frame may have changed too, the records at ch may have turned -/
theorem Inv.call {g' : Array GenState} {t' : Nat} {d' : Drawn} {ch : List Addr} (I : Inv X pins σ H s) (u : Un (frs X.stack) ch H H' s.heap h') (hok : HOk X.prog X.w H' h') (hg : AllBare g')
    (hch : ∀ b ∈ ch, (b ∈ X.ex ∨ X.s₀.heap.objs.size ≤ b) ∧ b ≠ X.env.locals ∧ (∀ x c, X.env.cells.lookup x = some c → c ≠ b) ∧ ∀ p ∈ X.pn ++ pins, p.1 ≠ b) :
    Inv X pins σ H' { s with heap := h', gens := g', drawn := d', toks := t' } := by
  obtain ⟨m, ⟨o, es, ep, ho, r⟩, _⟩ := id I.loc
  obtain ⟨sl, hL⟩ := u.any ho I.free fun z => (hch _ z).2.1 rfl
  exact I.step (ch := ch) hch (fun b o hL hb hc e n => u.keep b o e n (fun z => (List.mem_cons.mp (I.stkSub b z)).elim hL hb) hc) (fun b o _ _ hc e n => u.any e n hc) (fun b o hc e n => u.free b o e n hc) (fun b o hc e => u.there b o e hc) u.tups u.frzs u.tbls (fun m' hm => by
    obtain ⟨o', es', ep', ho', r'⟩ := hm
    rw [ho] at ho'; cases ho'
    exact ⟨_, es', ep', hL, r'⟩) hok hg
/-- an untracked record of ours (an iterator) has turned -/
theorem Inv.turned {t' : Nat} {it : Addr} (I : Inv X pins σ H s) (k : ∀ b o, b ≠ it → s.heap.get? b = some o → h'.get? b = some o) (hn : H it = none) (hL : it ≠ X.env.locals)
    (h1 : it ∈ X.ex ∨ X.s₀.heap.objs.size ≤ it) (h2 : ∀ x c, X.env.cells.lookup x = some c → c ≠ it) (h3 : ∀ p ∈ X.pn ++ pins, p.1 ≠ it) : Inv X pins σ H { s with heap := h', toks := t' } := by
  have nit : ∀ b u, H b = some u → b ≠ it := fun b u e z => by rw [z, hn] at e; cases e
  refine I.step (g' := s.gens) (d' := s.drawn) (ch := [it]) (fun b hb => ?_) (fun b o _ _ hc e _ => k b o (fun z => hc (by simp [z])) e) (fun b o _ _ hc e _ => ⟨o.slots, k b o (fun z => hc (by simp [z])) e⟩) (fun _ _ _ _ n => n)
    (fun b o hc e => ⟨o, k b o (fun z => hc (by simp [z])) e⟩) (fun _ _ e => e) (fun _ _ _ e => e) (fun b ps e => ⟨#[], by rw [e]; simp⟩) (fun m hm => ?_) (fun b u e => ?_) I.bare
  · have e : b = it := by simpa using hb
    subst e
    exact ⟨h1, hL, h2, h3⟩
  · obtain ⟨o, es, ep, ho, r⟩ := hm
    exact ⟨o, es, ep, k _ o (Ne.symm hL) ho, r⟩
  · refine (I.hok b u e).stay (fun c v hc q => k c v ?_ q) (fun _ q => q) fun _ _ q => q
    rcases hc with z | z
    · rw [z]; exact nit b u e
    · exact nit c _ z
theorem Inv.tok (I : Inv X pins σ H s) (t : Nat) : Inv X pins σ H { s with toks := t } := I.un (h' := s.heap) (t' := t) Un.refl I.hok
/-- all objects kept -/
theorem Inv.kept {t' : Nat} (I : Inv X pins σ H s) (k : ∀ b u, s.heap.get? b = some u → h'.get? b = some u) : Inv X pins σ H { s with heap := h', toks := t' } := I.un (Un.kept k) (I.hok.kept k)
/-- a new object laid and tracked -/
theorem Inv.laid {a : Addr} {o : HO} {t' : Nat} (I : Inv X pins σ H s) (k : ∀ b u, s.heap.get? b = some u → h'.get? b = some u) (hp : s.heap.objs.size ≤ a) (new : ObjOk X.prog X.w (upd H a o) h' a o) :
    Inv X pins σ (upd H a o) { s with heap := h', toks := t' } := I.un (Un.laid k hp (I.hok.fresh hp)) (I.hok.laid k hp new)
/-- an object written -/
theorem Inv.write {x e : Addr} {o : HO} {t' : Nat} (I : Inv X pins σ H s) (mu : Mut (H x)) (he : e = x ∨ H e = some (.own x)) (k : ∀ b u, b ≠ e → s.heap.get? b = some u → h'.get? b = some u) (heo : ∃ u, h'.get? e = some u)
    (new : ObjOk X.prog X.w (upd H x o) h' x o) : Inv X pins σ (upd H x o) { s with heap := h', toks := t' } := I.un (Un.write mu he k heo) (I.hok.write mu he k heo new)
/-- forgetting slots, pins -/
theorem Inv.weak {σ' : List (Option V)} (I : Inv X pins σ H s) (hl : σ'.length = σ.length) (w : ∀ (i : Nat) v, σ'[i]? = some (some v) → σ[i]? = some (some v)) : Inv X pins σ' H s :=
  ⟨I.ok, I.os, I.bare, I.base, let ⟨m, hn, hl'⟩ := I.loc; ⟨m, hn, fun i x v e1 e2 e3 => hl' i x v e1 (w i v e2) e3⟩, I.cell, I.free, I.freeC, I.pin, I.hok, hl.trans I.len⟩
theorem Inv.pins_of {pins' : List (Addr × Obj)} (I : Inv X pins σ H s) (h : ∀ p ∈ pins', s.heap.get? p.1 = some p.2 ∧ H p.1 = none ∧ p.1 ≠ X.env.locals ∧ p.1 ∉ X.fs ∧ ∀ v, p.2.data ≠ .cell v) : Inv X pins' σ H s :=
  ⟨I.ok, I.os, I.bare, I.base, I.loc, I.cell, I.free, I.freeC, fun p hp => (List.mem_append.mp hp).elim (fun z => I.pin p (List.mem_append_left _ z)) (h p), I.hok, I.len⟩

theorem nodup_ix {N : List Str} (hN : N.Nodup) {i j : Nat} {x : Str} (a : N[i]? = some x) (b : N[j]? = some x) : i = j := by
  obtain ⟨h1, e1⟩ := List.getElem?_eq_some_iff.mp a
  obtain ⟨h2, e2⟩ := List.getElem?_eq_some_iff.mp b
  exact (List.getElem_inj hN).mp (e1.trans e2.symm)

/-- a name is stored; what changed -/
theorem store_ok2 {M : Model} {A : Around} {E : Value → Shared → Prop} {i : Nat} {x : Str} {v : V} {u : Value} {Q : Unit → Shared → Prop} (I : Inv X pins σ H s) (hN : X.N.Nodup) (hi : X.N[i]? = some x) (hx : Loc X.env.scope x) (r : RelV v u)
    (h : ∀ s', Inv X pins (σ.set i (some v)) H s' → (∃ a, Heap.SameBut a s.heap s'.heap ∧ (a = X.env.locals ∨ X.env.cells.lookup x = some a)) → Q () s') (hf : X.fn x = true ∨ X.env.scope.names.lookup x = some .local := by first | exact .inl rfl | exact .inr rfl | assumption) : wpAny M A (storeName X.env x u) Q E s := by
  obtain ⟨m, hn, hl⟩ := id I.loc
  have hcls : (X.env.scope.kind == .class || (X.env.scope.kind == .module && X.env.locals != X.env.globals)) = false := by rw [I.ok.kind]; rfl
  have hiσ : i < σ.length := by rw [I.len]; exact (List.getElem?_eq_some_iff.mp hi).1
  have cne := I.cne
  have tracked : ∀ {a : Addr} {h' : Heap}, (∃ o, s.heap.get? a = some o ∧ H a = none) → Heap.SameBut a s.heap h' → HOk X.prog X.w H h' := fun {a h'} ha hs b ob e => by
    obtain ⟨_, _, hfree⟩ := ha
    refine (I.hok b ob e).stay (fun c w' hc q => (hs.2 c ?_).trans q) (fun _ q => q) fun _ _ q => q
    rintro rfl
    rcases hc with rfl | hc
    · rw [hfree] at e; cases e
    · rw [hfree] at hc; cases hc
  rcases hx with hk | hk
  · refine wpAny_storeName_local hk hn (fun h' hn' hs => ?_) hcls
    obtain ⟨oL, _, _, hoL, _⟩ := id hn
    refine h _ ⟨I.ok, I.os, I.bare, ⟨fun b o e n hb hx => ?_, fun b o e n hb hx => ?_, I.base.free, fun b o e hx => ?_, I.base.tups, I.base.frzs, I.base.tbls⟩, ⟨_, hn', fun j y v' e1 e2 e3 => ?_⟩, fun y c e => ?_, I.free, I.freeC, fun p hp => ?_, tracked ⟨oL, hoL, I.free⟩ hs, by simpa using I.len⟩ ⟨_, hs, .inl rfl⟩
    · exact (hs.2 b (Nat.ne_of_lt (Nat.lt_of_lt_of_le (Heap.lt_size e) I.ok.above))).trans (I.base.keep b o e n hb hx)
    · obtain ⟨sl, e1⟩ := I.base.slot b o e n hb hx
      exact ⟨sl, (hs.2 b (Nat.ne_of_lt (Nat.lt_of_lt_of_le (Heap.lt_size e) I.ok.above))).trans e1⟩
    · obtain ⟨o', e1⟩ := I.base.there b o e hx
      exact ⟨o', (hs.2 b (Nat.ne_of_lt (Nat.lt_of_lt_of_le (Heap.lt_size e) I.ok.above))).trans e1⟩
    · by_cases hj : j = i
      · subst hj
        rw [hi] at e1; cases e1
        rw [List.getElem?_set_self hiσ] at e2
        cases e2
        exact ⟨u, r, .inl ⟨hk, by simp⟩⟩
      · rw [List.getElem?_set_ne (Ne.symm hj)] at e2
        obtain ⟨u', r', q⟩ := hl j y v' e1 e2 e3
        refine ⟨u', r', ?_⟩
        rcases q with ⟨k, e⟩ | ⟨k, c, e, z⟩
        · refine .inl ⟨k, ?_⟩
          have : y ≠ x := fun e => hj (nodup_ix hN e1 (e ▸ hi))
          simp [this, e]
        · exact .inr ⟨k, c, e, z.sameBut hs (cne y c e)⟩
    · obtain ⟨w', z⟩ := I.cell y c e
      exact ⟨w', z.sameBut hs (cne y c e)⟩
    · obtain ⟨e, n, ne, nf, d⟩ := I.pin p hp
      exact ⟨(hs.2 p.1 ne).trans e, n, ne, nf, d⟩
  · have hfn : X.fn x = true := by
      rcases hf with z | z
      · exact z
      · rw [z] at hk; cases hk
    obtain ⟨c, hc⟩ := I.ok.has x (.inl hk)
    obtain ⟨w', z⟩ := I.cell x c hc
    refine wpAny_storeName_cell I.ok.kind hk hc z (fun h' hc' hs => ?_)
    obtain ⟨oc, hoc, hocd⟩ := id z
    refine h { s with heap := h' } ⟨I.ok, I.os, I.bare, ⟨fun b o e n hb hx => ?_, fun b o e n hb hx => ?_, I.base.free, fun b o e hx => ?_, I.base.tups, I.base.frzs, I.base.tbls⟩, ⟨m, hn.sameBut hs (Ne.symm (cne x c hc)), fun j y v' e1 e2 e3 => ?_⟩, fun y c' e => ?_, I.free, I.freeC, fun p hp => ?_, tracked ⟨oc, hoc, I.freeC x c hc⟩ hs, by simpa using I.len⟩ ⟨c, hs, .inr hc⟩
    · exact (hs.2 b (Nat.ne_of_lt (Nat.lt_of_lt_of_le (Heap.lt_size e) (I.ok.cab x c hfn hc)))).trans (I.base.keep b o e n hb hx)
    · obtain ⟨sl, e1⟩ := I.base.slot b o e n hb hx
      exact ⟨sl, (hs.2 b (Nat.ne_of_lt (Nat.lt_of_lt_of_le (Heap.lt_size e) (I.ok.cab x c hfn hc)))).trans e1⟩
    · obtain ⟨o', e1⟩ := I.base.there b o e hx
      exact ⟨o', (hs.2 b (Nat.ne_of_lt (Nat.lt_of_lt_of_le (Heap.lt_size e) (I.ok.cab x c hfn hc)))).trans e1⟩
    · by_cases hj : j = i
      · subst hj
        rw [hi] at e1; cases e1
        rw [List.getElem?_set_self hiσ] at e2
        cases e2
        exact ⟨u, r, .inr ⟨.inl hk, c, hc, hc'⟩⟩
      · rw [List.getElem?_set_ne (Ne.symm hj)] at e2
        obtain ⟨u', r', q⟩ := hl j y v' e1 e2 e3
        refine ⟨u', r', ?_⟩
        rcases q with q | ⟨k, c', e, z'⟩
        · exact .inl q
        · refine .inr ⟨k, c', e, z'.sameBut hs ?_⟩
          rintro rfl
          exact hj (nodup_ix hN e1 (I.ok.inj _ _ _ e hc ▸ hi))
    · by_cases hcc : c' = c
      · subst hcc; exact ⟨_, hc'⟩
      · obtain ⟨w2, z2⟩ := I.cell y c' e
        exact ⟨w2, z2.sameBut hs hcc⟩
    · obtain ⟨e, n, ne, nf, d⟩ := I.pin p hp
      refine ⟨(hs.2 p.1 ?_).trans e, n, ne, nf, d⟩
      intro q
      rw [q, hoc] at e
      have q' : oc = p.2 := Option.some.inj e
      exact d w' (by rw [← q']; exact hocd)
theorem store_ok {M : Model} {A : Around} {E : Value → Shared → Prop} {i : Nat} {x : Str} {v : V} {u : Value} {Q : Unit → Shared → Prop} (I : Inv X pins σ H s) (hN : X.N.Nodup) (hi : X.N[i]? = some x) (hx : Loc X.env.scope x) (r : RelV v u)
    (h : ∀ s', Inv X pins (σ.set i (some v)) H s' → Q () s') (hf : X.fn x = true ∨ X.env.scope.names.lookup x = some .local := by first | exact .inl rfl | exact .inr rfl | assumption) : wpAny M A (storeName X.env x u) Q E s :=
  store_ok2 I hN hi hx r (fun s' I' _ => h s' I') hf
/-- behind a call or a block, the state as it is -/
theorem Inv.call' {s' : Shared} {ch : List Addr} (I : Inv X pins σ H s) (ho : s'.os = s.os) (u : Un (frs X.stack) ch H H' s.heap s'.heap) (hok : HOk X.prog X.w H' s'.heap) (hg : AllBare s'.gens)
    (hch : ∀ b ∈ ch, (b ∈ X.ex ∨ X.s₀.heap.objs.size ≤ b) ∧ b ≠ X.env.locals ∧ (∀ x c, X.env.cells.lookup x = some c → c ≠ b) ∧ ∀ p ∈ X.pn ++ pins, p.1 ≠ b) : Inv X pins σ H' s' := by
  obtain ⟨h', g', d', t', o'⟩ := s'
  have e : o' = s.os := ho
  subst e
  exact I.call (g' := g') (t' := t') (d' := d') u hok hg hch
end

/-- an exception: its class, its own dict's address (where it has one), the abstract heap behind it -/
abbrev XK := Value → Option Addr → Hp → Prop
abbrev St := List (Option V)
abbrev VK := V → Hp → Prop
/-- an expression's reading; a test's; an argument list's -/
abbrev TE := St → Hp → VK → Prop
abbrev TT := St → Hp → (Bool → Hp → Prop) → Prop
abbrev TA := St → Hp → (List V → Hp → Prop) → Prop
/-- what is wanted behind a statement -/
structure Ends where
  nx : St → Hp → Prop
  rt : VK
  bk : St → Hp → Prop := fun _ _ => False
  ct : St → Hp → Prop := fun _ _ => False
abbrev TS := Ends → St → Hp → Prop

def EP (X : Cx) (pins : List (Addr × Obj)) (σ : St) (Q : VK) (u : Value) (s' : Shared) : Prop := ∃ v H', Inv X pins σ H' s' ∧ RelV v u ∧ Q v H'
def TP (X : Cx) (pins : List (Addr × Obj)) (σ : St) (Q : Bool → Hp → Prop) (b : Bool) (s' : Shared) : Prop := ∃ H', Inv X pins σ H' s' ∧ Q b H'
def AP (X : Cx) (pins : List (Addr × Obj)) (σ : St) (Q : List V → Hp → Prop) (us : List Value) (s' : Shared) : Prop := ∃ vs H', Inv X pins σ H' s' ∧ Vals vs us ∧ Q vs H'
def SP (X : Cx) (pins : List (Addr × Obj)) (D : Ends) (f : Flow) (s' : Shared) : Prop :=
  match f with
  | .next => ∃ σ' H', Inv X pins σ' H' s' ∧ D.nx σ' H'
  | .brk => ∃ σ' H', Inv X pins σ' H' s' ∧ D.bk σ' H'
  | .cont => ∃ σ' H', Inv X pins σ' H' s' ∧ D.ct σ' H'
  | .ret u => ∃ v σ' H', Inv X pins σ' H' s' ∧ RelV v u ∧ D.rt v H'

def PE (X : Cx) (e : Expr) (t : TE) : Prop :=
  ∀ (pins : List (Addr × Obj)) (s : Shared) (σ : St) (H : Hp) (Q : VK), Inv X pins σ H s → t σ H Q → wpAny (model X.prog X.w) X.A (eval e X.env) (EP X pins σ Q) X.xe s
def PT (X : Cx) (e : Expr) (t : TT) : Prop :=
  ∀ (pins : List (Addr × Obj)) (s : Shared) (σ : St) (H : Hp) (Q : Bool → Hp → Prop), Inv X pins σ H s → t σ H Q → wpAny (model X.prog X.w) X.A (isTrue e X.env (eval e X.env)) (TP X pins σ Q) X.xe s
/-- a test whatever its 'whole' is (and, or) -/
def PW (X : Cx) (e : Expr) (t : TT) : Prop :=
  ∀ (whole : Sem Value) (pins : List (Addr × Obj)) (s : Shared) (σ : St) (H : Hp) (Q : Bool → Hp → Prop), Inv X pins σ H s → t σ H Q → wpAny (model X.prog X.w) X.A (isTrue e X.env whole) (TP X pins σ Q) X.xe s
theorem PW.pt {X : Cx} {e : Expr} {t : TT} (h : PW X e t) : PT X e t := h _
/-- an argument list (no star), from the left -/
def PA (X : Cx) (es : List Expr) (t : TA) : Prop :=
  ∀ (pos : Pos) (pins : List (Addr × Obj)) (s : Shared) (σ : St) (H : Hp) (Q : List V → Hp → Prop), Inv X pins σ H s → t σ H Q → wpAny (model X.prog X.w) X.A (spliced (backTo pos (starEach es X.env))) (AP X pins σ Q) X.xe s
def PS (X : Cx) (st : Stmt) (t : TS) : Prop :=
  ∀ (pins : List (Addr × Obj)) (s : Shared) (σ : St) (H : Hp) (D : Ends), Inv X pins σ H s → t D σ H → wpAny (model X.prog X.w) X.A (exec st X.env) (SP X pins D) X.xe s
def PSs (X : Cx) (st : List Stmt) (t : TS) : Prop :=
  ∀ (pins : List (Addr × Obj)) (s : Shared) (σ : St) (H : Hp) (D : Ends), Inv X pins σ H s → t D σ H → wpAny (model X.prog X.w) X.A (execs st X.env) (SP X pins D) X.xe s
/-- weaken the end -/
theorem thn {α : Type} {t : Sem α} {Q Q' : α → Shared → Prop} {M : Model} {A : Around} {E : Value → Shared → Prop} {s : Shared} (h : wpAny M A t Q E s) (hQ : ∀ a s, Q a s → Q' a s) : wpAny M A t Q' E s := wpAny_mono h hQ fun _ _ x => x
end L2

namespace L2
open PySem PySem.Spec PyProof.Rows
section
variable {X : Cx}

def tVar (i : Nat) : TE := fun σ H Q => ∃ v, σ[i]? = some (some v) ∧ Q v H
def tC (v : V) : TE := fun _ H Q => Q v H
theorem pe_var {i : Nat} {x : Str} {pos : Pos} (hN : X.N[i]? = some x) (hv : Vis X.env.scope x) (hd : (x == ("__debug__" : Str)) = false := by decide) (hcd : (x == ("__classdict__" : Str)) = false := by decide) : PE X (.Name x pos) (tVar i) := by
  intro pins s σ H Q I h
  obtain ⟨v, e, h⟩ := h
  obtain ⟨m, hn, hl⟩ := I.loc
  obtain ⟨u, r, l⟩ := hl i x v hN e hv
  have fin : EP X pins σ Q u s := ⟨v, H, I, r, h⟩
  rcases l with ⟨hk, hm⟩ | ⟨hk, c, hc, hcell⟩
  · exact wpAny_Name (wpAny_loadName_local I.ok.kind hk hn hm fin) hd
  · rcases hk with hk | hk
    · exact wpAny_Name (wpAny_loadName_cell I.ok.kind hk hc hcell fin) hd
    · exact wpAny_Name (wpAny_loadName_free I.ok.kind hk hc hcell fin hcd) hd
theorem pe_int {i j pos} : PE X (.Constant (.int i) j pos) (tC (.int i)) := fun _ _ _ H _ I h => wpAny_Constant_int ⟨.int i, H, I.tok _, ⟨_, rfl⟩, h⟩
theorem pe_bl {b j pos} : PE X (.Constant (.bool b) j pos) (tC (.bl b)) := fun _ _ _ H _ I h => Constant_bool ⟨.bl b, H, I, rfl, h⟩
theorem pe_non {j pos} : PE X (.Constant .none j pos) (tC .non) := fun _ _ _ H _ I h => Constant_none ⟨.non, H, I, rfl, h⟩
/-- a global name of the def -/
def Gl (X : Cx) (x : Str) : Prop := X.env.kindOf x = some .globalImplicit
theorem ld_glob {E : Value → Shared → Prop} {pins : List (Addr × Obj)} {s : Shared} {σ : St} {H : Hp} {x : Str} {u : Value} {pos : Pos} {Q : Value → Shared → Prop} (I : Inv X pins σ H s) (hg : Gl X x) (hm : X.mg x = some u) (h : Q u s)
    (hd : (x == ("__debug__" : Str)) = false := by decide) : wpAny (model X.prog X.w) X.A (eval (.Name x pos) X.env) Q E s :=
  Calls.Name_function_global I.ok.kind hg (Calls.loadGlobal_global (by rw [I.ok.glob]; exact I.mod.glob.keeps I.bk) hm h) hd
theorem ld_blt {E : Value → Shared → Prop} {pins : List (Addr × Obj)} {s : Shared} {σ : St} {H : Hp} {x : Str} {u : Value} {pos : Pos} {Q : Value → Shared → Prop} (I : Inv X pins σ H s) (hg : Gl X x) (hm : X.mg x = none) (hv : bootBuiltins x = some u) (h : Q u s)
    (hn : x ≠ "__name__" := by decide) (hd : (x == ("__debug__" : Str)) = false := by decide) : wpAny (model X.prog X.w) X.A (eval (.Name x pos) X.env) Q E s := by
  obtain ⟨mb, h1, h2⟩ := I.mod.blt
  exact Calls.Name_function_global I.ok.kind hg (Calls.loadGlobal_builtin (by rw [I.ok.glob]; exact I.mod.glob.keeps I.bk) hm (by rw [I.ok.blt]; exact h1.keeps I.bk) ((h2 x hn).trans hv) h) hd
/-- a module's constant, a class, a function, as a value -/
theorem pe_glob {x : Str} {v : V} {u : Value} {pos : Pos} (hg : Gl X x) (hm : X.mg x = some u) (r : RelV v u) (hd : (x == ("__debug__" : Str)) = false := by decide) : PE X (.Name x pos) (tC v) :=
  fun _ _ _ H _ I h => ld_glob I hg hm ⟨v, H, I, r, h⟩ hd
theorem pe_bltn {x : Str} {v : V} {u : Value} {pos : Pos} (hg : Gl X x) (hm : X.mg x = none) (hv : bootBuiltins x = some u) (r : RelV v u) (hn : x ≠ "__name__" := by decide) (hd : (x == ("__debug__" : Str)) = false := by decide) : PE X (.Name x pos) (tC v) :=
  fun _ _ _ H _ I h => ld_blt I hg hm hv ⟨v, H, I, r, h⟩ hn hd

variable {a b : Expr} {ta tb : TE} {pos : Pos}
def PC (X : Cx) (op : CmpOp) (a b : Expr) (t : TE) : Prop :=
  ∀ (pins : List (Addr × Obj)) (s : Shared) (σ : St) (H : Hp) (Q : VK), Inv X pins σ H s → t σ H Q →
    wpAny (model X.prog X.w) X.A (eval a X.env) (fun v s₁ => wpAny (model X.prog X.w) X.A (eval b X.env) (fun u s₂ => wpAny (model X.prog X.w) X.A (compareOp op v u) (EP X pins σ Q) X.xe s₂) X.xe s₁) X.xe s
theorem nobehind (b : Expr) {op : CmpOp} (h : op ≠ .In) (h2 : op ≠ .NotIn) : behindInMarks op b = false := by
  have e1 : (op == CmpOp.In) = false := by cases op <;> first | rfl | exact absurd rfl h
  have e2 : (op == CmpOp.NotIn) = false := by cases op <;> first | rfl | exact absurd rfl h2
  cases b <;> simp [behindInMarks, e1, e2]
/-- is None -/
def tIsN (ta : TE) : TE := fun σ H Q => ta σ H fun x H1 => Q (.bl (decide (x = .non))) H1
def tNotN (ta : TE) : TE := fun σ H Q => ta σ H fun x H1 => Q (.bl (!decide (x = .non))) H1
theorem RelV.none_iff {x : V} {v : Value} (r : RelV x v) : (v == Value.none) = decide (x = .non) := by
  cases x with
  | non => cases r; rfl
  | bl _ => cases r; rfl
  | int _ => obtain ⟨t, rfl⟩ := r; rfl
  | str _ => obtain ⟨t, rfl⟩ := r; rfl
  | byt _ => obtain ⟨t, rfl⟩ := r; rfl
  | flt _ => obtain ⟨t, rfl⟩ := r; rfl
  | ref _ => cases r; rfl
  | ty _ => cases r; rfl
theorem pc_isN {j pos'} (ha : PE X a ta) : PC X .Is a (.Constant .none j pos') (tIsN ta) := by
  intro pins s σ H Q I h
  refine thn (ha pins s σ H _ I h) fun v s1 ⟨x, H1, I1, r1, q1⟩ => ?_
  exact Constant_none (is_none_gen ⟨.bl _, H1, I1, by rw [r1.none_iff]; rfl, q1⟩)
/-- a comparison as a value, as a test -/
def tB (t : TE) : TT := fun σ H Q => t σ H fun x H1 => ∃ c, x = .bl c ∧ Q c H1
theorem pe_cmp {op : CmpOp} {t : TE} (h : PC X op a b t) (h1 : behindInMarks op b = false := by first | exact nobehind _ (by decide) (by decide) | rfl) : PE X (.Compare a [op] [b] pos) t := fun pins s σ H Q I hw => wpAny_Compare1 (h pins s σ H Q I hw) h1
theorem pt_cmp {op : CmpOp} {t : TE} (h : PC X op a b t) (h1 : behindInMarks op b = false := by first | exact nobehind _ (by decide) (by decide) | rfl) : PT X (.Compare a [op] [b] pos) (tB t) := by
  intro pins s σ H Q I hw
  refine wpAny_isTrue_Compare1 (thn (h pins s σ H _ I hw) fun v s1 h1 => thn h1 fun u s2 h2 => thn h2 fun c s3 ⟨x, H1, I1, r1, q1⟩ => ?_) h1
  obtain ⟨d, rfl, q⟩ := q1
  cases r1
  exact wpAny_truthy_bool ⟨H1, I1, q⟩
/-- an expression whose value is a bool, as a test -/
theorem pt_val {e : Expr} {t : TE} (h : PE X e t) (he : ∀ whole, isTrue e X.env whole = (do let v ← whole; standAt e.pos; holding [v] (truthy v)) := by intro _; rfl) : PT X e (tB t) := by
  intro pins s σ H Q I hw
  refine isTrue_plain (thn (h pins s σ H _ I hw) fun v s1 ⟨x, H1, I1, r1, q1⟩ => ?_) (he _)
  obtain ⟨d, rfl, q⟩ := q1
  cases r1
  exact wpAny_truthy_bool ⟨H1, I1, q⟩

variable {tA tB' : TT} {rest : List Expr}
def tAnd (t u : TT) : TT := fun σ H Q => t σ H fun c H1 => if c = true then u σ H1 Q else Q false H1
def tOr (t u : TT) : TT := fun σ H Q => t σ H fun c H1 => if c = true then Q true H1 else u σ H1 Q
def tNot (t : TT) : TT := fun σ H Q => t σ H fun c H1 => Q (!c) H1
theorem pw_and1 (ha : PT X a tA) : PW X (.BoolOp .And [a] pos) tA := by
  intro wh pins s σ H Q I h
  refine isTrue_and (thn (ha pins s σ H Q I h) fun c s1 e => ?_)
  cases c with
  | true => exact isTrue_and_nil e
  | false => exact e
theorem pw_or1 (ha : PT X a tA) : PW X (.BoolOp .Or [a] pos) tA := by
  intro wh pins s σ H Q I h
  refine isTrue_or (thn (ha pins s σ H Q I h) fun c s1 e => ?_)
  cases c with
  | false => exact isTrue_or_nil e
  | true => exact e
theorem pw_and (ha : PT X a tA) (hb : PW X (.BoolOp .And (b :: rest) pos) tB') : PW X (.BoolOp .And (a :: b :: rest) pos) (tAnd tA tB') := by
  intro wh pins s σ H Q I h
  refine isTrue_and (thn (ha pins s σ H _ I h) fun c s1 ⟨H1, I1, q1⟩ => ?_)
  cases c with
  | true => exact hb wh pins s1 σ H1 Q I1 q1
  | false => exact ⟨H1, I1, q1⟩
theorem pw_or (ha : PT X a tA) (hb : PW X (.BoolOp .Or (b :: rest) pos) tB') : PW X (.BoolOp .Or (a :: b :: rest) pos) (tOr tA tB') := by
  intro wh pins s σ H Q I h
  refine isTrue_or (thn (ha pins s σ H _ I h) fun c s1 ⟨H1, I1, q1⟩ => ?_)
  cases c with
  | true => exact ⟨H1, I1, q1⟩
  | false => exact hb wh pins s1 σ H1 Q I1 q1
theorem pt_not (ha : PT X a tA) : PT X (.UnaryOp .Not a pos) (tNot tA) := by
  intro pins s σ H Q I h
  exact isTrue_not (ha pins s σ H (fun c H1 => Q (!c) H1) I h)
/-- .. as values (bools) -/
def tAndV (ta tb : TE) : TE := fun σ H Q => ta σ H fun x H1 => ∃ c, x = .bl c ∧ if c = true then tb σ H1 Q else Q (.bl false) H1
def tOrV (ta tb : TE) : TE := fun σ H Q => ta σ H fun x H1 => ∃ c, x = .bl c ∧ if c = true then Q (.bl true) H1 else tb σ H1 Q
def tNotV (ta : TE) : TE := fun σ H Q => ta σ H fun x H1 => ∃ c, x = .bl c ∧ Q (.bl (!c)) H1
theorem pe_one {op} {t : TE} (h : PE X a t) : PE X (.BoolOp op [a] pos) t := fun pins s σ H Q I hw => BoolOp_one (h pins s σ H Q I hw)
theorem pe_and (ha : PE X a ta) (hb : PE X (.BoolOp .And (b :: rest) pos) tb) : PE X (.BoolOp .And (a :: b :: rest) pos) (tAndV ta tb) := by
  intro pins s σ H Q I h
  refine BoolOp_and (thn (ha pins s σ H _ I h) fun v s1 ⟨x, H1, I1, r1, q1⟩ => ?_)
  obtain ⟨c, rfl, q1⟩ := q1
  cases r1
  refine wpAny_truthy_bool ?_
  cases c with
  | true => exact hb pins s1 σ H1 Q I1 q1
  | false => exact ⟨.bl false, H1, I1, rfl, q1⟩
theorem pe_not (ha : PE X a ta) : PE X (.UnaryOp .Not a pos) (tNotV ta) := by
  intro pins s σ H Q I h
  refine UnaryOp_ (thn (ha pins s σ H _ I h) fun v s1 ⟨x, H1, I1, r1, q1⟩ => ?_)
  obtain ⟨c, rfl, q1⟩ := q1
  cases r1
  exact not_of (wpAny_truthy_bool ⟨.bl (!c), H1, I1, rfl, q1⟩)
/-- a if t else b -/
def tIf (t : TT) (ta tb : TE) : TE := fun σ H Q => t σ H fun c H1 => if c = true then ta σ H1 Q else tb σ H1 Q
end
end L2

namespace L2
open PySem PySem.Spec PyProof.Rows

def SqL (K : PySem.W.Frag) (H : Hp) (a : Addr) (xs : List V) : Prop :=
  Rd H a (.lst xs) ∨
    ∃ (o : Obj) (its : Array Value) (n : Nat), K.lookup a = some o ∧ o.cls = .type "list" ∧ o.dict = none ∧ o.data = .seq its n ∧ its.size ≤ sizeLine ∧ Vals xs its.toList
def SqT (K : PySem.W.Frag) (H : Hp) (a : Addr) (xs : List V) : Prop :=
  Rd H a (.tup xs) ∨
    ∃ (o : Obj) (its : Array Value) (n : Nat), K.lookup a = some o ∧ o.cls = .type "tuple" ∧ o.data = .seq its n ∧ its.size ≤ sizeLine ∧ Vals xs its.toList
def absV : Value → Option V
  | .none => some .non
  | .bool b => some (.bl b)
  | .int i _ => some (.int i)
  | .str x _ => some (.str x)
  | .bytes b _ => some (.byt b)
  | .float b _ => some (.flt b)
  | .ref a => some (.ref a)
  | .type n => some (.ty n)
  | _ => none
theorem RelV.abs {x : V} {u : Value} (r : RelV x u) : absV u = some x := by
  cases x with
  | non => cases r; rfl
  | bl _ => cases r; rfl
  | int _ => obtain ⟨t, rfl⟩ := r; rfl
  | str _ => obtain ⟨t, rfl⟩ := r; rfl
  | byt _ => obtain ⟨t, rfl⟩ := r; rfl
  | flt _ => obtain ⟨t, rfl⟩ := r; rfl
  | ref _ => cases r; rfl
  | ty _ => cases r; rfl
theorem RelV.inj {x y : V} {u : Value} (r : RelV x u) (q : RelV y u) : x = y := Option.some.inj (r.abs.symm.trans q.abs)
theorem Vals.inj : ∀ {xs ys : List V} {us : List Value}, Vals xs us → Vals ys us → xs = ys
  | _, _, _, .nil, .nil => rfl
  | _, _, _, .cons r t, .cons r' t' => by rw [r.inj r', Vals.inj t t']
section
variable {X : Cx} {pins : List (Addr × Obj)} {σ : St} {H : Hp} {s : Shared} {a : Addr} {xs ys : List V}
theorem SqL.of {K : PySem.W.Frag} (h : H a = some (.lst xs)) : SqL K H a xs := .inl (.inl h)
theorem SqT.of {K : PySem.W.Frag} (h : H a = some (.tup xs)) : SqT K H a xs := .inl (.inl h)
theorem Inv.list (I : Inv X pins σ H s) (h : SqL X.K H a xs) : ∃ its : List Value, Vals xs its ∧ PlainL s.heap a its.toArray ∧ xs.length ≤ sizeLine := by
  rcases h with h | ⟨o, its, n, hk, hc, hd, hs, hz, r⟩
  · obtain ⟨z, its, n, r, e⟩ := h.ok I.hok
    exact ⟨its, r, ⟨_, n, e, rfl, rfl, rfl⟩, z⟩
  · refine ⟨its.toList, r, ⟨o, n, I.kIn a o hk, hc, hd, by simpa using hs⟩, ?_⟩
    have e := r.length
    simp only [Array.length_toList] at e
    omega
theorem Inv.tuple (I : Inv X pins σ H s) (h : SqT X.K H a xs) : ∃ its : List Value, Vals xs its ∧ IsTup s.heap a its.toArray ∧ xs.length ≤ sizeLine := by
  rcases h with h | ⟨o, its, n, hk, hc, hs, hz, r⟩
  · obtain ⟨z, its, r, p⟩ := h.ok I.hok
    exact ⟨its, r, p, z⟩
  · refine ⟨its.toList, r, ⟨o, I.kIn a o hk, hc, n, by simpa using hs⟩, ?_⟩
    have e := r.length
    simp only [Array.length_toList] at e
    omega
theorem Inv.list_inj (I : Inv X pins σ H s) (h : SqL X.K H a xs) (h' : SqL X.K H a ys) : xs = ys := by
  obtain ⟨its, r, ⟨o, n, e, _, _, d⟩, _⟩ := I.list h
  obtain ⟨its', r', ⟨o', n', e', _, _, d'⟩, _⟩ := I.list h'
  rw [e] at e'; cases e'
  rw [d] at d'
  injection d' with d1 _
  have : its = its' := by simpa using congrArg Array.toList d1
  subst this
  exact r.inj r'
theorem Inv.tuple_inj (I : Inv X pins σ H s) (h : SqT X.K H a xs) (h' : SqT X.K H a ys) : xs = ys := by
  obtain ⟨its, r, ⟨o, e, _, n, d⟩, _⟩ := I.tuple h
  obtain ⟨its', r', ⟨o', e', _, n', d'⟩, _⟩ := I.tuple h'
  rw [e] at e'; cases e'
  rw [d] at d'
  injection d' with d1 _
  have : its = its' := by simpa using congrArg Array.toList d1
  subst this
  exact r.inj r'
end

abbrev Cx.wish (X : Cx) (E : Value → Shared → Prop) : Cx := { X with xe := E }
/-- no exception leaves -/
abbrev Cx.nox (X : Cx) : Cx := X.wish fun _ _ => False
theorem Cx.Ok.wish {X : Cx} (ok : X.Ok) (E : Value → Shared → Prop) : (X.wish E).Ok :=
  ⟨ok.mod, ok.kind, ok.glob, ok.blt, ok.above, ok.inj, ok.has, ok.cab, ok.hd, ok.frames, ok.stk, ok.exf, ok.bs, ok.bsz, ok.noex, ok.exfs, ok.funs, ok.frf⟩
theorem Cx.Ok.unwish {X : Cx} {E : Value → Shared → Prop} (ok : (X.wish E).Ok) : X.Ok :=
  ⟨ok.mod, ok.kind, ok.glob, ok.blt, ok.above, ok.inj, ok.has, ok.cab, ok.hd, ok.frames, ok.stk, ok.exf, ok.bs, ok.bsz, ok.noex, ok.exfs, ok.funs, ok.frf⟩
section
variable {X : Cx} {pins : List (Addr × Obj)} {σ : St} {H : Hp} {s : Shared} {E : Value → Shared → Prop}
theorem Inv.wish (I : Inv X pins σ H s) (E : Value → Shared → Prop) : Inv (X.wish E) pins σ H s := ⟨I.ok.wish E, I.os, I.bare, I.base, I.loc, I.cell, I.free, I.freeC, I.pin, I.hok, I.len⟩
theorem Inv.unwish (I : Inv (X.wish E) pins σ H s) : Inv X pins σ H s := ⟨I.ok.unwish, I.os, I.bare, I.base, I.loc, I.cell, I.free, I.freeC, I.pin, I.hok, I.len⟩
theorem SP.unwish {D : Ends} {f : Flow} {s' : Shared} (h : SP (X.wish E) pins D f s') : SP X pins D f s' := by
  cases f with
  | next => obtain ⟨σ', H', I, q⟩ := h; exact ⟨σ', H', I.unwish, q⟩
  | brk => obtain ⟨σ', H', I, q⟩ := h; exact ⟨σ', H', I.unwish, q⟩
  | cont => obtain ⟨σ', H', I, q⟩ := h; exact ⟨σ', H', I.unwish, q⟩
  | ret u => obtain ⟨v, σ', H', I, r, q⟩ := h; exact ⟨v, σ', H', I.unwish, r, q⟩
theorem PT.nox {e : Expr} {t : TT} (h : PT X.nox e t) : PT X e t := fun pins s σ H Q I hw =>
  wpAny_mono (h pins s σ H Q (I.wish _) hw) (fun _ _ ⟨H', I', q⟩ => ⟨H', I'.unwish, q⟩) fun _ _ z => False.elim z
theorem PSs.nox {st : List Stmt} {t : TS} (h : PSs X.nox st t) : PSs X st t := fun pins s σ H D I hw =>
  wpAny_mono (h pins s σ H D (I.wish _) hw) (fun _ _ q => q.unwish) fun _ _ z => False.elim z
end

section
variable {X : Cx} {st : Stmt} {rest : List Stmt} {t u : TS} {e : Expr} {te : TE} {pos : Pos}
def tNext : TS := fun D σ H => D.nx σ H
def tSeq (t u : TS) : TS := fun D σ H => t { D with nx := u D } σ H
theorem pss_nil : PSs X [] tNext := fun _ _ σ H _ I h => wpAny_execs_nil ⟨σ, H, I, h⟩
theorem pss_cons (h1 : PS X st t) (h2 : PSs X rest u) : PSs X (st :: rest) (tSeq t u) := by
  intro pins s σ H D I h
  refine wpAny_execs_cons (thn (h1 pins s σ H { D with nx := u D } I h) fun f s1 q => ?_)
  cases f with
  | next =>
    obtain ⟨σ', H', I', q⟩ := q
    exact h2 pins s1 σ' H' D I' q
  | ret v => exact q
  | brk => exact q
  | cont => exact q
theorem pss_one (h1 : PS X st t) : PSs X [st] t := by
  intro pins s σ H D I h
  refine wpAny_execs_cons (thn (h1 pins s σ H D I h) fun f s1 q => ?_)
  cases f with
  | next => exact wpAny_execs_nil q
  | ret v => exact q
  | brk => exact q
  | cont => exact q
/-- in a def's body nothing is shown -/
theorem Inv.quiet {pins : List (Addr × Obj)} {σ : St} {H : Hp} {s : Shared} (I : Inv X pins σ H s) : interactive X.env = false := by simp [interactive, I.ok.kind]
/-- an expression whose value is dropped -/
def tDrop (te : TE) : TS := fun D σ H => te σ H fun _ H1 => D.nx σ H1
theorem ps_expr (he : PE X e te) (hs : swapsWith e none pos.line X.env = pure false := by rfl) : PS X (.Expr e pos) (tDrop te) := by
  intro pins s σ H D I h
  exact wpAny_Expr_any (thn (he pins s σ H _ I h) fun v s1 ⟨x, H1, I1, r1, q1⟩ => ⟨σ, H1, I1, q1⟩) I.quiet hs
def tRet (te : TE) : TS := fun D σ H => te σ H D.rt
theorem ps_ret (he : PE X e te) : PS X (.Return (some e) pos) (tRet te) := by
  intro pins s σ H D I h
  exact wpAny_Return_some (thn (he pins s σ H _ I h) fun v s1 ⟨x, H1, I1, r1, q1⟩ => ⟨x, σ, H1, I1, r1, q1⟩)
def tRetN : TS := fun D _ H => D.rt .non H
def tIfS (c : TT) (t u : TS) : TS := fun D σ H => c σ H fun b H1 => if b = true then t D σ H1 else u D σ H1
theorem ps_if {c : Expr} {a b : List Stmt} {tc : TT} (hc : PT X c tc) (ha : PSs X a t) (hb : PSs X b u) : PS X (.If c a b pos) (tIfS tc t u) := by
  intro pins s σ H D I h
  refine wpAny_If (thn (hc pins s σ H _ I h) fun d s1 ⟨H1, I1, q1⟩ => ?_)
  cases d with
  | true => exact ha pins s1 σ H1 D I1 q1
  | false => exact hb pins s1 σ H1 D I1 q1
end

abbrev TG := V → St → Hp → (St → Hp → Prop) → Prop
abbrev TGs := List V → St → Hp → (St → Hp → Prop) → Prop
def PG (X : Cx) (target : Expr) (t : TG) : Prop :=
  ∀ (pins : List (Addr × Obj)) (s : Shared) (σ : St) (H : Hp) (v : V) (u : Value) (Q : St → Hp → Prop), Inv X pins σ H s → RelV v u → t v σ H Q →
    wpAny (model X.prog X.w) X.A (assign target X.env u) (fun _ s' => ∃ σ' H', Inv X pins σ' H' s' ∧ Q σ' H') X.xe s
/-- several targets, one after another -/
def PGs (X : Cx) (ts : List Expr) (t : TGs) : Prop :=
  ∀ (pins : List (Addr × Obj)) (s : Shared) (σ : St) (H : Hp) (vs : List V) (us : List Value) (Q : St → Hp → Prop), Inv X pins σ H s → Vals vs us → t vs σ H Q →
    wpAny (model X.prog X.w) X.A (assignInOrder ((assignEach ts X.env).map (·.2)) us) (fun _ s' => ∃ σ' H', Inv X pins σ' H' s' ∧ Q σ' H') X.xe s
/-- o[i] = v, by values -/
abbrev TSet := V → V → V → Hp → (Hp → Prop) → Prop
def PSet (X : Cx) (t : TSet) : Prop :=
  ∀ (pins : List (Addr × Obj)) (s : Shared) (σ : St) (H : Hp) (o i v : V) (ov iv u : Value) (Q : Hp → Prop), Inv X pins σ H s → RelV o ov → RelV i iv → RelV v u → t o i v H Q →
    wpAny (model X.prog X.w) X.A (setItem ov iv u) (fun _ s' => ∃ H', Inv X pins σ H' s' ∧ Q H') X.xe s
/-- a op= b, by values -/
abbrev TIp := V → V → Hp → VK → Prop
def PIp (X : Cx) (op : Operator) (t : TIp) : Prop :=
  ∀ (pins : List (Addr × Obj)) (s : Shared) (σ : St) (H : Hp) (x y : V) (v u : Value) (Q : VK), Inv X pins σ H s → RelV x v → RelV y u → t x y H Q →
    wpAny (model X.prog X.w) X.A (inplaceOp op v u) (EP X pins σ Q) X.xe s
section
variable {X : Cx} {pos : Pos}
def gName (i : Nat) : TG := fun v σ H Q => Q (σ.set i (some v)) H
theorem pg_name {i : Nat} {x : Str} (hN : X.N.Nodup) (hi : X.N[i]? = some x) (hx : Loc X.env.scope x) (hf : X.fn x = true ∨ X.env.scope.names.lookup x = some .local := by first | exact .inl rfl | exact .inr rfl | assumption) : PG X (.Name x pos) (gName i) := by
  intro pins s σ H v u Q I r h
  exact wpAny_assign_Name (store_ok I hN hi hx r (fun s' I' => ⟨_, H, I', h⟩) hf)
def gNil : TGs := fun vs σ H Q => vs = [] ∧ Q σ H
def gCons (t : TG) (u : TGs) : TGs := fun vs σ H Q => ∃ v r, vs = v :: r ∧ t v σ H fun σ' H' => u r σ' H' Q
theorem pgs_nil : PGs X [] gNil := by
  intro pins s σ H vs us Q I r h
  obtain ⟨e, h⟩ := h
  subst e
  cases r
  exact assignInOrder_nil ⟨σ, H, I, h⟩
theorem pgs_cons {e : Expr} {es : List Expr} {t : TG} {u : TGs} (h1 : PG X e t) (h2 : PGs X es u)
    (hs : (assignEach (e :: es) X.env).map (·.2) = assign e X.env :: (assignEach es X.env).map (·.2) := by rfl) : PGs X (e :: es) (gCons t u) := by
  intro pins s σ H vs us Q I r h
  obtain ⟨v, vr, e1, h⟩ := h
  subst e1
  cases r with
  | cons r rr =>
    rw [hs]
    refine assignInOrder_cons (thn (h1 pins s σ H _ _ _ I r h) fun _ s1 ⟨σ1, H1, I1, q1⟩ => ?_)
    exact h2 pins s1 σ1 H1 _ _ Q I1 rr q1
/-- (a, b, ..) = a tuple of that length -/
def gTup (K : PySem.W.Frag) (n : Nat) (t : TGs) : TG := fun v σ H Q => ∃ a xs, v = .ref a ∧ SqT K H a xs ∧ xs.length = n ∧ t xs σ H Q
theorem pg_tup {es : List Expr} {k : Nat} {t : TGs} {n : Nat} (hc : X.calm = true) (h : PGs X es t)
    (hn : (assignEach es X.env).length = n := by rfl) (hst : (assignEach es X.env).findIdx? (·.1) = none := by rfl) : PG X (.Tuple es k pos) (gTup X.K n t) := by
  intro pins s σ H v u Q I r hw
  obtain ⟨a, xs, e1, hq, hl, hw⟩ := hw
  subst e1
  cases r
  obtain ⟨its, rv, ht, hz⟩ := I.tuple hq
  refine assign_Tuple_tuple (I.ok.hd hc) ht (by simp [hn, ← hl, rv.length]) hst fun h' hx => ?_
  have I1 : Inv X pins σ H { s with heap := h' } := I.kept (t' := s.toks) fun b o e => hx b o (Nat.ne_of_lt (Heap.lt_size e)) e
  exact h pins _ σ H xs _ Q I1 (by simpa using rv) hw
/-- o[i] = .. -/
def gSub (to ti : TE) (t : TSet) : TG := fun v σ H Q => to σ H fun o H1 => ti σ H1 fun i H2 => t o i v H2 fun H3 => Q σ H3
theorem pg_sub {o i : Expr} {to ti : TE} {t : TSet} (ho : PE X o to) (hi : PE X i ti) (hs : PSet X t)
    (ha : ∀ v, assign (.Subscript o i pos) X.env v = (do
      let ov ← holding [v] (eval o X.env)
      let iv ← holding [v, ov] (eval i X.env)
      standAt pos
      holding [v, ov, iv] (setItem ov iv v)
      release [v, ov, iv] []) := by intro _; rfl) : PG X (.Subscript o i pos) (gSub to ti t) := by
  intro pins s σ H v u Q I r h
  rw [ha]
  refine wpAny_bind (wpAny_holding (thn (ho pins s σ H _ I h) fun ov s1 ⟨x, H1, I1, r1, q1⟩ => ?_))
  refine wpAny_bind (wpAny_holding (thn (hi pins s1 σ H1 _ I1 q1) fun iv s2 ⟨y, H2, I2, r2, q2⟩ => ?_))
  refine wpAny_bind (wpAny_standAt (wpAny_bind (wpAny_holding (thn (hs pins s2 σ H2 x y v ov iv u _ I2 r1 r2 r q2) fun _ s3 ⟨H3, I3, q3⟩ => ?_))))
  exact wpAny_release ⟨σ, H3, I3, q3⟩
/-- target = value -/
def tAsg (te : TE) (g : TG) : TS := fun D σ H => te σ H fun x H1 => g x σ H1 D.nx
theorem ps_asg {tg e : Expr} {te : TE} {g : TG} (he : PE X e te) (hg : PG X tg g) (hs : swapsWithSole [tg] e pos.line X.env = pure false := by rfl) (hw : swappedStores [tg] e X.env = pure none := by rfl)
    (h1 : (assignEach [tg] X.env).map (·.2) = [assign tg X.env] := by rfl) : PS X (.Assign [tg] e pos) (tAsg te g) := by
  intro pins s σ H D I h
  refine wpAny_Assign_stores (thn (he pins s σ H _ I h) fun v s1 ⟨x, H1, I1, r1, q1⟩ => ?_) hs hw
  rw [h1]
  exact thn (hg pins s1 σ H1 x v _ I1 r1 q1) fun _ s2 q => q
/-- name = value -/
theorem ps_set {i : Nat} {x : Str} {e : Expr} {te : TE} {pos' : Pos} (hN : X.N.Nodup) (hi : X.N[i]? = some x) (hx : Loc X.env.scope x) (he : PE X e te) (hs : swapsWith e (some (.Name x pos')) pos.line X.env = pure false := by rfl) (hf : X.fn x = true ∨ X.env.scope.names.lookup x = some .local := by first | exact .inl rfl | exact .inr rfl | assumption) :
    PS X (.Assign [.Name x pos'] e pos) (tAsg te (gName i)) := by
  intro pins s σ H D I h
  refine wpAny_Assign_Name (thn (he pins s σ H _ I h) fun v s1 ⟨y, H1, I1, r1, q1⟩ => ?_) hs
  exact store_ok I1 hN hi hx r1 (fun s2 I2 => ⟨_, H1, I2, q1⟩) hf
/-- name op= e -/
def tAug (i : Nat) (te : TE) (ti : TIp) : TS := fun D σ H => ∃ x, σ[i]? = some (some x) ∧ te σ H fun y H1 => ti x y H1 fun z H2 => D.nx (σ.set i (some z)) H2
theorem ps_aug {i : Nat} {x : Str} {e : Expr} {te : TE} {op : Operator} {ti : TIp} {pos' : Pos} (hN : X.N.Nodup) (hi : X.N[i]? = some x) (hx : Loc X.env.scope x) (he : PE X e te) (ho : PIp X op ti) (hf : X.fn x = true ∨ X.env.scope.names.lookup x = some .local := by first | exact .inl rfl | exact .inr rfl | assumption) :
    PS X (.AugAssign (.Name x pos') op e pos) (tAug i te ti) := by
  intro pins s σ H D I h
  obtain ⟨v, e1, h⟩ := h
  obtain ⟨m, hn, hl⟩ := I.loc
  have vis : Vis X.env.scope x := by rcases hx with k | k; exact .inl k; exact .inr (.inl k)
  obtain ⟨u, r, l⟩ := hl i x v hi e1 vis
  refine wpAny_AugAssign_Name ?_
  have go : wpAny (model X.prog X.w) X.A (eval e X.env) (fun w s₂ => wpAny (model X.prog X.w) X.A (inplaceOp op u w) (fun r s₃ => wpAny (model X.prog X.w) X.A (storeName X.env x r) (fun _ => SP X pins D .next) X.xe s₃) X.xe s₂) X.xe s := by
    refine thn (he pins s σ H _ I h) fun w s1 ⟨y, H1, I1, r1, q1⟩ => ?_
    refine thn (ho pins s1 σ H1 v y u w _ I1 r r1 q1) fun z s2 ⟨zv, H2, I2, r2, q2⟩ => ?_
    exact store_ok I2 hN hi hx r2 (fun s3 I3 => ⟨_, H2, I3, q2⟩) hf
  rcases l with ⟨hk, hm⟩ | ⟨hk, c, hc, hcell⟩
  · exact wpAny_loadName_local I.ok.kind hk hn hm go
  · rcases hk with hk | hk
    · exact wpAny_loadName_cell I.ok.kind hk hc hcell go
    · rcases hx with k | k
      · have : X.env.scope.names.lookup x = some .free := hk
        rw [k] at this; cases this
      · have : X.env.scope.names.lookup x = some .free := hk
        rw [k] at this; cases this
/-- ints -/
def ipI (f : Int → Int → Int) : TIp := fun x y H Q => ∃ i j, x = .int i ∧ y = .int j ∧ Q (.int (f i j)) H
theorem ip_add : PIp X .Add (ipI fun i j => i + j) := by
  intro pins s σ H x y v u Q I r1 r2 h
  obtain ⟨i, j, e1, e2, q⟩ := h
  subst e1; subst e2
  obtain ⟨t, rfl⟩ := r1
  obtain ⟨t', rfl⟩ := r2
  exact iadd_int ⟨.int _, H, I.tok _, ⟨_, rfl⟩, q⟩
end

section
variable {X : Cx} {pos : Pos}
/-- the invariant W with its measure -/
def tWhile (c : TT) (tb : TS) : TS := fun D σ H => ∃ W : Nat → St → Hp → Prop, (∃ m, W m σ H) ∧ ∀ m σ H, W m σ H →
  c σ H fun b H1 => if b = true then ∃ N : St → Hp → Prop, (∀ σ' H', N σ' H' → ∃ m', m' < m ∧ W m' σ' H') ∧ tb { D with nx := N, ct := N, bk := D.nx } σ H1 else D.nx σ H1
theorem ps_while {c : Expr} {body : List Stmt} {tc : TT} {tb : TS} (hp : PassesOwn (model X.prog X.w) X.A X.env X.xe) (hc : PT X c tc) (hb : PSs X body tb) : PS X (.While c body [] pos) (tWhile tc tb) := by
  intro pins s σ H D I h
  obtain ⟨W, ⟨m0, w0⟩, turn⟩ := h
  refine wpAny_While (codeAny_whileLoop (fun n s' => ∃ σ' H', Inv X pins σ' H' s' ∧ W n σ' H') ?_ m0 ⟨σ, H, I, w0⟩)
  rintro n s1 ⟨σ1, H1, I1, w1⟩
  refine wpAny_passesOwn hp (thn (hc pins s1 σ1 H1 _ I1 (turn n σ1 H1 w1)) fun b s2 ⟨H2, I2, q2⟩ => ?_)
  cases b with
  | true =>
    obtain ⟨N, hN, q2⟩ := q2
    rw [if_pos rfl]
    refine wpAny_passesOwn hp (thn (hb pins s2 σ1 H2 _ I2 q2) fun f s3 q3 => ?_)
    cases f with
    | next =>
      obtain ⟨σ3, H3, I3, n3⟩ := q3
      obtain ⟨m', hm, w3⟩ := hN σ3 H3 n3
      exact ⟨m', hm, σ3, H3, I3, w3⟩
    | cont =>
      obtain ⟨σ3, H3, I3, n3⟩ := q3
      obtain ⟨m', hm, w3⟩ := hN σ3 H3 n3
      exact ⟨m', hm, σ3, H3, I3, w3⟩
    | brk => exact q3
    | ret v => exact q3
  | false =>
    rw [if_neg Bool.false_ne_true]
    exact wpAny_execs_nil ⟨σ1, H2, I2, q2⟩
end

/-- at turn i: it yields x (the heap may grow), or it stops -/
structure It where
  go : Nat → Hp → Prop
  yld : Nat → Hp → V → Hp → Prop
  stop : Nat → Hp → Prop
/-- the iterator's own objects may turn: they are not the frame's, not pinned, younger than the entry (or a comprehension's own) -/
def FpOk (X : Cx) (pins : List (Addr × Obj)) (H : Hp) (b : Addr) : Prop :=
  H b = none ∧ b ≠ X.env.locals ∧ b ∉ X.fs ∧ (b ∈ X.ex ∨ X.s₀.heap.objs.size ≤ b) ∧ (∀ x c, X.env.cells.lookup x = some c → c ≠ b) ∧ ∀ p ∈ X.pn ++ pins, p.1 ≠ b
theorem Inv.fpOk {X : Cx} {pins : List (Addr × Obj)} {σ : St} {H H' : Hp} {s : Shared} {b : Addr} (I : Inv X pins σ H s) (hb : s.heap.objs.size ≤ b) (hn : H' b = none) : FpOk X pins H' b := by
  refine ⟨hn, Nat.ne_of_gt (Nat.lt_of_lt_of_le I.lt hb), I.nofs hb, .inr (Nat.le_trans I.sz hb), fun x c e z => ?_, fun p hp z => ?_⟩
  · obtain ⟨v, q⟩ := I.cell x c e
    exact absurd (Nat.lt_of_lt_of_le q.lt (by rw [z]; exact hb)) (Nat.lt_irrefl _)
  · exact absurd (Nat.lt_of_lt_of_le (Heap.lt_size (I.pin p hp).1) (by rw [z]; exact hb)) (Nat.lt_irrefl _)
structure Turn (P : Program) (w : World) (K : PySem.W.Frag) (tg : Expr) (J : It) (fp : List Addr) (it : Addr) (tn : Nat → Heap → Prop) : Prop where
  mem : it ∈ fp
  obj : ∀ i h, tn i h → ∀ b ∈ fp, ∃ o, h.get? b = some o ∧ ∀ v, o.data ≠ .cell v
  keep : ∀ i h h', tn i h → (∀ b ∈ fp, ∀ o, h.get? b = some o → h'.get? b = some o) → tn i h'
  item : ∀ (X : Cx), X.prog = P → X.w = w → X.K = K → X.calm = true → ∀ (i : Nat) (pins : List (Addr × Obj)) (s : Shared) (σ : St) (H : Hp) (E : Value → Shared → Prop), Inv X pins σ H s → (∀ b ∈ fp, FpOk X pins H b) → tn i s.heap → J.go i H →
    wpAny (model P w) X.A (pyNext (.ref it)) (fun r s1 => ∃ u, r = some u ∧
      wpAny (model P w) X.A (letOwnedTupleGo tg (.ref it) u) (fun _ s2 => ∃ x H', Inv X pins σ H' s2 ∧ RelV x u ∧ J.yld i H x H' ∧ tn (i + 1) s2.heap ∧ ∀ b ∈ fp, H' b = none) E s1) E s
  done : ∀ (X : Cx), X.prog = P → X.w = w → X.K = K → X.calm = true → ∀ (i : Nat) (pins : List (Addr × Obj)) (s : Shared) (σ : St) (H : Hp) (E : Value → Shared → Prop), Inv X pins σ H s → (∀ b ∈ fp, FpOk X pins H b) → tn i s.heap → J.stop i H →
    wpAny (model P w) X.A (pyNext (.ref it)) (fun r s1 => r = none ∧ Inv X pins σ H s1) E s
  self : ∀ (A : Around) (i : Nat) (s : Shared) (Q : Value → Shared → Prop) (E : Value → Shared → Prop), tn i s.heap → Q (.ref it) s → wpAny (model P w) A (pyIter (.ref it)) Q E s
abbrev TI := St → Hp → (It → Hp → Prop) → Prop
/-- an iterator has come -/
def PIE (X : Cx) (pins : List (Addr × Obj)) (σ : St) (tg : Expr) (R : It → Hp → Prop) (itv : Value) (s2 : Shared) : Prop :=
  ∃ (it : Addr) (fp : List Addr) (tn : Nat → Heap → Prop) (J : It) (H' : Hp), itv = .ref it ∧ Inv X pins σ H' s2 ∧ Turn X.prog X.w X.K tg J fp it tn ∧ tn 0 s2.heap ∧ (∀ b ∈ fp, FpOk X pins H' b) ∧ R J H'
def PI (X : Cx) (tg iter : Expr) (wi : TI) : Prop :=
  ∀ (pins : List (Addr × Obj)) (s : Shared) (σ : St) (H : Hp) (R : It → Hp → Prop), Inv X pins σ H s → wi σ H R →
    wpAny (model X.prog X.w) X.A (eval iter X.env) (fun v s1 => wpAny (model X.prog X.w) X.A (pyIter v) (PIE X pins σ tg R) X.xe s1) X.xe s

/-- the step ahead of the store is nothing for an iterator that keeps no tuple -/
theorem go_of {M : Model} {A : Around} {E : Value → Shared → Prop} {s : Shared} {tg : Expr} {it : Addr} {u : Value} {o : Obj} {n : String} {vs : Array Value} {Q : Unit → Shared → Prop} (ho : s.heap.get? it = some o) (hc : o.cls = .type n) (hd : o.data = .fields vs)
    (hn : ["enumerate", "zip", "dict_itemiterator", "dict_reverseitemiterator", "odict_iterator", "itertools.zip_longest", "itertools.pairwise"].contains n = false) (hQ : Q () s) : wpAny M A (letOwnedTupleGo tg (.ref it) u) Q E s := by
  unfold letOwnedTupleGo
  cases tg <;> first
    | exact wpAny_pure hQ
    | (cases u <;> first
        | exact wpAny_pure hQ
        | (refine wpAny_bind (wpAny_load ho ?_)
           rw [hc, hd]
           show wpAny M A (if (["enumerate", "zip", "dict_itemiterator", "dict_reverseitemiterator", "odict_iterator", "itertools.zip_longest", "itertools.pairwise"].contains n && vs[0]? == some (rawInt _)) = true then _ else _) Q E s
           rw [if_neg (by intro h; rw [hn, Bool.false_and] at h; cases h)]
           exact wpAny_pure hQ))

/-- the list at a, as it stands at each turn (a loop may append to it) -/
def Itl (K : PySem.W.Frag) (a : Addr) : It :=
  ⟨fun i H => ∃ xs x, SqL K H a xs ∧ xs[i]? = some x, fun i H x H' => H' = H ∧ ∀ xs, SqL K H a xs → xs[i]? = some x, fun i H => ∃ xs, SqL K H a xs ∧ xs.length ≤ i⟩
def Itt (K : PySem.W.Frag) (a : Addr) : It :=
  ⟨fun i H => ∃ xs x, SqT K H a xs ∧ xs[i]? = some x, fun i H x H' => H' = H ∧ ∀ xs, SqT K H a xs → xs[i]? = some x, fun i H => ∃ xs, SqT K H a xs ∧ xs.length ≤ i⟩
/-- lo, lo + 1, .. (n of them) -/
def Itr (lo : Int) (n : Nat) : It := ⟨fun i _ => i < n, fun i H x H' => H' = H ∧ x = .int (lo + i), fun i _ => n ≤ i⟩
theorem turn_list {P : Program} {w : World} {K : PySem.W.Frag} {tg : Expr} (a it : Addr) : Turn P w K tg (Itl K a) [it] it (fun i h => h.IsListIter it a i) where
  mem := by simp
  obj := fun i h st b hb => by
    have e : b = it := by simpa using hb
    subst e
    obtain ⟨o, e, c, d⟩ := st
    exact ⟨o, e, fun v z => by rw [d] at z; cases z⟩
  keep := fun i h h' st k => st.at fun o e => k it (by simp) o e
  item := by
    intro X hP hw hK hc i pins s σ H E I hf st hg
    subst hP hw hK
    obtain ⟨xs, x, hq, hx⟩ := hg
    obtain ⟨its, rv, p, hz⟩ := I.list hq
    obtain ⟨u, hu, ru⟩ := rv.get hx
    obtain ⟨f0, f1, f2, f3, f4, f5⟩ := hf it (by simp)
    refine wpAny_pyNext_list_item st p.isList (x := u) (by simpa using hu) fun h' st' sb => ?_
    have I1 : Inv X pins σ H { s with heap := h' } := I.turned (t' := s.toks) (fun b o hb e => (sb.2 b hb).trans e) f0 f1 f3 f4 f5
    obtain ⟨o, e, c, d⟩ := id st'
    exact ⟨u, rfl, go_of (s := { s with heap := h' }) e c d (by decide) ⟨x, H, I1, ru, ⟨rfl, fun ys hy => by rw [I.list_inj hy hq]; exact hx⟩, st', fun b hb => (hf b hb).1⟩⟩
  done := by
    intro X hP hw hK hc i pins s σ H E I hf st hg
    subst hP hw hK
    obtain ⟨xs, hq, hx⟩ := hg
    obtain ⟨its, rv, p, hz⟩ := I.list hq
    obtain ⟨f0, f1, f2, f3, f4, f5⟩ := hf it (by simp)
    have hl := rv.length
    exact wpAny_pyNext_list_end (I.ok.hd hc) st p.isList (by simp; omega) fun h' eb => ⟨rfl, I.turned (t' := s.toks) (fun b o hb e => eb b o hb e) f0 f1 f3 f4 f5⟩
  self := fun _ _ _ _ _ st h => wpAny_pyIter_listiter st h
theorem turn_tuple {P : Program} {w : World} {K : PySem.W.Frag} {tg : Expr} (a it : Addr) : Turn P w K tg (Itt K a) [it] it (fun i h => h.IsTupleIter it a i) where
  mem := by simp
  obj := fun i h st b hb => by
    have e : b = it := by simpa using hb
    subst e
    obtain ⟨o, e, c, d⟩ := st
    exact ⟨o, e, fun v z => by rw [d] at z; cases z⟩
  keep := fun i h h' st k => st.at fun o e => k it (by simp) o e
  item := by
    intro X hP hw hK hc i pins s σ H E I hf st hg
    subst hP hw hK
    obtain ⟨xs, x, hq, hx⟩ := hg
    obtain ⟨its, rv, p, hz⟩ := I.tuple hq
    obtain ⟨u, hu, ru⟩ := rv.get hx
    obtain ⟨f0, f1, f2, f3, f4, f5⟩ := hf it (by simp)
    refine wpAny_pyNext_tuple_item st (show s.heap.IsTuple a its.toArray from p) (x := u) (by simpa using hu) fun h' st' sb => ?_
    have I1 : Inv X pins σ H { s with heap := h' } := I.turned (t' := s.toks) (fun b o hb e => (sb.2 b hb).trans e) f0 f1 f3 f4 f5
    obtain ⟨o, e, c, d⟩ := id st'
    exact ⟨u, rfl, go_of (s := { s with heap := h' }) e c d (by decide) ⟨x, H, I1, ru, ⟨rfl, fun ys hy => by rw [I.tuple_inj hy hq]; exact hx⟩, st', fun b hb => (hf b hb).1⟩⟩
  done := by
    intro X hP hw hK hc i pins s σ H E I hf st hg
    subst hP hw hK
    obtain ⟨xs, hq, hx⟩ := hg
    obtain ⟨its, rv, p, hz⟩ := I.tuple hq
    obtain ⟨f0, f1, f2, f3, f4, f5⟩ := hf it (by simp)
    have hl := rv.length
    exact wpAny_pyNext_tuple_end (I.ok.hd hc) st (show s.heap.IsTuple a its.toArray from p) (by simp; omega) fun h' eb => ⟨rfl, I.turned (t' := s.toks) (fun b o hb e => eb b o hb e) f0 f1 f3 f4 f5⟩
  self := fun _ _ _ _ _ st h => wpAny_pyIter_tupleiter st h
theorem turn_range {P : Program} {w : World} {K : PySem.W.Frag} {tg : Expr} (it : Addr) (lo : Int) (n : Nat) : Turn P w K tg (Itr lo n) [it] it (fun i h => IsRangeIter h it (lo + (i : Nat) * 1) ((n : Int) - (i : Nat)) 1) where
  mem := by simp
  obj := fun i h st b hb => by
    have e : b = it := by simpa using hb
    subst e
    exact ⟨_, st, fun v z => by
      have z' : Data.fields _ = Data.cell v := z
      cases z'⟩
  keep := fun i h h' st k => k it (by simp) _ st
  item := by
    intro X hP hw hK hc i pins s σ H E I hf st hg
    subst hP hw hK
    obtain ⟨f0, f1, f2, f3, f4, f5⟩ := hf it (by simp)
    have W := Walks.range (prog := X.prog) (w := X.w) (I.ok.hd hc) it lo 1 n
    refine W.item i s _ _ hg st fun v h' tk hv st' kk => ?_
    obtain ⟨t, rfl⟩ := hv
    have I1 : Inv X pins σ H { s with heap := h', toks := tk } := I.turned (fun b o hb e => kk b o (by simpa using hb) e) f0 f1 f3 f4 f5
    refine ⟨_, rfl, go_of (s := { s with heap := h', toks := tk }) (n := "range_iterator") st' rfl rfl (by decide) ⟨.int (lo + i), H, I1, ⟨t, ?_⟩, ⟨rfl, rfl⟩, st', fun b hb => (hf b hb).1⟩⟩
    rw [Int.mul_one]
  done := by
    intro X hP hw hK hc i pins s σ H E I hf st hg
    subst hP hw hK
    obtain ⟨f0, f1, f2, f3, f4, f5⟩ := hf it (by simp)
    exact wpAny_pyNext_range_end (I.ok.hd hc) st (by have : n ≤ i := hg; omega) fun h' eb => ⟨rfl, I.turned (t' := s.toks) (fun b o hb e => eb b o hb e) f0 f1 f3 f4 f5⟩
  self := fun _ _ _ _ _ st h => wpAny_pyIter_rangeiter st h
end L2

namespace L2
open PySem PySem.Spec PyProof.Rows
section
variable {X : Cx} {tg : Expr}
def iList (K : PySem.W.Frag) (tl : TE) : TI := fun σ H R => tl σ H fun x H1 => ∃ a, x = .ref a ∧ (∃ xs, SqL K H1 a xs) ∧ R (Itl K a) H1
def iTup (K : PySem.W.Frag) (tl : TE) : TI := fun σ H R => tl σ H fun x H1 => ∃ a, x = .ref a ∧ (∃ xs, SqT K H1 a xs) ∧ R (Itt K a) H1
theorem pi_list {l : Expr} {tl : TE} (hl : PE X l tl) : PI X tg l (iList X.K tl) := by
  intro pins s σ H R I h
  refine thn (hl pins s σ H _ I h) fun v s1 ⟨x, H1, I1, r1, q1⟩ => ?_
  obtain ⟨a, e, ⟨xs, hq⟩, q⟩ := q1
  subst e
  cases r1
  obtain ⟨its, rv, p, hz⟩ := I1.list hq
  refine wpAny_pyIter_list p.isList ?_
  refine ⟨s1.heap.objs.size, [s1.heap.objs.size], _, _, H1, rfl, I1.kept (t' := s1.toks) fun b o e => Heap.get?_push_of_some _ e, turn_list a _, ⟨_, Heap.get?_push_size _ rfl, rfl, rfl⟩, fun b hb => ?_, q⟩
  have e : b = s1.heap.objs.size := by simpa using hb
  subst e
  exact I1.fpOk (Nat.le_refl _) (I1.hok.fresh (Nat.le_refl _))
theorem pi_tup {l : Expr} {tl : TE} (hl : PE X l tl) : PI X tg l (iTup X.K tl) := by
  intro pins s σ H R I h
  refine thn (hl pins s σ H _ I h) fun v s1 ⟨x, H1, I1, r1, q1⟩ => ?_
  obtain ⟨a, e, ⟨xs, hq⟩, q⟩ := q1
  subst e
  cases r1
  obtain ⟨its, rv, p, hz⟩ := I1.tuple hq
  refine wpAny_pyIter_tuple (show s1.heap.IsTuple a its.toArray from p) ?_
  refine ⟨s1.heap.objs.size, [s1.heap.objs.size], _, _, H1, rfl, I1.kept (t' := s1.toks) fun b o e => Heap.get?_push_of_some _ e, turn_tuple a _, ⟨_, Heap.get?_push_size _ rfl, rfl, rfl⟩, fun b hb => ?_, q⟩
  have e : b = s1.heap.objs.size := by simpa using hb
  subst e
  exact I1.fpOk (Nat.le_refl _) (I1.hok.fresh (Nat.le_refl _))
/-- a range object just made, walked -/
theorem range_it {pins : List (Addr × Obj)} {σ : St} {H : Hp} {s : Shared} {R : It → Hp → Prop} {E : Value → Shared → Prop} {lo hi : Int} {t u v : Tok} {tk : Nat} (I : Inv X pins σ H s) (h1 : -(2 ^ 62) ≤ lo) (h2 : lo < 2 ^ 62) (h3 : -(2 ^ 62) ≤ hi) (h4 : hi < 2 ^ 62)
    (q : R (Itr lo (hi - lo).toNat) H) : wpAny (model X.prog X.w) X.A (pyIter (.ref s.heap.objs.size)) (PIE X pins σ tg R) E { s with heap := s.heap.push { cls := .type "range", data := .fields #[.int lo t, .int hi u, .int 1 v] }, toks := tk } := by
  refine wpAny_pyIter_range (IsRange.new ..) (small_one h1 h2 h3 h4) ?_
  have I1 : Inv X pins σ H { s with heap := s.heap.push { cls := .type "range", data := .fields #[.int lo t, .int hi u, .int 1 v] }, toks := tk } := I.kept fun b o e => Heap.get?_push_of_some _ e
  refine ⟨(s.heap.push { cls := .type "range", data := .fields #[.int lo t, .int hi u, .int 1 v] }).objs.size, [(s.heap.push { cls := .type "range", data := .fields #[.int lo t, .int hi u, .int 1 v] }).objs.size], _, _, H, rfl,
    I1.kept (t' := tk) fun b o e => Heap.get?_push_of_some _ e, turn_range _ lo (hi - lo).toNat, ?_, fun b hb => ?_, q⟩
  · have e1 : lo + ((0 : Nat) : Int) * 1 = lo := by simp
    have e2 : (((hi - lo).toNat : Nat) : Int) - ((0 : Nat) : Int) = Builtin.Range.rangeSize lo hi 1 := by rw [rangeSize_one]; split <;> omega
    show IsRangeIter _ _ (lo + ((0 : Nat) : Int) * 1) ((((hi - lo).toNat : Nat) : Int) - ((0 : Nat) : Int)) 1
    rw [e1, e2]
    exact Heap.get?_push_size _ rfl
  · have e : b = (s.heap.push { cls := .type "range", data := .fields #[.int lo t, .int hi u, .int 1 v] }).objs.size := by simpa using hb
    subst e
    exact I1.fpOk (Nat.le_refl _) (I1.hok.fresh (Nat.le_refl _))
def iRng1 (ta : TA) : TI := fun σ H R => ta σ H fun vs H1 => ∃ j : Int, vs = [.int j] ∧ -(2 ^ 62) ≤ j ∧ j < 2 ^ 62 ∧ R (Itr 0 j.toNat) H1
theorem pi_range1 {a : Expr} {ta : TA} {p pos : Pos} (hg : Gl X "range") (hm : X.mg "range" = none) (ha : PA X [a] ta) (hs : starEach [a] X.env = [(false, eval a X.env)] := by rfl) : PI X tg (.Call (.Name "range" p) [a] [] pos) (iRng1 ta) := by
  intro pins s σ H R I h
  refine Call_ (ld_blt I hg hm boot_range (PyProof.Rows.callWith_type1 (thn (ha pos pins s σ H _ I h) fun us s1 ⟨vs, H1, I1, r1, q1⟩ => ?_) hs rfl))
  obtain ⟨j, e, q1, q2, q⟩ := q1
  subst e
  cases r1 with
  | cons r rr =>
    cases rr
    obtain ⟨t, rfl⟩ := r
    exact call_range_1 (range_it I1 (by omega) (by omega) q1 q2 (by simpa using q))
/-- W: the invariant by the turn and a measure; N: what the body is to reach -/
def tFor (wi : TI) (g : TG) (tb : TS) : TS := fun D σ H => wi σ H fun J H1 => ∃ W : Nat → Nat → St → Hp → Prop, (∃ m, W 0 m σ H1) ∧ ∀ i m σ H, W i m σ H →
  (J.stop i H ∧ D.nx σ H) ∨ (J.go i H ∧ ∃ N : St → Hp → Prop, (∀ σ' H', N σ' H' → ∃ m', m' < m ∧ W (i + 1) m' σ' H') ∧ ∀ x H', J.yld i H x H' → g x σ H' fun σ2 H2 => tb { D with nx := N, ct := N, bk := D.nx } σ2 H2)
/-- the records at fp as they stand -/
def pinsAt (fp : List Addr) (h : Heap) : List (Addr × Obj) := fp.filterMap fun b => (h.get? b).map fun o => (b, o)
theorem mem_pinsAt {fp : List Addr} {h : Heap} {b : Addr} {o : Obj} (hb : b ∈ fp) (e : h.get? b = some o) : (b, o) ∈ pinsAt fp h := List.mem_filterMap.mpr ⟨b, hb, by rw [e]; rfl⟩
theorem of_pinsAt {fp : List Addr} {h : Heap} {p : Addr × Obj} (hp : p ∈ pinsAt fp h) : p.1 ∈ fp ∧ h.get? p.1 = some p.2 := by
  obtain ⟨b, hb, e⟩ := List.mem_filterMap.mp hp
  cases q : h.get? b with
  | none => rw [q] at e; cases e
  | some o =>
    rw [q] at e
    have e' : (b, o) = p := Option.some.inj e
    subst e'
    exact ⟨hb, q⟩
theorem Inv.pinned {pins : List (Addr × Obj)} {σ : St} {H : Hp} {s : Shared} {fp : List Addr} (I : Inv X pins σ H s) (hf : ∀ b ∈ fp, FpOk X pins H b) (ho : ∀ b ∈ fp, ∃ o, s.heap.get? b = some o ∧ ∀ v, o.data ≠ .cell v) : Inv X (pins ++ pinsAt fp s.heap) σ H s :=
  I.pins_of fun p hp => (List.mem_append.mp hp).elim (fun z => I.pin p (List.mem_append_right _ z)) fun z => by
    obtain ⟨hb, e⟩ := of_pinsAt z
    obtain ⟨f0, f1, f2, _⟩ := hf p.1 hb
    obtain ⟨o, e', d⟩ := ho p.1 hb
    rw [e] at e'; cases e'
    exact ⟨e, f0, f1, f2, d⟩
theorem Inv.unpinned {pins pl : List (Addr × Obj)} {σ : St} {H : Hp} {s : Shared} (I : Inv X (pins ++ pl) σ H s) : Inv X pins σ H s := I.pins_of fun p hp => I.pin p (List.mem_append_right _ (List.mem_append_left _ hp))
theorem ps_for {iter : Expr} {body : List Stmt} {wi : TI} {g : TG} {tb : TS} {pos : Pos} (hp : PassesOwn (model X.prog X.w) X.A X.env X.xe) (hc : X.calm = true) (hi : PI X tg iter wi) (hg : PG X tg g) (hb : PSs X body tb)
    (hs : ∀ x, foldedSetIterable iter X.env x = pure x := by intro _; rfl) : PS X (.For tg iter body [] pos) (tFor wi g tb) := by
  intro pins s σ H D I h
  refine wpAny_For (thn (hi pins s σ H _ I h) fun v s1 h1 => thn h1 fun itv s2 h2 => ?_) hs
  obtain ⟨it, fp, tn, J, H2, e, I2, T, st2, f2, W, ⟨m0, w0⟩, turn⟩ := h2
  subst e
  have stat : ∀ {H' : Hp}, (∀ b ∈ fp, H' b = none) → ∀ b ∈ fp, FpOk X pins H' b := fun hn b hb => ⟨hn b hb, (f2 b hb).2⟩
  refine codeAny_forLoop_any (fun n s' => ∃ i σ' H', Inv X pins σ' H' s' ∧ tn i s'.heap ∧ (∀ b ∈ fp, H' b = none) ∧ W i n σ' H') ?_ m0 ⟨0, σ, H2, I2, st2, fun b hb => (f2 b hb).1, w0⟩
  rintro n s3 ⟨i, σ3, H3, I3, st3, fr3, w3⟩
  rcases turn i n σ3 H3 w3 with ⟨stop, qn⟩ | ⟨go, N, hN, step⟩
  · refine wpAny_passesOwn hp (thn (T.done X rfl rfl rfl hc i pins s3 σ3 H3 X.xe I3 (stat fr3) st3 stop) fun r s4 ⟨hr, I4⟩ => ?_)
    subst hr
    exact wpAny_execs_nil ⟨σ3, H3, I4, qn⟩
  · refine wpAny_passesOwn hp (thn (T.item X rfl rfl rfl hc i pins s3 σ3 H3 X.xe I3 (stat fr3) st3 go) fun r s4 ⟨u, hr, h4⟩ => ?_)
    subst hr
    refine wpAny_passesOwn hp (thn h4 fun _ s5 ⟨x, H5, I5, r5, y5, st5, fr5⟩ => ?_)
    have I5' := I5.pinned (stat fr5) (T.obj _ _ st5)
    refine wpAny_passesOwn hp (thn (hg _ s5 σ3 H5 x u _ I5' r5 (step x H5 y5)) fun _ s6 ⟨σ6, H6, I6, q6⟩ => ?_)
    refine wpAny_passesOwn hp (thn (hb _ s6 σ6 H6 _ I6 q6) fun f s7 q7 => ?_)
    have again : ∀ {σ7 : St} {H7 : Hp}, Inv X (pins ++ pinsAt fp s5.heap) σ7 H7 s7 → N σ7 H7 → ∃ m, m < n ∧ ∃ i σ' H', Inv X pins σ' H' s7 ∧ tn i s7.heap ∧ (∀ b ∈ fp, H' b = none) ∧ W i m σ' H' := fun {σ7 H7} I7 n7 => by
      obtain ⟨m', hm, w7⟩ := hN σ7 H7 n7
      refine ⟨m', hm, i + 1, σ7, H7, I7.unpinned, T.keep _ _ _ st5 fun b hb o e => (I7.pin (b, o) (List.mem_append_right _ (List.mem_append_right _ (mem_pinsAt hb e)))).1, fun b hb => ?_, w7⟩
      obtain ⟨o, e, d⟩ := T.obj _ _ st5 b hb
      exact (I7.pin (b, o) (List.mem_append_right _ (List.mem_append_right _ (mem_pinsAt hb e)))).2.1
    cases f with
    | next => obtain ⟨σ7, H7, I7, n7⟩ := q7; exact again I7 n7
    | cont => obtain ⟨σ7, H7, I7, n7⟩ := q7; exact again I7 n7
    | brk => obtain ⟨σ7, H7, I7, q7⟩ := q7; exact ⟨σ7, H7, I7.unpinned, q7⟩
    | ret v => obtain ⟨x7, σ7, H7, I7, r7, q7⟩ := q7; exact ⟨x7, σ7, H7, I7.unpinned, r7, q7⟩
end

/-- over a list that the body leaves as it is -/
theorem for_list {K : PySem.W.Frag} {a : Addr} {xs : List V} {g : TG} {tb : TS} {D : Ends} {σ : St} {H : Hp} (Pv : Nat → St → Hp → Prop) (h0 : Pv 0 σ H) (hl : ∀ i σ H, i ≤ xs.length → Pv i σ H → SqL K H a xs)
    (hs : ∀ i x σ H, xs[i]? = some x → Pv i σ H → g x σ H fun σ2 H2 => tb { D with nx := Pv (i + 1), ct := Pv (i + 1), bk := D.nx } σ2 H2) (hd : ∀ σ H, Pv xs.length σ H → D.nx σ H) :
    ∃ W : Nat → Nat → St → Hp → Prop, (∃ m, W 0 m σ H) ∧ ∀ i m σ H, W i m σ H →
      ((Itl K a).stop i H ∧ D.nx σ H) ∨ ((Itl K a).go i H ∧ ∃ N : St → Hp → Prop, (∀ σ' H', N σ' H' → ∃ m', m' < m ∧ W (i + 1) m' σ' H') ∧ ∀ x H', (Itl K a).yld i H x H' → g x σ H' fun σ2 H2 => tb { D with nx := N, ct := N, bk := D.nx } σ2 H2) := by
  refine ⟨fun i m σ H => m = xs.length - i ∧ i ≤ xs.length ∧ Pv i σ H, ⟨xs.length, by simp, Nat.zero_le _, h0⟩, ?_⟩
  rintro i m σ H ⟨rfl, hi, p⟩
  have q := hl i σ H hi p
  by_cases hlt : i < xs.length
  · refine .inr ⟨⟨xs, xs[i], q, by simp [hlt]⟩, Pv (i + 1), fun σ' H' p' => ⟨xs.length - (i + 1), by omega, rfl, hlt, p'⟩, fun x H' y => ?_⟩
    obtain ⟨e, y⟩ := y
    subst e
    exact hs i x σ _ (y xs q) p
  · have e : i = xs.length := by omega
    subst e
    exact .inl ⟨⟨xs, q, Nat.le_refl _⟩, hd σ H p⟩
theorem for_tup {K : PySem.W.Frag} {a : Addr} {xs : List V} {g : TG} {tb : TS} {D : Ends} {σ : St} {H : Hp} (Pv : Nat → St → Hp → Prop) (h0 : Pv 0 σ H) (hl : ∀ i σ H, i ≤ xs.length → Pv i σ H → SqT K H a xs)
    (hs : ∀ i x σ H, xs[i]? = some x → Pv i σ H → g x σ H fun σ2 H2 => tb { D with nx := Pv (i + 1), ct := Pv (i + 1), bk := D.nx } σ2 H2) (hd : ∀ σ H, Pv xs.length σ H → D.nx σ H) :
    ∃ W : Nat → Nat → St → Hp → Prop, (∃ m, W 0 m σ H) ∧ ∀ i m σ H, W i m σ H →
      ((Itt K a).stop i H ∧ D.nx σ H) ∨ ((Itt K a).go i H ∧ ∃ N : St → Hp → Prop, (∀ σ' H', N σ' H' → ∃ m', m' < m ∧ W (i + 1) m' σ' H') ∧ ∀ x H', (Itt K a).yld i H x H' → g x σ H' fun σ2 H2 => tb { D with nx := N, ct := N, bk := D.nx } σ2 H2) := by
  refine ⟨fun i m σ H => m = xs.length - i ∧ i ≤ xs.length ∧ Pv i σ H, ⟨xs.length, by simp, Nat.zero_le _, h0⟩, ?_⟩
  rintro i m σ H ⟨rfl, hi, p⟩
  have q := hl i σ H hi p
  by_cases hlt : i < xs.length
  · refine .inr ⟨⟨xs, xs[i], q, by simp [hlt]⟩, Pv (i + 1), fun σ' H' p' => ⟨xs.length - (i + 1), by omega, rfl, hlt, p'⟩, fun x H' y => ?_⟩
    obtain ⟨e, y⟩ := y
    subst e
    exact hs i x σ _ (y xs q) p
  · have e : i = xs.length := by omega
    subst e
    exact .inl ⟨⟨xs, q, Nat.le_refl _⟩, hd σ H p⟩
theorem for_range {lo : Int} {n : Nat} {g : TG} {tb : TS} {D : Ends} {σ : St} {H : Hp} (Pv : Nat → St → Hp → Prop) (h0 : Pv 0 σ H)
    (hs : ∀ i σ H, i < n → Pv i σ H → g (.int (lo + i)) σ H fun σ2 H2 => tb { D with nx := Pv (i + 1), ct := Pv (i + 1), bk := D.nx } σ2 H2) (hd : ∀ σ H, Pv n σ H → D.nx σ H) :
    ∃ W : Nat → Nat → St → Hp → Prop, (∃ m, W 0 m σ H) ∧ ∀ i m σ H, W i m σ H →
      ((Itr lo n).stop i H ∧ D.nx σ H) ∨ ((Itr lo n).go i H ∧ ∃ N : St → Hp → Prop, (∀ σ' H', N σ' H' → ∃ m', m' < m ∧ W (i + 1) m' σ' H') ∧ ∀ x H', (Itr lo n).yld i H x H' → g x σ H' fun σ2 H2 => tb { D with nx := N, ct := N, bk := D.nx } σ2 H2) := by
  refine ⟨fun i m σ H => m = n - i ∧ i ≤ n ∧ Pv i σ H, ⟨n, by simp, Nat.zero_le _, h0⟩, ?_⟩
  rintro i m σ H ⟨rfl, hi, p⟩
  by_cases hlt : i < n
  · refine .inr ⟨hlt, Pv (i + 1), fun σ' H' p' => ⟨n - (i + 1), by omega, rfl, hlt, p'⟩, fun x H' y => ?_⟩
    obtain ⟨e, y⟩ := y
    subst e y
    exact hs i σ _ hlt p
  · have e : i = n := by omega
    subst e
    exact .inl ⟨Nat.le_refl _, hd σ H p⟩
end L2

namespace L2
open PySem PySem.Spec PyProof.Rows

abbrev R2 := V → V → Hp → VK → Prop
/-- a two-place operation on values: f is binaryOp op, inplaceOp op or compareOp op -/
def OpR (X : Cx) (f : Value → Value → Sem Value) (r : R2) : Prop :=
  ∀ (pins : List (Addr × Obj)) (s : Shared) (σ : St) (H : Hp) (x y : V) (v u : Value) (Q : VK), Inv X pins σ H s → RelV x v → RelV y u → r x y H Q →
    wpAny (model X.prog X.w) X.A (f v u) (EP X pins σ Q) X.xe s
/-- a one-place operation -/
def UnR (X : Cx) (f : Value → Sem Value) (r : V → Hp → VK → Prop) : Prop :=
  ∀ (pins : List (Addr × Obj)) (s : Shared) (σ : St) (H : Hp) (x : V) (v : Value) (Q : VK), Inv X pins σ H s → RelV x v → r x H Q →
    wpAny (model X.prog X.w) X.A (f v) (EP X pins σ Q) X.xe s
/-- a call of a value that is known (a builtin, a type) with values -/
def CallR (X : Cx) (f : Value) (r : List V → Hp → VK → Prop) : Prop :=
  ∀ (pins : List (Addr × Obj)) (s : Shared) (σ : St) (H : Hp) (xs : List V) (us : List Value) (Q : VK), Inv X pins σ H s → Vals xs us → r xs H Q →
    wpAny (model X.prog X.w) X.A (call f us) (EP X pins σ Q) X.xe s
def tOp (r : R2) (ta tb : TE) : TE := fun σ H Q => ta σ H fun x H1 => tb σ H1 fun y H2 => r x y H2 Q
def tUn (r : V → Hp → VK → Prop) (ta : TE) : TE := fun σ H Q => ta σ H fun x H1 => r x H1 Q
/-- ints in, under C, and a value out -/
def rI (C : Int → Int → Prop) (g : Int → Int → V) : R2 := fun x y H Q => ∃ i j, x = .int i ∧ y = .int j ∧ C i j ∧ Q (g i j) H
def rI0 (g : Int → Int → V) : R2 := fun x y H Q => ∃ i j, x = .int i ∧ y = .int j ∧ Q (g i j) H
def rU (g : Int → V) : V → Hp → VK → Prop := fun x H Q => ∃ i, x = .int i ∧ Q (g i) H

section
variable {X : Cx} {a b c : Expr} {ta tb tc : TE} {pos : Pos}

theorem binT (ha : PE X a ta) (hb : PE X b tb) {pins : List (Addr × Obj)} {s : Shared} {σ : St} {H : Hp} {R : V → V → Hp → Prop} (I : Inv X pins σ H s)
    (h : ta σ H fun x H1 => tb σ H1 fun y H2 => R x y H2) {Q : Value → Shared → Prop} {f : Value → Value → Sem Value}
    (hf : ∀ v u s2 x y H2, Inv X pins σ H2 s2 → RelV x v → RelV y u → R x y H2 → wpAny (model X.prog X.w) X.A (f v u) Q X.xe s2) :
    wpAny (model X.prog X.w) X.A (eval a X.env) (fun v s₁ => wpAny (model X.prog X.w) X.A (eval b X.env) (fun u s₂ => wpAny (model X.prog X.w) X.A (f v u) Q X.xe s₂) X.xe s₁) X.xe s := by
  refine thn (ha pins s σ H _ I h) fun v s1 ⟨x, H1, I1, r1, q1⟩ => ?_
  refine thn (hb pins s1 σ H1 _ I1 q1) fun u s2 ⟨y, H2, I2, r2, q2⟩ => ?_
  exact hf v u s2 x y H2 I2 r1 r2 q2

theorem pe_op {op : Operator} {r : R2} (ho : OpR X (binaryOp op) r) (ha : PE X a ta) (hb : PE X b tb) : PE X (.BinOp a op b pos) (tOp r ta tb) := by
  intro pins s σ H Q I h
  exact wpAny_BinOp (binT ha hb I h fun v u s2 x y H2 I2 rx ry q => ho pins s2 σ H2 x y v u Q I2 rx ry q)
theorem pe_un {op : UnaryOp} {r : V → Hp → VK → Prop} (ho : UnR X (unaryOp op) r) (ha : PE X a ta) : PE X (.UnaryOp op a pos) (tUn r ta) := by
  intro pins s σ H Q I h
  exact UnaryOp_ (thn (ha pins s σ H _ I h) fun v s1 ⟨x, H1, I1, r1, q1⟩ => ho pins s1 σ H1 x v Q I1 r1 q1)
theorem opI {f : Value → Value → Sem Value} {C : Int → Int → Prop} {g : Int → Int → Int}
    (rule : ∀ (i j : Int) (t u : Tok) (s : Shared) (Q : Value → Shared → Prop) (E : Value → Shared → Prop), C i j → Q (.int (g i j) s.toks) { s with toks := s.toks + 1 } → wpAny (model X.prog X.w) X.A (f (.int i t) (.int j u)) Q E s) :
    OpR X f (rI C fun i j => .int (g i j)) := by
  intro pins s σ H x y v u Q I rx ry h
  obtain ⟨i, j, rfl, rfl, hc, q⟩ := h
  obtain ⟨t, rfl⟩ := rx
  obtain ⟨t', rfl⟩ := ry
  exact rule i j t t' s _ _ hc ⟨.int (g i j), H, I.tok _, ⟨_, rfl⟩, q⟩
theorem opI0 {f : Value → Value → Sem Value} {g : Int → Int → Int}
    (rule : ∀ (i j : Int) (t u : Tok) (s : Shared) (Q : Value → Shared → Prop) (E : Value → Shared → Prop), Q (.int (g i j) s.toks) { s with toks := s.toks + 1 } → wpAny (model X.prog X.w) X.A (f (.int i t) (.int j u)) Q E s) :
    OpR X f (rI0 fun i j => .int (g i j)) := by
  intro pins s σ H x y v u Q I rx ry h
  obtain ⟨i, j, rfl, rfl, q⟩ := h
  obtain ⟨t, rfl⟩ := rx
  obtain ⟨t', rfl⟩ := ry
  exact rule i j t t' s _ _ ⟨.int (g i j), H, I.tok _, ⟨_, rfl⟩, q⟩
theorem opB0 {f : Value → Value → Sem Value} {g : Int → Int → Bool}
    (rule : ∀ (i j : Int) (t u : Tok) (s : Shared) (Q : Value → Shared → Prop) (E : Value → Shared → Prop), Q (.bool (g i j)) s → wpAny (model X.prog X.w) X.A (f (.int i t) (.int j u)) Q E s) :
    OpR X f (rI0 fun i j => .bl (g i j)) := by
  intro pins s σ H x y v u Q I rx ry h
  obtain ⟨i, j, rfl, rfl, q⟩ := h
  obtain ⟨t, rfl⟩ := rx
  obtain ⟨t', rfl⟩ := ry
  exact rule i j t t' s _ _ ⟨.bl (g i j), H, I, rfl, q⟩

def CPow (i j : Int) : Prop := 0 ≤ j ∧ j ≤ 1000000 ∧ i.natAbs < 2 ^ 64
def CMul (i j : Int) : Prop := (-(2 ^ 64) < i ∧ i < 2 ^ 64) ∨ (-(2 ^ 64) < j ∧ j < 2 ^ 64)
theorem CMul.ok {i j : Int} (h : CMul i j) : IntMulOk i j := by
  rcases h with ⟨h1, h2⟩ | ⟨h1, h2⟩
  · exact .of_left (intBits_le_64 h1 h2)
  · exact .of_right (intBits_le_64 h1 h2)
theorem op_add : OpR X (binaryOp .Add) (rI0 fun i j => .int (i + j)) := opI0 fun _ _ _ _ _ _ _ q => add_int q
theorem op_sub : OpR X (binaryOp .Sub) (rI0 fun i j => .int (i - j)) := opI0 fun _ _ _ _ _ _ _ q => sub_int q
theorem op_mul : OpR X (binaryOp .Mult) (rI CMul fun i j => .int (i * j)) := opI fun _ _ _ _ _ _ _ hc q => mul_int q hc.ok
/-- % by a positive divisor of any size -/
theorem op_mod : OpR X (binaryOp .Mod) (rI (fun _ j => 0 < j) fun i j => .int (i % j)) := opI fun i j _ _ _ _ _ hc q => by
  have h1 : (0 : Int) < j := hc
  exact mod_int' (by omega) (by rw [Int.fmod_eq_emod_of_nonneg i (by omega)]; exact q)
theorem op_pow : OpR X (binaryOp .Pow) (rI CPow fun i j => .int (i ^ j.toNat)) := opI fun _ _ _ _ _ _ _ hc q => pow_int_small hc.1 hc.2.1 hc.2.2 q
theorem op_shl : OpR X (binaryOp .LShift) (rI CPow fun i j => .int (i * 2 ^ j.toNat)) := opI fun _ _ _ _ _ _ _ hc q => lshift_int_small hc.1 hc.2.1 hc.2.2 q
theorem op_or : OpR X (binaryOp .BitOr) (rI0 fun i j => .int (Builtin.bitOr i j)) := opI0 fun _ _ _ _ _ _ _ q => or_int q
theorem unI {f : Value → Sem Value} {g : Int → Int}
    (rule : ∀ (i : Int) (t : Tok) (s : Shared) (Q : Value → Shared → Prop) (E : Value → Shared → Prop), Q (.int (g i) s.toks) { s with toks := s.toks + 1 } → wpAny (model X.prog X.w) X.A (f (.int i t)) Q E s) :
    UnR X f (rU fun i => .int (g i)) := by
  intro pins s σ H x v Q I rx h
  obtain ⟨i, rfl, q⟩ := h
  obtain ⟨t, rfl⟩ := rx
  exact rule i t s _ _ ⟨.int (g i), H, I.tok _, ⟨_, rfl⟩, q⟩
theorem un_neg : UnR X (unaryOp .USub) (rU fun i => .int (-i)) := unI fun _ _ _ _ _ q => neg_int q
end

/-- the scalars that == tells apart as data does -/
def scal : V → V → Bool
  | .non, .non => true | .non, .int _ => true | .int _, .non => true | .non, .bl _ => true | .bl _, .non => true | .non, .str _ => true | .str _, .non => true
  | .int _, .int _ => true | .bl _, .bl _ => true | .str _, .str _ => true | .byt _, .byt _ => true
  | .int _, .str _ => true | .str _, .int _ => true | .bl _, .str _ => true | .str _, .bl _ => true
  | _, _ => false
def rEq : R2 := fun x y H Q => scal x y = true ∧ Q (.bl (decide (x = y))) H
def rNe : R2 := fun x y H Q => scal x y = true ∧ Q (.bl (!decide (x = y))) H

theorem dec_int {i j : Int} : decide (V.int i = V.int j) = (i == j) := by
  rw [Bool.eq_iff_iff]
  simp
theorem dec_bl {i j : Bool} : decide (V.bl i = V.bl j) = (i == j) := by
  rw [Bool.eq_iff_iff]
  simp
theorem dec_str {i j : Str} : decide (V.str i = V.str j) = (i == j) := by
  rw [Bool.eq_iff_iff]
  simp
theorem dec_byt {i j : Array UInt8} : decide (V.byt i = V.byt j) = (i.toList == j.toList) := by
  rw [Bool.eq_iff_iff]
  cases i
  cases j
  simp

section
variable {X : Cx} {a b c : Expr} {ta tb tc : TE} {pos : Pos}
theorem fin_bl {pins : List (Addr × Obj)} {σ : St} {H : Hp} {s : Shared} {Q : VK} {k k' : Bool} (I : Inv X pins σ H s) (q : Q (.bl k) H) (e : k = k') : EP X pins σ Q (.bool k') s := by
  subst e
  exact ⟨.bl k, H, I, rfl, q⟩
theorem op_eq : OpR X (compareOp .Eq) rEq := by
  intro pins s σ H x y v u Q I rx ry h
  obtain ⟨hs, q⟩ := h
  cases x with
  | non =>
    cases rx
    cases y with
    | non => cases ry; exact PySem.EqNone.eq_none_none (fin_bl I q (by simp))
    | bl j => cases ry; exact PySem.EqNone.eq_none_bool (fin_bl I q (by simp))
    | int j => obtain ⟨t', rfl⟩ := ry; exact PySem.EqNone.eq_none_int (fin_bl I q (by simp))
    | str j => obtain ⟨t', rfl⟩ := ry; exact PySem.EqNone.eq_none_str (fin_bl I q (by simp))
    | _ => exact absurd (show false = true from hs) Bool.false_ne_true
  | bl i =>
    cases rx
    cases y with
    | non => cases ry; exact PySem.EqNone.eq_bool_none (fin_bl I q (by simp))
    | bl j => cases ry; exact eq_bool (fin_bl I q dec_bl)
    | str j => obtain ⟨t', rfl⟩ := ry; exact PySem.EqMixed.eq_bool_str (fin_bl I q (by simp))
    | _ => exact absurd (show false = true from hs) Bool.false_ne_true
  | int i =>
    obtain ⟨t, rfl⟩ := rx
    cases y with
    | non => cases ry; exact PySem.EqNone.eq_int_none (fin_bl I q (by simp))
    | int j => obtain ⟨t', rfl⟩ := ry; exact eq_int (fin_bl I q dec_int)
    | str j => obtain ⟨t', rfl⟩ := ry; exact PySem.EqMixed.eq_int_str (fin_bl I q (by simp))
    | _ => exact absurd (show false = true from hs) Bool.false_ne_true
  | str i =>
    obtain ⟨t, rfl⟩ := rx
    cases y with
    | non => cases ry; exact PySem.EqNone.eq_str_none (fin_bl I q (by simp))
    | bl j => cases ry; exact PySem.EqMixed.eq_str_bool (fin_bl I q (by simp))
    | int j => obtain ⟨t', rfl⟩ := ry; exact PySem.EqMixed.eq_str_int (fin_bl I q (by simp))
    | str j => obtain ⟨t', rfl⟩ := ry; exact eq_str (fin_bl I q dec_str)
    | _ => exact absurd (show false = true from hs) Bool.false_ne_true
  | byt i =>
    obtain ⟨t, rfl⟩ := rx
    cases y with
    | byt j => obtain ⟨t', rfl⟩ := ry; exact PySem.W.eq_bytes (fin_bl I q dec_byt)
    | _ => exact absurd (show false = true from hs) Bool.false_ne_true
  | _ => cases y <;> exact absurd (show false = true from hs) Bool.false_ne_true
theorem op_ne : OpR X (compareOp .NotEq) rNe := by
  intro pins s σ H x y v u Q I rx ry h
  obtain ⟨hs, q⟩ := h
  cases x with
  | non =>
    cases rx
    cases y with
    | non => cases ry; exact PySem.EqNone.ne_none_none (fin_bl I q (by simp))
    | bl j => cases ry; exact PySem.EqNone.ne_none_bool (fin_bl I q (by simp))
    | int j => obtain ⟨t', rfl⟩ := ry; exact PySem.EqNone.ne_none_int (fin_bl I q (by simp))
    | str j => obtain ⟨t', rfl⟩ := ry; exact PySem.EqNone.ne_none_str (fin_bl I q (by simp))
    | _ => exact absurd (show false = true from hs) Bool.false_ne_true
  | bl i =>
    cases rx
    cases y with
    | non => cases ry; exact PySem.EqNone.ne_bool_none (fin_bl I q (by simp))
    | bl j => cases ry; exact ne_bool (fin_bl I q (congrArg not dec_bl))
    | str j => obtain ⟨t', rfl⟩ := ry; exact PySem.EqMixed.ne_bool_str (fin_bl I q (by simp))
    | _ => exact absurd (show false = true from hs) Bool.false_ne_true
  | int i =>
    obtain ⟨t, rfl⟩ := rx
    cases y with
    | non => cases ry; exact PySem.EqNone.ne_int_none (fin_bl I q (by simp))
    | int j => obtain ⟨t', rfl⟩ := ry; exact ne_int (fin_bl I q (congrArg not dec_int))
    | str j => obtain ⟨t', rfl⟩ := ry; exact PySem.EqMixed.ne_int_str (fin_bl I q (by simp))
    | _ => exact absurd (show false = true from hs) Bool.false_ne_true
  | str i =>
    obtain ⟨t, rfl⟩ := rx
    cases y with
    | non => cases ry; exact PySem.EqNone.ne_str_none (fin_bl I q (by simp))
    | bl j => cases ry; exact PySem.EqMixed.ne_str_bool (fin_bl I q (by simp))
    | int j => obtain ⟨t', rfl⟩ := ry; exact PySem.EqMixed.ne_str_int (fin_bl I q (by simp))
    | str j => obtain ⟨t', rfl⟩ := ry; exact ne_str (fin_bl I q (congrArg not dec_str))
    | _ => exact absurd (show false = true from hs) Bool.false_ne_true
  | byt i =>
    obtain ⟨t, rfl⟩ := rx
    cases y with
    | byt j => obtain ⟨t', rfl⟩ := ry; exact PySem.W.ne_bytes (fin_bl I q (congrArg not dec_byt))
    | _ => exact absurd (show false = true from hs) Bool.false_ne_true
  | _ => cases y <;> exact absurd (show false = true from hs) Bool.false_ne_true

theorem op_lt : OpR X (compareOp .Lt) (rI0 fun i j => .bl (decide (i < j))) := opB0 fun _ _ _ _ _ _ _ q => lt_int q
theorem op_gt : OpR X (compareOp .Gt) (rI0 fun i j => .bl (decide (j < i))) := opB0 fun _ _ _ _ _ _ _ q => gt_int q
theorem op_ge : OpR X (compareOp .GtE) (rI0 fun i j => .bl (decide (j ≤ i))) := opB0 fun _ _ _ _ _ _ _ q => ge_int q
theorem nomark (b : Expr) {op : CmpOp} (h : op ≠ .In := by decide) (h2 : op ≠ .NotIn := by decide) : behindInMarks op b = false := by
  have e1 : (op == CmpOp.In) = false := by cases op <;> first | rfl | exact absurd rfl h
  have e2 : (op == CmpOp.NotIn) = false := by cases op <;> first | rfl | exact absurd rfl h2
  cases b <;> simp [behindInMarks, e1, e2]
/-- a comparison as a value; hm: nomark b, or (for in, not in) by with_unfolding_all rfl -/
theorem pe_cmpR {op : CmpOp} {r : R2} (ho : OpR X (compareOp op) r) (ha : PE X a ta) (hb : PE X b tb) (hm : behindInMarks op b = false) : PE X (.Compare a [op] [b] pos) (tOp r ta tb) := by
  intro pins s σ H Q I h
  exact wpAny_Compare1 (binT ha hb I h fun v u s2 x y H2 I2 rx ry q => ho pins s2 σ H2 x y v u Q I2 rx ry q) hm
/-- a reading of a value as a test -/
def tTest (t : TE) : TT := fun σ H Q => t σ H fun x H' => ∃ k, x = .bl k ∧ Q k H'
theorem pt_cmpR {op : CmpOp} {r : R2} (ho : OpR X (compareOp op) r) (ha : PE X a ta) (hb : PE X b tb) (hm : behindInMarks op b = false) : PT X (.Compare a [op] [b] pos) (tTest (tOp r ta tb)) := by
  intro pins s σ H Q I h
  refine wpAny_isTrue_Compare1 (thn (ha pins s σ H _ I h) fun v s1 ⟨x, H1, I1, r1, q1⟩ => thn (hb pins s1 σ H1 _ I1 q1) fun u s2 ⟨y, H2, I2, r2, q2⟩ =>
    thn (ho pins s2 σ H2 x y v u _ I2 r1 r2 q2) fun c s3 ⟨z, H3, I3, r3, k, e, q3⟩ => ?_) hm
  subst e
  cases r3
  exact wpAny_truthy_bool ⟨H3, I3, q3⟩
/-- a op1 b op2 c -/
def tChain (r r' : R2) (ta tb tc : TE) : TE := fun σ H Q => ta σ H fun x H1 => tb σ H1 fun y H2 => r x y H2 fun z H3 => ∃ k, z = .bl k ∧
  (if k = true then tc σ H3 fun w' H4 => r' y w' H4 Q else Q (.bl false) H3)
theorem line63 : (sizeLine : Nat) < 2 ^ 63 := by rw [sizeLine_eq]; decide
theorem vals1 {x : V} {us : List Value} (r : Vals [x] us) : ∃ u, us = [u] ∧ RelV x u := by
  cases r with
  | cons r1 r2 => cases r2; exact ⟨_, rfl, r1⟩
theorem vals2 {x y : V} {us : List Value} (r : Vals [x, y] us) : ∃ u w', us = [u, w'] ∧ RelV x u ∧ RelV y w' := by
  cases r with
  | cons r1 r2 =>
    cases r2 with
    | cons r3 r4 => cases r4; exact ⟨_, _, rfl, r1, r3⟩
theorem call_abs : CallR X (.builtin "abs") (fun xs H Q => ∃ i, xs = [.int i] ∧ Q (.int (if i < 0 then -i else i)) H) := by
  intro pins s σ H xs us Q I r h
  obtain ⟨i, rfl, q⟩ := h
  obtain ⟨u, rfl, t, rfl⟩ := vals1 r
  exact call_abs_int fun u tk => ⟨.int (if i < 0 then -i else i), H, I.tok _, ⟨_, rfl⟩, q⟩
theorem call_max2 (hc : X.calm = true) : CallR X (.builtin "max") (fun xs H Q => ∃ i j, xs = [.int i, .int j] ∧ Q (.int (if j > i then j else i)) H) := by
  intro pins s σ H xs us Q I r h
  obtain ⟨i, j, rfl, q⟩ := h
  obtain ⟨u, w', rfl, ⟨t, rfl⟩, ⟨t', rfl⟩⟩ := vals2 r
  refine max_two_ints (I.ok.hd hc) fun h' tk k => ⟨_, H, I.kept k, ?_, q⟩
  by_cases hj : j > i
  · rw [if_pos hj, if_pos hj]; exact ⟨_, rfl⟩
  · rw [if_neg hj, if_neg hj]; exact ⟨_, rfl⟩
theorem call_int1 : CallR X (.type "int") (fun xs H Q => (∃ i, xs = [.int i] ∧ Q (.int i) H) ∨ ∃ k, xs = [.bl k] ∧ Q (.int (if k then 1 else 0)) H) := by
  intro pins s σ H xs us Q I r h
  rcases h with ⟨i, rfl, q⟩ | ⟨k, rfl, q⟩
  · obtain ⟨u, rfl, t, rfl⟩ := vals1 r
    exact call_int_int ⟨.int i, H, I, ⟨_, rfl⟩, q⟩
  · obtain ⟨u, rfl, r1⟩ := vals1 r
    cases r1
    exact call_int_bool ⟨.int (if k then 1 else 0), H, I.tok _, ⟨_, rfl⟩, q⟩
/-- len of a str, a bytes, a list, a tuple -/
def LenV (K : PySem.W.Frag) (x : V) (H : Hp) (n : Nat) : Prop :=
  match x with
  | .str y => y.length ≤ sizeLine ∧ n = y.length
  | .byt y => y.size ≤ sizeLine ∧ n = y.size
  | .ref p => (∃ xs, SqL K H p xs ∧ n = xs.length) ∨ ∃ xs, SqT K H p xs ∧ n = xs.length
  | _ => False
theorem call_len : CallR X (.builtin "len") (fun xs H Q => ∃ x n, xs = [x] ∧ LenV X.K x H n ∧ Q (.int n) H) := by
  intro pins s σ H xs us Q I r h
  obtain ⟨x, n, rfl, e, q⟩ := h
  obtain ⟨u, rfl, rx⟩ := vals1 r
  have hl := line63
  have hs : sizeLine = 16777216 := sizeLine_eq
  cases x with
  | str y =>
    obtain ⟨t, rfl⟩ := rx
    obtain ⟨hy, e'⟩ : y.length ≤ sizeLine ∧ n = y.length := e
    subst e'
    exact len_str (by omega) ⟨.int _, H, I.tok _, ⟨_, rfl⟩, q⟩
  | byt y =>
    obtain ⟨t, rfl⟩ := rx
    obtain ⟨hy, e'⟩ : y.size ≤ sizeLine ∧ n = y.size := e
    subst e'
    exact PySem.W.len_bytes (by omega) ⟨.int _, H, I.tok _, ⟨_, rfl⟩, q⟩
  | ref p =>
    cases rx
    have e' : (∃ xs, SqL X.K H p xs ∧ n = xs.length) ∨ ∃ xs, SqT X.K H p xs ∧ n = xs.length := e
    rcases e' with ⟨xs, hx, e'⟩ | ⟨xs, hx, e'⟩
    · subst e'
      obtain ⟨its, r', pl, hz⟩ := I.list hx
      have hlen := r'.length
      exact Calls.call_len_list pl.isList (by simp only [List.size_toArray]; omega) ⟨.int xs.length, H, I.tok _, ⟨_, by simp only [List.size_toArray]; rw [hlen]⟩, q⟩
    · subst e'
      obtain ⟨its, r', pl, hz⟩ := I.tuple hx
      have hlen := r'.length
      exact len_tuple pl (by simp only [List.size_toArray]; omega) ⟨.int xs.length, H, I.tok _, ⟨_, by simp only [List.size_toArray]; rw [hlen]⟩, q⟩
  | _ => exact (show False from e).elim
end
end L2

namespace L2
open PySem PySem.Spec PyProof.Rows

structure ObjM (h : Heap) (x dx C : Addr) (mA : Str → Option Value) : Prop where
  obj : h.get? x = some (PySem.W.instObj C dx)
  ns : h.Ns1 dx mA
  ne : dx ≠ x

theorem lookIn_ns {h : Heap} {dx : Addr} {mA : Str → Option Value} (n : h.Ns1 dx mA) : ∃ od, h.get? dx = some od ∧ ∀ name, PySem.W.lookIn name od = some (mA name) := by
  obtain ⟨o, es, ep, ho, hd, hk, _, hm⟩ := n
  refine ⟨o, ho, fun name => ?_⟩
  have e := hm name
  unfold nsFind findBy at e
  rw [← Array.find?_toList] at e
  unfold PySem.W.lookIn
  rw [hd]
  dsimp only
  split
  · rename_i y q
    rw [q] at e
    exact congrArg some e
  · rename_i q
    rw [q] at e
    have a : es.toList.any (·.refKey) = false := by
      rw [List.any_eq_false]
      intro y hy
      obtain ⟨z, t, hkey⟩ := hk y (Array.mem_toList_iff.mp hy)
      simp [DictEntry.refKey, hkey]
    have a' : ¬ es.toList.any (·.refKey) = true := by rw [a]; exact Bool.false_ne_true
    rw [if_neg a']
    exact congrArg some e

theorem ObjM.look {h : Heap} {x dx C : Addr} {mA : Str → Option Value} (I : ObjM h x dx C mA) : ∃ od, PySem.W.InstAt h x (PySem.W.instObj C dx) C (some od) ∧ ∀ name, PySem.W.lookIn name od = some (mA name) :=
  let ⟨od, ho, hl⟩ := lookIn_ns I.ns
  ⟨od, ⟨I.obj, rfl, rfl, ho⟩, hl⟩

section
variable {prog : Program} {w : World} {A : Around} {E : Value → Shared → Prop} {s : Shared} {K : PySem.W.Frag} {x dx C f : Addr} {mA : Str → Option Value} {name : Str} {v : Value}

theorem get_map {expr : Bool} {Q : Value → Shared → Prop} (X : K.In s.heap) (I : ObjM s.heap x dx C mA) (hg : PySem.W.plainGet K C name = true) (hh : PySem.W.hasDictIn K C = true)
    (ha : PySem.W.findIn K (.ref C) name = some none) (hv : mA name = some v) (hv' : PySem.W.handedIn v = true) (h : Q v { s with toks := s.toks + 1 }) :
    wpAny (model prog w) A (getAttr (.ref x) name expr) Q E s := by
  obtain ⟨od, J, hl⟩ := I.look
  exact PySem.W.get_value X J (PySem.W.plainGet_of hg).1 (PySem.W.findObj_own hh ha rfl (by rw [hl, hv])) hv' h

theorem get_meth {pl : Sem Bool} {Q : Value × List Value → Shared → Prop} (X : K.In s.heap) (I : ObjM s.heap x dx C mA) (hg : PySem.W.plainGet K C name = true)
    (hf : PySem.W.findIn K (.ref C) name = some (some (.ref f))) (ht : PySem.W.isFn K (.ref f) = true) (hv : mA name = none) (h : Q (.ref f, [.ref x]) s) :
    wpAny (model prog w) A (getMethod (.ref x) name pl) Q E s := by
  obtain ⟨od, J, hl⟩ := I.look
  exact PySem.W.method_fn X J (PySem.W.plainGet_of hg).1 (PySem.W.plainGet_of hg).2 hf (beq_iff_eq.mp ht) (by show (PySem.W.lookIn name od).map (·.isSome) = some false; rw [hl, hv]; rfl) h

theorem set_map {ns : List Str} {Q : Unit → Shared → Prop} (X : K.In s.heap) (I : ObjM s.heap x dx C mA)
    (hs : PySem.W.findIn K (.ref C) "__setattr__" = some (some (.builtin "object.__setattr__"))) (hp : PySem.W.plainOver K C = true) (ht : PySem.W.takerIn K C name = some none) (hh : PySem.W.hasDictIn K C = true)
    (hw : PySem.Within mA ns) (hsz : ns.length ≤ sizeLine)
    (h : ∀ h', ObjM h' x dx C (fun y => if y = name then some v else mA y) → Heap.SameBut dx s.heap h' → Q () { s with heap := h', toks := s.toks + 2 }) :
    wpAny (model prog w) A (setAttr (.ref x) name v) Q E s := by
  obtain ⟨od, J, hl⟩ := I.look
  refine PySem.W.set_plain X J hs (PySem.W.osa_open (s := { s with toks := s.toks + 1 }) (r := none) X J hp ht fun b => ?_)
  obtain ⟨cd, hc, hd'⟩ := PySem.W.any_some hh
  have hx : s.heap.get? x = some ⟨.ref C, some dx, .plain, #[]⟩ := I.obj
  refine wpAny_bind (wpAny_pure (wpAny_bind (wpAny_bind (wpAny_loadPart hx (wpAny_bind (PySem.W.Looks.here (s := { s with toks := s.toks + 1 }) (PySem.W.looks_clsIn X hc) ?_))))))
  rw [hd']
  refine wpAny_pure (a := some dx) (wpAny_bind (wpAny_pure (wpAny_bind ?_)))
  refine wpAny_nsSet1 (s := { s with toks := s.toks + 1 }) I.ns fun h' hn2 hs2 => ?_
  obtain ⟨oD, esD, epD, hoD, hdD, hcD⟩ := hn2.count (PySem.Within.cons name v hw)
  refine wpAny_bind (wpAny_lookBehind hoD (by rw [hdD]; exact pastItsLine_dict (Nat.le_trans hcD (by rw [List.length_cons]; omega))) ?_)
  exact wpAny_pure (h _ ⟨(hs2.2 _ (Ne.symm I.ne)).trans I.obj, hn2, I.ne⟩ hs2)

/-- C(..): the dict at the heap's end, the instance behind it; then its __init__ -/
theorem make_map {R : Result → Shared → Prop} {vs : List Value} {kw : List (Str × Value)} (X : K.In s.heap) (hm : PySem.W.makesIn K C = true)
    (hi : PySem.W.findIn K (.ref C) "__init__" = some (some (.ref f))) (hf : PySem.W.typeIn K (.ref f) = some (.type "function"))
    (h : codeAny (model prog w) (A.under (.builtin "type.__call__" ⟨.ref C :: vs, kw⟩)) (.call (.ref f) ⟨.ref (s.heap.objs.size + 1) :: vs, kw⟩) (PySem.W.InitBack (s.heap.objs.size + 1) R)
      { s with heap := (s.heap.push PySem.W.emptyDict).push (PySem.W.instObj C s.heap.objs.size) }) :
    codeAny (model prog w) A (.call (.ref C) ⟨vs, kw⟩) R s := by
  obtain ⟨hh, g, d, t, os⟩ := s
  exact PySem.W.make_core (PySem.W.makes_of X hm) (PySem.W.looks_findIn X hi) (fun self => PySem.W.bind_fn X self hf) (.inl rfl) h
end

def putF (f : Str) (v : V) : List (Str × V) → List (Str × V)
  | [] => [(f, v)]
  | (g, x) :: r => if g = f then (g, v) :: r else (g, x) :: putF f v r
theorem lookup_putF (f g : Str) (v : V) : ∀ fs : List (Str × V), (putF f v fs).lookup g = if g = f then some v else fs.lookup g
  | [] => by
    show List.lookup g [(f, v)] = _
    by_cases h : g = f
    · have hb : (g == f) = true := beq_iff_eq.mpr h
      simp only [List.lookup, hb, if_pos h]
    · have hb : (g == f) = false := beq_eq_false_iff_ne.mpr h
      simp only [List.lookup, hb, if_neg h]
  | (k, x) :: r => by
    have ih := lookup_putF f g v r
    rw [show putF f v ((k, x) :: r) = (if k = f then (k, v) :: r else (k, x) :: putF f v r) from rfl]
    by_cases hk : k = f
    · rw [if_pos hk]
      by_cases h : g = k
      · have hb : (g == k) = true := beq_iff_eq.mpr h
        simp only [List.lookup, hb, if_pos (h.trans hk)]
      · have hb : (g == k) = false := beq_eq_false_iff_ne.mpr h
        simp only [List.lookup, hb, if_neg (fun e : g = f => h (e.trans hk.symm))]
    · rw [if_neg hk]
      by_cases h : g = k
      · have hb : (g == k) = true := beq_iff_eq.mpr h
        simp only [List.lookup, hb, if_neg (fun e : g = f => hk (h.symm.trans e))]
      · have hb : (g == k) = false := beq_eq_false_iff_ne.mpr h
        simp only [List.lookup, hb]
        exact ih
theorem keys_putF (f : Str) (v : V) : ∀ fs : List (Str × V), f ∈ (putF f v fs).map (·.1) ∧ ∀ g, g ∈ fs.map (·.1) → g ∈ (putF f v fs).map (·.1)
  | [] => ⟨by simp [putF], fun g h => by simp at h⟩
  | (k, x) :: r => by
    obtain ⟨i1, i2⟩ := keys_putF f v r
    rw [show putF f v ((k, x) :: r) = (if k = f then (k, v) :: r else (k, x) :: putF f v r) from rfl]
    by_cases hk : k = f
    · rw [if_pos hk]
      subst hk
      exact ⟨by simp, fun g h => by simpa using h⟩
    · rw [if_neg hk]
      refine ⟨?_, fun g h => ?_⟩
      · rw [List.map_cons]
        exact List.mem_cons_of_mem _ i1
      · rw [List.map_cons] at h ⊢
        rcases List.mem_cons.mp h with e | e
        · exact List.mem_cons.mpr (.inl e)
        · exact List.mem_cons_of_mem _ (i2 g e)
theorem length_putF (f : Str) (v : V) : ∀ fs : List (Str × V), (putF f v fs).length ≤ fs.length + 1
  | [] => by simp [putF]
  | (k, x) :: r => by
    have ih := length_putF f v r
    rw [show putF f v ((k, x) :: r) = (if k = f then (k, v) :: r else (k, x) :: putF f v r) from rfl]
    by_cases hk : k = f
    · rw [if_pos hk, List.length_cons, List.length_cons]; omega
    · rw [if_neg hk, List.length_cons, List.length_cons]; omega

theorem RelO.some_of {v : V} {o : Option Value} (r : RelO (some v) o) : ∃ u, o = some u ∧ RelV v u := by
  cases o with
  | none => exact (show False from r).elim
  | some u => exact ⟨u, rfl, r⟩
theorem RelO.none_of {o : Option Value} (r : RelO none o) : o = none := by
  cases o with
  | none => rfl
  | some u => exact (show False from r).elim
theorem handed_of {v : V} {u : Value} (r : RelV v u) : PySem.W.handedIn u = true := by
  cases v with
  | non => cases (show u = Value.none from r); rfl
  | bl b => cases (show u = Value.bool b from r); rfl
  | int i => obtain ⟨t, e⟩ := (show ∃ t, u = Value.int i t from r); cases e; rfl
  | str x => obtain ⟨t, e⟩ := (show ∃ t, u = Value.str x t from r); cases e; rfl
  | byt b => obtain ⟨t, e⟩ := (show ∃ t, u = Value.bytes b t from r); cases e; rfl
  | flt b => obtain ⟨t, e⟩ := (show ∃ t, u = Value.float b t from r); cases e; rfl
  | ref a => cases (show u = Value.ref a from r); rfl
  | ty n => cases (show u = Value.type n from r); rfl

section
variable {P : Program} {w : World} {H H' : Hp} {h h' : Heap} {a C dx : Addr} {fs fs' : List (Str × V)}
theorem ins_get (hok : HOk P w H h) (e : H a = some (.ins C dx fs)) : ∃ mA, ObjM h a dx C mA ∧ (∀ f, RelO (fs.lookup f) (mA f)) ∧ PySem.Within mA (fs.map (·.1)) ∧ fs.length ≤ 1000 ∧ H dx = some (.own a) := by
  obtain ⟨d, z, ne, ob, mA, n, r, q⟩ := (show ObjOk P w H h a (.ins C dx fs) from hok a _ e)
  exact ⟨mA, ⟨ob, n, ne⟩, r, q, z, d⟩
end

structure Cls (K : PySem.W.Frag) (C : Addr) : Prop where
  pg : PySem.W.plainGet K C Str.empty = true
  hd : PySem.W.hasDictIn K C = true
  po : PySem.W.plainOver K C = true
  sa : PySem.W.findIn K (.ref C) "__setattr__" = some (some (.builtin "object.__setattr__"))
theorem Cls.get {K : PySem.W.Frag} {C : Addr} (c : Cls K C) (f : Str) : PySem.W.plainGet K C f = true := c.pg
/-- no class of it has the name -/
def NoAttr (K : PySem.W.Frag) (C : Addr) (f : Str) : Prop := PySem.W.findIn K (.ref C) f = some none
theorem NoAttr.taker {K : PySem.W.Frag} {C : Addr} {f : Str} (n : NoAttr K C f) : PySem.W.takerIn K C f = some none := by
  unfold PySem.W.takerIn
  rw [show PySem.W.findIn K (.ref C) f = some none from n]
  rfl
/-- a method: a plain def of the class or of one above it -/
structure Meth (K : PySem.W.Frag) (C : Addr) (m : Str) (f : Addr) : Prop where
  at_ : PySem.W.findIn K (.ref C) m = some (some (.ref f))
  fn : PySem.W.isFn K (.ref f) = true
  kp : PySem.W.keepIn K (.ref f) = true

section
variable {X : Cx} {pins : List (Addr × Obj)} {σ : St} {H : Hp} {s : Shared} {a C dx : Addr} {fs : List (Str × V)} {f : Str} {v : V} {A : Around} {E : Value → Shared → Prop}

theorem getattr_ok {b : Bool} {Q : Value → Shared → Prop} (I : Inv X pins σ H s) (e : H a = some (.ins C dx fs)) (c : Cls X.K C) (n : NoAttr X.K C f) (l : fs.lookup f = some v)
    (h : ∀ u s', Inv X pins σ H s' → RelV v u → Q u s') : wpAny (model X.prog X.w) A (getAttr (.ref a) f b) Q E s := by
  obtain ⟨mA, O, r, _, _, _⟩ := ins_get I.hok e
  obtain ⟨u, hu, ru⟩ := RelO.some_of (v := v) (o := mA f) (by rw [← l]; exact r f)
  exact get_map I.kIn O (c.get f) c.hd n hu (handed_of ru) (h u _ (I.tok _) ru)

theorem getmeth_ok {m : Str} {g : Addr} {pl : Sem Bool} {Q : Value × List Value → Shared → Prop} (I : Inv X pins σ H s) (e : H a = some (.ins C dx fs)) (c : Cls X.K C) (k : Meth X.K C m g) (l : fs.lookup m = none)
    (h : Q (.ref g, [.ref a]) s) : wpAny (model X.prog X.w) A (getMethod (.ref a) m pl) Q E s := by
  obtain ⟨mA, O, r, _, _, _⟩ := ins_get I.hok e
  have hn : mA m = none := RelO.none_of (by rw [← l]; exact r m)
  exact get_meth I.kIn O (c.get m) k.at_ k.fn hn h

theorem setattr_ok {y : V} {u : Value} {Q : Unit → Shared → Prop} (I : Inv X pins σ H s) (e : H a = some (.ins C dx fs)) (c : Cls X.K C) (n : NoAttr X.K C f) (hl : fs.length < 1000) (ry : RelV y u)
    (h : ∀ s', Inv X pins σ (upd H a (.ins C dx (putF f y fs))) s' → Q () s') : wpAny (model X.prog X.w) A (setAttr (.ref a) f u) Q E s := by
  obtain ⟨mA, O, r, wi, _, ho⟩ := ins_get I.hok e
  have hz : (fs.map (·.1)).length ≤ sizeLine := by rw [List.length_map, sizeLine_eq]; omega
  refine set_map I.kIn O c.sa c.po n.taker c.hd wi hz fun h' O' sb => h _ ?_
  have hd : ∃ o, h'.get? dx = some o := let ⟨o, _, _, e', _⟩ := O'.ns; ⟨o, e'⟩
  refine I.write (x := a) (e := dx) (by rw [e]; exact True.intro) (.inr ho) (fun b q hb z => (sb.2 b hb).trans z) hd ?_
  refine ⟨by rw [upd_ne O.ne]; exact ho, ?_, O.ne, O'.obj, _, O'.ns, fun g => ?_, fun g hg => ?_⟩
  · have := length_putF f y fs; omega
  · show RelO ((putF f y fs).lookup g) (if g = f then some u else mA g)
    rw [lookup_putF]
    by_cases q : g = f
    · rw [if_pos q, if_pos q]; exact ry
    · rw [if_neg q, if_neg q]; exact r g
  · by_cases q : g = f
    · rw [q]; exact (keys_putF f y fs).1
    · refine (keys_putF f y fs).2 g (wi g fun z => hg ?_)
      show (if g = f then some u else mA g) = none
      rw [if_neg q]; exact z

/-- a new instance, tracked, without attributes -/
theorem Inv.made (I : Inv X pins σ H s) : Inv X pins σ (upd (upd H s.heap.objs.size (.own (s.heap.objs.size + 1))) (s.heap.objs.size + 1) (.ins C s.heap.objs.size []))
    { s with heap := (s.heap.push PySem.W.emptyDict).push (PySem.W.instObj C s.heap.objs.size) } := by
  have e1 : (s.heap.push PySem.W.emptyDict).get? s.heap.objs.size = some PySem.W.emptyDict := Heap.get?_push_size s.heap rfl
  have e2 : ((s.heap.push PySem.W.emptyDict).push (PySem.W.instObj C s.heap.objs.size)).get? (s.heap.objs.size + 1) = some (PySem.W.instObj C s.heap.objs.size) := by
    have := Heap.get?_push_size (s.heap.push PySem.W.emptyDict) (o := PySem.W.instObj C s.heap.objs.size) rfl
    rwa [Heap.size_push] at this
  have e3 : (s.heap.push PySem.W.emptyDict).Ns s.heap.objs.size (fun _ => none) := ⟨PySem.W.emptyDict, #[], _, e1, rfl, (fun e he => absurd he (by simp)), fun _ => rfl⟩
  have I1 := I.laid (a := s.heap.objs.size) (o := .own (s.heap.objs.size + 1)) (h' := s.heap.push PySem.W.emptyDict) (t' := s.toks) (fun b u q => Heap.get?_push_of_some _ q) (Nat.le_refl _) ⟨_, e1⟩
  refine I1.laid (a := s.heap.objs.size + 1) (o := .ins C s.heap.objs.size []) (t' := s.toks) (fun b u q => Heap.get?_push_of_some _ q) (Nat.le_of_eq (Heap.size_push _ _)) ?_
  have ne : s.heap.objs.size ≠ s.heap.objs.size + 1 := Nat.ne_of_lt (Nat.lt_succ_self _)
  refine ⟨by rw [upd_ne ne, upd_same], Nat.zero_le _, ne, e2, fun _ => none, (Heap.Ns1.of_empty e3).at fun o q => Heap.get?_push_of_some _ q, fun _ => True.intro, fun y hy => absurd rfl hy⟩

/-- e.f where nothing but the object is asked: through attributeBase (super) and the last hold -/
theorem attr_of {prog : Program} {w : World} {env : Env} {e : Expr} {f : Str} {pos : Pos} {s : Shared} {Q : Value → Shared → Prop} (hb : attributeBase e f env (eval e env) = eval e env)
    (h : wpAny (model prog w) A (eval e env) (fun o s₁ => wpAny (model prog w) A (getAttr o f true) Q E s₁) E s) : wpAny (model prog w) A (eval (.Attribute e f pos) env) Q E s :=
  Attribute_any_ h (by rw [arm_eval_Attribute, hb])
end

/-- e.f, an attribute of the instance -/
def tFld (K : PySem.W.Frag) (ta : TE) (f : Str) : TE := fun σ H Q => ta σ H fun x H1 => ∃ a C dx fs v, x = .ref a ∧ H1 a = some (.ins C dx fs) ∧ Cls K C ∧ NoAttr K C f ∧ fs.lookup f = some v ∧ Q v H1
/-- e.f = value -/
def sFld (K : PySem.W.Frag) (ta tv : TE) (f : Str) : TS := fun D σ H => tv σ H fun y H1 => ta σ H1 fun x H2 => ∃ a C dx fs, x = .ref a ∧ H2 a = some (.ins C dx fs) ∧ Cls K C ∧ NoAttr K C f ∧ fs.length < 1000 ∧
  D.nx σ (upd H2 a (.ins C dx (putF f y fs)))
section
variable {X : Cx} {o e value : Expr} {f : Str} {pos pos' tpos : Pos} {ta tv : TE}
theorem pe_fld (he : PE X e ta) (hb : attributeBase e f X.env (eval e X.env) = eval e X.env) : PE X (.Attribute e f pos) (tFld X.K ta f) := by
  intro pins s σ H Q I h
  refine attr_of hb (thn (he pins s σ H _ I h) fun u s1 ⟨x, H1, I1, rx, a, C, dx, fs, v, ex, ea, c, n, l, q⟩ => ?_)
  subst ex
  obtain rfl : u = Value.ref a := rx
  exact getattr_ok I1 ea c n l fun u' s2 I2 ru => ⟨v, H1, I2, ru, q⟩
theorem ps_fld (ha : PE X o ta) (hv : PE X value tv) (hs : swapsWith value (some (.Attribute o f pos')) pos.line X.env = pure false) : PS X (.Assign [.Attribute o f pos'] value pos) (sFld X.K ta tv f) := by
  intro pins s σ H D I h
  refine plainObj_wpAny_Assign_Attribute (thn (hv pins s σ H _ I h) fun u s1 ⟨y, H1, I1, ry, q⟩ => thn (ha pins s1 σ H1 _ I1 q) fun ov s2 ⟨x, H2, I2, rx, a, C, dx, fs, ex, ea, c, n, l, q2⟩ => ?_) hs
  subst ex
  obtain rfl : ov = Value.ref a := rx
  exact setattr_ok I2 ea c n l ry fun s3 I3 => ⟨σ, _, I3, q2⟩
end

section
variable {X : Cx} {pins : List (Addr × Obj)} {σ : St} {H : Hp} {s : Shared} {A : Around} {E : Value → Shared → Prop} {Q : Value → Shared → Prop} {c : Value} {b : Bool}
/-- the type of a value, as the fragment's deciders take it; for an instance its class -/
inductive TyOf (K : PySem.W.Frag) (H : Hp) : V → Value → Prop where
  | non : TyOf K H .non (.type "NoneType")
  | bl (x : Bool) : TyOf K H (.bl x) (.type "bool")
  | int (i : Int) : TyOf K H (.int i) (.type "int")
  | str (x : Str) : TyOf K H (.str x) (.type "str")
  | flt (x : UInt64) : TyOf K H (.flt x) (.type "float")
  | lst {a : Addr} {xs : List V} (e : H a = some (.lst xs)) : TyOf K H (.ref a) (.type "list")
  | frz {a : Addr} {o : Obj} {xs : List V} (e : H a = some (.frz o (.lst xs))) : TyOf K H (.ref a) (.type "list")
  | tup {a : Addr} {xs : List V} (e : H a = some (.tup xs)) : TyOf K H (.ref a) (.type "tuple")
  | dK {a : Addr} {kvs : List (Key × V)} (e : H a = some (.dK kvs)) : TyOf K H (.ref a) (.type "dict")
  | dT {a : Addr} {kvs : List (List Key × V)} (e : H a = some (.dT kvs)) : TyOf K H (.ref a) (.type "dict")
  | ins {a C dx : Addr} {fs : List (Str × V)} (e : H a = some (.ins C dx fs)) (cl : Cls K C) (ha : PySem.W.findIn K (.ref C) "__class__" = some (some (.builtin "object.__class__")))
      (hn : PySem.W.specialIn K (.builtin "object.__class__") "__get__" = some (some (.builtin "getset_descriptor.__get__"))) (htk : PySem.W.takesIn K (.builtin "object.__class__") = some true)
      (hm : PySem.W.mroIn K C (.type "object") = some true) : TyOf K H (.ref a) (.ref C)
/-- isinstance(x, c) for one class c, a built-in or an own one: kitOne's answer -/
theorem isinst_ok {x : V} {u t : Value} (I : Inv X pins σ H s) (rx : RelV x u) (ty : TyOf X.K H x t) (e : PySem.W.kitOne X.K t c = some b) (h : ∀ tk, Q (.bool b) { s with toks := tk }) :
    wpAny (model X.prog X.w) A (call (.builtin "isinstance") [u, c]) Q E s := by
  cases ty with
  | non => cases (show u = Value.none from rx); exact PySem.W.kia_one PySem.W.kitx_none I.kIn True.intro e (fun z => nomatch z) h
  | bl y => cases (show u = Value.bool y from rx); exact PySem.W.kia_one PySem.W.kitx_bool I.kIn True.intro e (fun z => nomatch z) h
  | int i => obtain ⟨t, q⟩ := (show ∃ t, u = Value.int i t from rx); cases q; exact PySem.W.kia_one PySem.W.kitx_int I.kIn True.intro e (fun z => nomatch z) h
  | str y => obtain ⟨t, q⟩ := (show ∃ t, u = Value.str y t from rx); cases q; exact PySem.W.kia_one PySem.W.kitx_str I.kIn True.intro e (fun z => nomatch z) h
  | flt y => obtain ⟨t, q⟩ := (show ∃ t, u = Value.float y t from rx); cases q; exact PySem.W.kia_one PySem.W.kitx_float I.kIn True.intro e (fun z => nomatch z) h
  | @lst a xs ea =>
    cases (show u = Value.ref a from rx)
    obtain ⟨_, _, n, _, h1⟩ := (show ObjOk X.prog X.w H s.heap a (.lst xs) from I.hok a _ ea)
    exact PySem.W.kia_one PySem.W.kitx_list I.kIn ⟨_, h1, rfl⟩ e (fun z => nomatch z) h
  | @frz a ob xs ea =>
    cases (show u = Value.ref a from rx)
    obtain ⟨_, _, _, n, _, h1⟩ := (show ObjOk X.prog X.w H s.heap a (.frz ob (.lst xs)) from I.hok a _ ea)
    exact PySem.W.kia_one PySem.W.kitx_list I.kIn ⟨_, h1, rfl⟩ e (fun z => nomatch z) h
  | @tup a xs ea =>
    cases (show u = Value.ref a from rx)
    obtain ⟨_, _, _, p⟩ := (show ObjOk X.prog X.w H s.heap a (.tup xs) from I.hok a _ ea)
    obtain ⟨o, h1, h2, _⟩ := p
    exact PySem.W.kia_one PySem.W.kitx_tuple I.kIn ⟨o, h1, h2⟩ e (fun z => nomatch z) h
  | @dK a kvs ea =>
    cases (show u = Value.ref a from rx)
    obtain ⟨_, _, vs, _, p⟩ := (show ObjOk X.prog X.w H s.heap a (.dK kvs) from I.hok a _ ea)
    obtain ⟨o, es, ep, h1, h2, _⟩ := p
    exact PySem.W.kia_one PySem.W.kitx_dict I.kIn ⟨o, h1, h2.1⟩ e (fun z => nomatch z) h
  | @dT a kvs ea =>
    cases (show u = Value.ref a from rx)
    obtain ⟨_, _, xs, _, o, es, ep, h1, h2, _⟩ := (show ObjOk X.prog X.w H s.heap a (.dT kvs) from I.hok a _ ea)
    exact PySem.W.kia_one PySem.W.kitx_dict I.kIn ⟨o, h1, h2.1⟩ e (fun z => nomatch z) h
  | @ins a C dx fs ea cl ha hn htk hm =>
    cases (show u = Value.ref a from rx)
    obtain ⟨mA, O, _⟩ := ins_get I.hok ea
    obtain ⟨od, J, _⟩ := O.look
    exact PySem.W.kia_one (PySem.W.kitx_own (cl.get _) cl.hd ha hn htk hm) I.kIn J e (fun z => nomatch z) h
end
end L2

namespace L2
open PySem PySem.Spec PyProof.Rows

structure Room (k : Nat) (A : Around) : Prop where
  hd : A.handled = none
  dp : A.depth + 3 * k + 5 < recursionLimit
  un : A.units + 16 * k + 200 < cLine
theorem Room.mono {j k : Nat} {A : Around} (r : Room k A) (h : j ≤ k) : Room j A := ⟨r.hd, by have := r.dp; omega, by have := r.un; omega⟩
theorem Room.deeper {k : Nat} {A : Around} (r : Room (k + 1) A) (env : Env) : Room k (A.deeper env) :=
  ⟨r.hd, by have := r.dp; show A.depth + 1 + 3 * k + 5 < _; omega, by have := r.un; show A.units + 3 + 16 * k + 200 < _; omega⟩
theorem make_depth {A : Around} {C : Addr} {us : List Value} {kw : List (Str × Value)} : (A.under (.builtin "type.__call__" ⟨.ref C :: us, kw⟩)).depth = A.depth + 1 := by
  first | rfl | simp [Around.under, Code.weight, Code.isCreation, Code.isGuard, Code.isCaller, Code.frames, Code.isFrame, guardIds]
theorem make_units {A : Around} {C : Addr} {us : List Value} {kw : List (Str × Value)} : (A.under (.builtin "type.__call__" ⟨.ref C :: us, kw⟩)).units = A.units + 1 := by
  first | rfl | simp [Around.under, Code.cUnits, Code.frames, Code.isFrame]
theorem Room.make {k : Nat} {A : Around} (r : Room (k + 1) A) (C : Addr) (us : List Value) (kw : List (Str × Value)) : Room k (A.under (.builtin "type.__call__" ⟨.ref C :: us, kw⟩)) :=
  ⟨r.hd, by have := r.dp; rw [make_depth]; omega, by have := r.un; rw [make_units]; omega⟩
theorem Room.depth {k : Nat} {A : Around} (r : Room k A) : A.depth < recursionLimit := by have := r.dp; omega
theorem Room.units {k : Nat} {A : Around} (r : Room k A) : A.units + 64 < cLine := by have := r.un; omega
def tNil : TA := fun _ H Q => Q [] H
def tCons (ta : TE) (tr : TA) : TA := fun σ H Q => ta σ H fun x H1 => tr σ H1 fun xs H2 => Q (x :: xs) H2
section
variable {X : Cx} {e : Expr} {es : List Expr} {te : TE} {t : TA} {pos : Pos}
theorem pa_nil : PA X [] tNil := fun _ _ _ _ H Q I h => Calls.spliced_nil ⟨[], H, I, .nil, h⟩
theorem pa_cons (ha : PE X e te) (hr : PA X es t) (hs : starEach (e :: es) X.env = (false, eval e X.env) :: starEach es X.env := by rfl) : PA X (e :: es) (tCons te t) := by
  intro pos pins s σ H Q I h
  rw [hs]
  show wpAny _ _ (spliced ((false, eval e X.env) :: backTo pos (starEach es X.env))) _ _ s
  refine Calls.spliced_cons (thn (ha pins s σ H _ I h) fun u s1 ⟨x, H1, I1, r1, q1⟩ => ?_)
  exact thn (hr pos pins s1 σ H1 _ I1 q1) fun us s2 ⟨xs, H2, I2, r2, q2⟩ => ⟨x :: xs, H2, I2, .cons r1 r2, q2⟩

/-- a tuple, a list of written items -/
def tTup (t : TA) : TE := fun σ H Q => t σ H fun xs H1 => xs.length ≤ sizeLine ∧ ∀ p, H1 p = none → Q (.ref p) (upd H1 p (.tup xs))
def tLst (t : TA) : TE := fun σ H Q => t σ H fun xs H1 => xs.length ≤ sizeLine ∧ ∀ p, H1 p = none → Q (.ref p) (upd H1 p (.lst xs))
theorem pe_tup {x1} (h : PA X es t) : PE X (.Tuple es x1 pos) (tTup t) := by
  intro pins s σ H Q I hq
  refine wpAny_Tuple_spliced (thn (h pos pins s σ H _ I hq) fun us s1 ⟨xs, H1, I1, r, z, q⟩ => ⟨by rw [← r.length]; exact z, ?_⟩)
  have hf : H1 s1.heap.objs.size = none := I1.hok.fresh (Nat.le_refl _)
  refine ⟨.ref s1.heap.objs.size, upd H1 s1.heap.objs.size (.tup xs), I1.laid (t' := s1.toks) (fun b u e => Heap.get?_push_of_some _ e) (Nat.le_refl _) ?_, rfl, q _ hf⟩
  exact ⟨z, us, r, ⟨_, Heap.get?_push_size _ rfl, rfl, _, rfl⟩⟩
theorem pe_lst (h : PA X es t) : PE X (.List es pos) (tLst t) := by
  intro pins s σ H Q I hq
  refine wpAny_List_spliced (thn (h pos pins s σ H _ I hq) fun us s1 ⟨xs, H1, I1, r, z, q⟩ => ⟨by rw [← r.length]; exact z, ?_⟩)
  have hf : H1 s1.heap.objs.size = none := I1.hok.fresh (Nat.le_refl _)
  refine ⟨.ref s1.heap.objs.size, upd H1 s1.heap.objs.size (.lst xs), I1.laid (t' := s1.toks) (fun b u e => Heap.get?_push_of_some _ e) (Nat.le_refl _) ?_, rfl, q _ hf⟩
  exact ⟨z, us, 0, r, Heap.get?_push_size _ rfl⟩
end

/-- a def's promise: the bound arguments in the parameters' order, the heap, the wanted end, the wanted exception -/
abbrev Sp := List V → Hp → VK → XK → Prop
/-- how an exception lies behind a call (file 08 gives it): the callers' frames, abstract heap and state ahead of the call, the wish, the exception, the state -/
abbrev CXT := List Env → Hp → Shared → XK → Value → Shared → Prop

/-- the state at a call -/
structure Env0 (P : Program) (w : World) (K : PySem.W.Frag) (mg : Str → Option Value) (base : Heap) (A : Around) (outer : List Env) (s : Shared) (H : Hp) : Prop where
  frames : A.frames = some outer
  mod : Mod K mg base
  bs : ∀ b o, base.get? b = some o → s.heap.get? b = some o ∧ H b = none
  bsz : base.objs.size ≤ s.heap.objs.size
  funs : s.heap.FunFrames base outer
  frf : ∀ b ∈ frs outer, H b = none
  hok : HOk P w H s.heap
  bare : AllBare s.gens
/-- a call's end -/
def CE (outer : List Env) (P : Program) (w : World) (H : Hp) (s : Shared) (Q : VK) (u : Value) (s' : Shared) : Prop :=
  ∃ v H', s'.os = s.os ∧ AllBare s'.gens ∧ Un (frs outer) [] H H' s.heap s'.heap ∧ HOk P w H' s'.heap ∧ RelV v u ∧ Q v H'
def CR (CX : CXT) (outer : List Env) (P : Program) (w : World) (H : Hp) (s : Shared) (Q : VK) (E : XK) (r : Result) (s' : Shared) : Prop :=
  match r with
  | .ok (.ret u) => CE outer P w H s Q u s'
  | .ok _ => False
  | .error e => CX outer H s E e s'
structure FnOk (P : Program) (w : World) (K : PySem.W.Frag) (mg : Str → Option Value) (base : Heap) (CX : CXT) (k : Nat) (f : Addr) (fd : FuncData) (ps : List Str) (sp : Sp) : Prop where
  len : ∀ vs H Q E, sp vs H Q E → vs.length = ps.length
  run : ∀ (A : Around) (outer : List Env) (s : Shared) (H : Hp) (args : Args) (us : List Value) (vs : List V) (Q : VK) (E : XK), Room k A → Env0 P w K mg base A outer s H → BindsTo s fd args (ps.zip us) → Vals vs us → sp vs H Q E →
    codeAny (model P w) A (.call (.ref f) args) (CR CX outer P w H s Q E) s
theorem Env0.make {P : Program} {w : World} {K : PySem.W.Frag} {mg : Str → Option Value} {base : Heap} {A : Around} {outer : List Env} {s : Shared} {H : Hp} (e : Env0 P w K mg base A outer s H) (C : Addr) (us : List Value) (kw : List (Str × Value)) :
    Env0 P w K mg base (A.under (.builtin "type.__call__" ⟨.ref C :: us, kw⟩)) outer s H := ⟨by first | exact e.frames | (simpa [Around.under, Code.envs, Code.isFrame, pushEnvs] using e.frames), e.mod, e.bs, e.bsz, e.funs, e.frf, e.hok, e.bare⟩
section
variable {X : Cx} {pins : List (Addr × Obj)} {σ : St} {H : Hp} {s s' : Shared}
/-- from a body: what a callee wants -/
theorem Inv.env0 (I : Inv X pins σ H s) : Env0 X.prog X.w X.K X.mg X.base X.A X.stack s H :=
  ⟨I.ok.frames, I.ok.mod, I.bs, Nat.le_trans I.ok.bsz I.sz, I.stack, I.stkFree, I.hok, I.bare⟩
/-- behind a call -/
theorem Inv.after {Q : VK} {u : Value} (I : Inv X pins σ H s) (h : CE X.stack X.prog X.w H s Q u s') : EP X pins σ Q u s' := by
  obtain ⟨v, H', os, bare, un, hok, r, q⟩ := h
  obtain ⟨hh, g, d, t, os'⟩ := s'
  obtain rfl : os' = s.os := os
  exact ⟨v, H', I.call (h' := hh) (g' := g) (d' := d) (t' := t) (ch := []) un hok bare (fun b z => absurd z (by simp)), r, q⟩
end

/-- f(..): the written arguments, then the defaults dvs; E: what is wanted of an exception -/
def tCall (sp : Sp) (dvs : List V) (E : XK) (t : TA) : TE := fun σ H Q => t σ H fun vs H1 => sp (vs ++ dvs) H1 Q E
/-- o.m(..) of an instance of the class at C -/
def tMeth (C : Addr) (m : Str) (sp : Sp) (dvs : List V) (E : XK) (ta : TE) (t : TA) : TE := fun σ H Q => ta σ H fun x H1 => ∃ a dx fs, x = .ref a ∧ H1 a = some (.ins C dx fs) ∧ fs.lookup m = none ∧
  t σ H1 fun vs H2 => sp (x :: (vs ++ dvs)) H2 Q E
/-- C(..): a new instance and its dict, then __init__ -/
def tMake (C : Addr) (sp : Sp) (dvs : List V) (E : XK) (t : TA) : TE := fun σ H Q => t σ H fun vs H1 => ∀ x dx, H1 x = none → H1 dx = none → dx ≠ x →
  sp (.ref x :: (vs ++ dvs)) (upd (upd H1 dx (.own x)) x (.ins C dx [])) (fun v H2 => v = .non ∧ Q (.ref x) H2) E

/-- how the parameters are bound: us the positional arguments, kw the keywords' values by name, ds the defaults that fill up -/
def Binds (K : PySem.W.Frag) (fd : FuncData) (ps : List Str) (ds : List Value) : Prop :=
  ∀ (s : Shared) (us : List Value), K.In s.heap → (us ++ ds).length = ps.length → BindsTo s fd ⟨us, []⟩ (ps.zip (us ++ ds))
/-- every parameter is given -/
theorem Binds.all {K : PySem.W.Frag} {fd : FuncData} {ps : List Str} (h : ∀ us : List Value, us.length = ps.length → bindArgs fd ⟨us, []⟩ = pure (ps.zip us)) : Binds K fd ps [] := fun s us _ hl => by
  rw [List.append_nil] at hl ⊢
  exact .of_eq (h us hl)

/-- an exception of a callee reaches what this body wants of exceptions -/
def Passes (CX : CXT) (X : Cx) (E : XK) : Prop := ∀ (pins : List (Addr × Obj)) (σ : St) (H : Hp) (s : Shared) (e : Value) (s' : Shared), Inv X pins σ H s → CX X.stack H s E e s' → X.xe e s'

section
variable {X : Cx} {CX : CXT} {k : Nat} {f C : Addr} {fd : FuncData} {ps : List Str} {sp : Sp} {dvs : List V} {ds : List Value} {E : XK} {x m : Str} {p pos apos : Pos} {e o : Expr} {es : List Expr} {ta : TE} {t : TA}

/-- the callee runs -/
theorem run_fn {pins : List (Addr × Obj)} {σ : St} {H : Hp} {s : Shared} {Q : VK} {us : List Value} {vs : List V} (F : FnOk X.prog X.w X.K X.mg X.base CX k f fd ps sp) (hr : Room k X.A) (hb : Binds X.K fd ps ds) (hd : Vals dvs ds) (hx : Passes CX X E)
    (I : Inv X pins σ H s) (r : Vals vs us) (h : sp (vs ++ dvs) H Q E) : wpAny (model X.prog X.w) X.A (call (.ref f) us) (EP X pins σ Q) X.xe s := by
  have r2 : Vals (vs ++ dvs) (us ++ ds) := r.append hd
  have hl : (us ++ ds).length = ps.length := by rw [← r2.length]; exact F.len _ _ _ _ h
  refine wpAny_call (codeAny_mono (F.run X.A X.stack s H ⟨us, []⟩ (us ++ ds) (vs ++ dvs) Q E hr I.env0 (hb s us I.kIn hl) r2 h) fun r s' hq => ?_)
  cases r with
  | error e => exact hx pins σ H s e s' I hq
  | ok fl =>
    cases fl with
    | ret u => exact I.after hq
    | next => exact False.elim hq
    | brk => exact False.elim hq
    | cont => exact False.elim hq

theorem pe_call (F : FnOk X.prog X.w X.K X.mg X.base CX k f fd ps sp) (hr : Room k X.A) (hg : Gl X x) (hm : X.mg x = some (.ref f)) (hk : PySem.W.keepIn X.K (.ref f) = true) (hb : Binds X.K fd ps ds) (hd : Vals dvs ds) (hx : Passes CX X E)
    (ha : PA X (e :: es) t) (hdb : (x == ("__debug__" : Str)) = false := by decide) (he : starEach (e :: es) X.env = (false, eval e X.env) :: starEach es X.env := by rfl) (hpl : (backTo pos (starEach es X.env)).any (·.1) = false := by rfl) :
    PE X (.Call (.Name x p) (e :: es) [] pos) (tCall sp dvs E t) := by
  intro pins s σ H Q I h
  refine wpAny_Call_Name_kw (ld_glob I hg hm ?_ hdb)
  refine PySem.W.callWith_K (h₀ := X.base) I.ok.mod.kin hk (thn (ha pos pins s σ H _ I h) fun us s1 ⟨vs, H1, I1, r, q⟩ => ⟨I1.kIn, ?_⟩) he hpl
  exact run_fn F hr hb hd hx I1 r q
/-- o.m(e, ..) -/
theorem pe_meth {pl : Sem Bool} (he : PE X o ta) (c : Cls X.K C) (hm : Meth X.K C m f) (F : FnOk X.prog X.w X.K X.mg X.base CX k f fd ps sp) (hr : Room k X.A) (hb : Binds X.K fd ps ds) (hd : Vals dvs ds) (hx : Passes CX X E) (ha : PA X (e :: es) t)
    (hst : starEach (e :: es) X.env = (false, eval e X.env) :: starEach es X.env := by rfl) (hpl : (backTo pos (starEach es X.env)).any (·.1) = false := by rfl)
    (ht : eval (.Call (.Attribute o m apos) (e :: es) [] pos) X.env = (do
      let ov ← eval o X.env
      standAt apos.atName
      let (f, first) ← holding [ov] (getMethod ov m pl)
      callWith pos f first (backTo pos (starEach (e :: es) X.env)) (backToKw pos (keywordEach [] X.env))) := by rfl) :
    PE X (.Call (.Attribute o m apos) (e :: es) [] pos) (tMeth C m sp dvs E ta t) := by
  intro pins s σ H Q I h
  refine PySem.W.methodCall_KW (pl := pl) (thn (he pins s σ H _ I h) fun u s1 ⟨x, H1, I1, rx, a, dx, fs, ex, ea, l, q⟩ => ?_) ht
  subst ex
  obtain rfl : u = Value.ref a := rx
  refine getmeth_ok I1 ea c hm l ?_
  refine PySem.W.callWith_K (first := [.ref a]) (h₀ := X.base) I.ok.mod.kin hm.kp (thn (ha pos pins s1 σ H1 _ I1 q) fun us s2 ⟨vs, H2, I2, r, q2⟩ => ⟨I2.kIn, ?_⟩) hst hpl
  exact run_fn (us := .ref a :: us) (vs := .ref a :: vs) F hr hb hd hx I2 (.cons rfl r) q2
/-- o.m() -/
theorem pe_meth0 {pl : Sem Bool} (he : PE X o ta) (c : Cls X.K C) (hm : Meth X.K C m f) (F : FnOk X.prog X.w X.K X.mg X.base CX k f fd ps sp) (hr : Room k X.A) (hb : Binds X.K fd ps ds) (hd : Vals dvs ds) (hx : Passes CX X E)
    (ht : eval (.Call (.Attribute o m apos) [] [] pos) X.env = (do
      let ov ← eval o X.env
      standAt apos.atName
      let (f, first) ← holding [ov] (getMethod ov m pl)
      callWith pos f first (backTo pos (starEach [] X.env)) (backToKw pos (keywordEach [] X.env))) := by rfl) :
    PE X (.Call (.Attribute o m apos) [] [] pos) (tMeth C m sp dvs E ta tNil) := by
  intro pins s σ H Q I h
  refine PySem.W.methodCall_KW (pl := pl) (thn (he pins s σ H _ I h) fun u s1 ⟨x, H1, I1, rx, a, dx, fs, ex, ea, l, q⟩ => ?_) ht
  subst ex
  obtain rfl : u = Value.ref a := rx
  refine getmeth_ok I1 ea c hm l ?_
  exact PySem.W.callWith_K0 (first := [.ref a]) I1.kIn hm.kp (run_fn (us := [.ref a]) (vs := [.ref a]) F hr hb hd hx I1 (.cons rfl .nil) q)

/-- what a class must have to be made -/
structure Mk (K : PySem.W.Frag) (C f : Addr) : Prop where
  makes : PySem.W.makesIn K C = true
  init : PySem.W.findIn K (.ref C) "__init__" = some (some (.ref f))
  fn : PySem.W.isFn K (.ref f) = true
  kp : PySem.W.keepIn K (.ref C) = true

theorem run_make {pins : List (Addr × Obj)} {σ : St} {H : Hp} {s : Shared} {Q : VK} {us : List Value} {vs : List V} (M : Mk X.K C f) (F : FnOk X.prog X.w X.K X.mg X.base CX k f fd ps sp) (hr : Room (k + 1) X.A) (hb : Binds X.K fd ps ds) (hd : Vals dvs ds)
    (hx : Passes CX X E) (I : Inv X pins σ H s) (r : Vals vs us)
    (h : ∀ x dx, H x = none → H dx = none → dx ≠ x → sp (.ref x :: (vs ++ dvs)) (upd (upd H dx (.own x)) x (.ins C dx [])) (fun v H2 => v = .non ∧ Q (.ref x) H2) E) :
    wpAny (model X.prog X.w) X.A (call (.ref C) us) (EP X pins σ Q) X.xe s := by
  have hq := h (s.heap.objs.size + 1) s.heap.objs.size (I.hok.fresh (Nat.le_succ _)) (I.hok.fresh (Nat.le_refl _)) (Nat.ne_of_lt (Nat.lt_succ_self _))
  have I2 := Inv.made (C := C) I
  have r2 : Vals (V.ref (s.heap.objs.size + 1) :: (vs ++ dvs)) (Value.ref (s.heap.objs.size + 1) :: (us ++ ds)) := .cons rfl (r.append hd)
  have hl : (Value.ref (s.heap.objs.size + 1) :: us ++ ds).length = ps.length := by
    have e := r2.length
    rw [F.len _ _ _ _ hq] at e
    exact e.symm
  refine wpAny_call (make_map (f := f) I.kIn M.makes M.init (beq_iff_eq.mp M.fn) (codeAny_mono (F.run _ X.stack _ _ ⟨Value.ref (s.heap.objs.size + 1) :: us, []⟩ (Value.ref (s.heap.objs.size + 1) :: (us ++ ds)) _ _ E (hr.make C us [])
    (I2.env0.make C us []) (hb _ (Value.ref (s.heap.objs.size + 1) :: us) I2.kIn hl) r2 hq) fun r s' hq' => ?_))
  cases r with
  | error e => exact hx pins σ _ _ e s' I2 hq'
  | ok fl =>
    cases fl with
    | ret u =>
      obtain ⟨v, H', I3, rv, ev, q3⟩ := I2.after hq'
      subst ev
      exact ⟨rv, ⟨V.ref (s.heap.objs.size + 1), H', I3, rfl, q3⟩⟩
    | next => exact False.elim hq'
    | brk => exact False.elim hq'
    | cont => exact False.elim hq'
theorem pe_make (M : Mk X.K C f) (F : FnOk X.prog X.w X.K X.mg X.base CX k f fd ps sp) (hr : Room (k + 1) X.A) (hg : Gl X x) (hm : X.mg x = some (.ref C)) (hb : Binds X.K fd ps ds) (hd : Vals dvs ds) (hx : Passes CX X E)
    (ha : PA X (e :: es) t) (hdb : (x == ("__debug__" : Str)) = false := by decide) (he : starEach (e :: es) X.env = (false, eval e X.env) :: starEach es X.env := by rfl) (hpl : (backTo pos (starEach es X.env)).any (·.1) = false := by rfl) :
    PE X (.Call (.Name x p) (e :: es) [] pos) (tMake C sp dvs E t) := by
  intro pins s σ H Q I h
  refine wpAny_Call_Name_kw (ld_glob I hg hm ?_ hdb)
  refine PySem.W.callWith_K (h₀ := X.base) I.ok.mod.kin M.kp (thn (ha pos pins s σ H _ I h) fun us s1 ⟨vs, H1, I1, r, q⟩ => ⟨I1.kIn, ?_⟩) he hpl
  exact run_make M F hr hb hd hx I1 r q
end

section
variable {X : Cx} {CX : CXT} {k : Nat} {f C : Addr} {fd : FuncData} {ps ks : List Str} {sp : Sp} {E : XK} {x m : Str} {p pos apos kpos : Pos} {e o : Expr} {es : List Expr} {kws : List Keyword} {te ta : TE} {t tk : TA} {nm : Option Str}
variable {g : List Value → List Value → List Value} {gV : List V → List V → List V}
end

/-- names: the parameters first -/
structure FnScope (N P : List Str) (sc : Scope) : Prop where
  kind : sc.kind = .function
  co : sc.isCoroutine = false
  gen : sc.isGenerator = false
  nd : N.Nodup
  pre : N.take P.length = P
  par : ∀ x ∈ P, sc.names.lookup x = some .local ∨ sc.names.lookup x = some .cell
  nofree : ∀ y ∈ sc.names, y.2 ≠ .free

theorem bindL_out {kindOf : Str → Option NameKind} {x : Str} : ∀ {binds : List (Str × Value)} {m : Str → Option Value}, (∀ v, (x, v) ∉ binds) → bindL kindOf binds m x = m x
  | [], _, _ => rfl
  | (n, v) :: r, m, h => by
    unfold bindL
    rw [bindL_out fun w hw => h w (List.mem_cons_of_mem _ hw)]
    split
    · have : x ≠ n := by rintro rfl; exact h v List.mem_cons_self
      simp [this]
    · rfl
theorem bindC_out {kindOf : Str → Option NameKind} {x : Str} : ∀ {binds : List (Str × Value)} {m : Str → Option Value}, (∀ v, (x, v) ∉ binds) → bindC kindOf binds m x = m x
  | [], _, _ => rfl
  | (n, v) :: r, m, h => by
    unfold bindC
    rw [bindC_out fun w hw => h w (List.mem_cons_of_mem _ hw)]
    split
    · rfl
    · have : x ≠ n := by rintro rfl; exact h v List.mem_cons_self
      simp [this]
theorem bindL_get {kindOf : Str → Option NameKind} {x : Str} {v : Value} : ∀ {P : List Str} {vs : List Value} {i : Nat} {m : Str → Option Value}, P.Nodup → P[i]? = some x → vs[i]? = some v → kindOf x = some .local →
    bindL kindOf (P.zip vs) m x = some v
  | [], _, _, _, _, h, _, _ => by simp at h
  | _ :: _, [], _, _, _, _, h, _ => by simp at h
  | p :: P, w :: vs, 0, m, nd, h1, h2, hk => by
    simp at h1 h2; subst h1; subst h2
    show bindL kindOf ((p, w) :: P.zip vs) m p = _
    unfold bindL
    rw [bindL_out fun v hv => (List.nodup_cons.mp nd).1 (List.of_mem_zip hv).1, if_pos hk]
    simp
  | p :: P, w :: vs, i + 1, m, nd, h1, h2, hk => by
    show bindL kindOf ((p, w) :: P.zip vs) m x = _
    unfold bindL
    exact bindL_get (i := i) (List.nodup_cons.mp nd).2 (by simpa using h1) (by simpa using h2) hk
theorem bindC_get {kindOf : Str → Option NameKind} {x : Str} {v : Value} : ∀ {P : List Str} {vs : List Value} {i : Nat} {m : Str → Option Value}, P.Nodup → P[i]? = some x → vs[i]? = some v → kindOf x ≠ some .local →
    bindC kindOf (P.zip vs) m x = some v
  | [], _, _, _, _, h, _, _ => by simp at h
  | _ :: _, [], _, _, _, _, h, _ => by simp at h
  | p :: P, w :: vs, 0, m, nd, h1, h2, hk => by
    simp at h1 h2; subst h1; subst h2
    show bindC kindOf ((p, w) :: P.zip vs) m p = _
    unfold bindC
    rw [bindC_out fun v hv => (List.nodup_cons.mp nd).1 (List.of_mem_zip hv).1, if_neg hk]
    simp
  | p :: P, w :: vs, i + 1, m, nd, h1, h2, hk => by
    show bindC kindOf ((p, w) :: P.zip vs) m x = _
    unfold bindC
    exact bindC_get (i := i) (List.nodup_cons.mp nd).2 (by simpa using h1) (by simpa using h2) hk

/-- the names' values at the entry -/
def start (N : List Str) (vs : List V) : St := vs.map some ++ List.replicate (N.length - vs.length) none

/-- the context of a def's body, at its entry; an exception leaves the frame, then lies as CX says -/
def cxOf (CX : CXT) (P : Program) (w : World) (K : PySem.W.Frag) (mg : Str → Option Value) (base : Heap) (N : List Str) (qual : Str) (scope : Scope) (f : Addr) (cd : Value) (A : Around) (outer : List Env) (s : Shared) (H : Hp) (E : XK) : Cx where
  prog := P
  w := w
  K := K
  mg := mg
  base := base
  A := A.deeper (envOfC qual scope s.heap.objs.size f cd)
  N := N
  s₀ := s
  H₀ := H
  env := envOfC qual scope s.heap.objs.size f cd
  outer := outer
  stack := envOfC qual scope s.heap.objs.size f cd :: outer
  ex := []
  calm := true
  fn := fun _ => true
  pn := []
  xe := fun e s' => wpAny (model P w) (A.deeper (envOfC qual scope s.heap.objs.size f cd)) (leaving (envOfC qual scope s.heap.objs.size f cd) e) (fun _ s'' => CX outer H s E e s'') (fun e' s'' => CX outer H s E e' s'') s'

theorem cell_has {sc : Scope} {n : Nat} {x : Str} (h : sc.names.lookup x = some .cell) : ∃ c, (cellsFrom n sc.names []).lookup x = some c := by
  have q := PySem.W.cellsFrom_some sc.names n [] (.inl h)
  exact Option.isSome_iff_exists.mp q

theorem inv_start {CX : CXT} {P : Program} {w : World} {K : PySem.W.Frag} {mg : Str → Option Value} {base : Heap} {N ps : List Str} {qual : Str} {scope : Scope} {f : Addr} {cd : Value} {A : Around} {outer : List Env} {s s1 : Shared} {H : Hp} {E : XK} {us : List Value} {vs : List V}
    (S : FnScope N ps scope) (hd : A.handled = none) (e0 : Env0 P w K mg base A outer s H) (hl : vs.length = ps.length) (r : Vals vs us)
    (x : InCallC s s.heap.objs.size (bindL (envOfC qual scope s.heap.objs.size f cd).kindOf (ps.zip us) fun _ => none) (cellsFrom (s.heap.objs.size + 1) scope.names []) (bindC (envOfC qual scope s.heap.objs.size f cd).kindOf (ps.zip us) fun _ => none) s1) :
    Inv (cxOf CX P w K mg base N qual scope f cd A outer s H E) [] (start N vs) H s1 := by
  have hpl : ps.length ≤ N.length := by have := congrArg List.length S.pre; rw [List.length_take] at this; omega
  obtain ⟨h1, tk, rfl, hk⟩ := x.done
  have noA : ∀ b : Addr, b ∉ (cxOf CX P w K mg base N qual scope f cd A outer s H E).ex := fun b z => absurd (show b ∈ ([] : List Addr) from z) (by simp)
  refine ⟨⟨e0.mod, S.kind, rfl, rfl, Nat.le_refl _, fun y z c h1 h2 => ?_, fun y hy => ?_, fun y c _ h => ?_, fun _ => hd, Around.frames_deeper e0.frames, .inr ⟨rfl, rfl⟩, fun b z => absurd z (noA b), e0.bs, e0.bsz, fun b _ _ => noA b, fun b z => absurd z (noA b), e0.funs, e0.frf⟩,
    rfl, e0.bare, Un.kept hk, ⟨_, x.toInCall.ns, fun i y v h1 h2 h3 => ?_⟩, fun y c h => ⟨_, x.cell y c h⟩, e0.hok.fresh (Nat.le_refl _), fun y c h => ?_, fun p hp => absurd (show p ∈ ([] : List (Addr × Obj)) from hp) (by simp), e0.hok.kept hk, ?_⟩
  · exact name_of_addr x.apart (PySem.mem_of_lookup h1) (PySem.mem_of_lookup h2)
  · have hy : scope.names.lookup y = some .cell ∨ scope.names.lookup y = some .free := hy
    rcases hy with hy | hy
    · exact cell_has hy
    · exact absurd rfl (S.nofree _ (PySem.mem_of_lookup hy))
  · exact Nat.le_of_lt (x.above y c (PySem.mem_of_lookup h))
  · have hi : i < vs.length := by
      unfold start at h2
      by_cases hi : i < vs.length
      · exact hi
      · rw [List.getElem?_append_right (by simpa using hi)] at h2
        rw [List.getElem?_replicate] at h2
        split at h2 <;> cases h2
    have ha : vs[i]? = some v := by
      unfold start at h2
      rw [List.getElem?_append_left (by simpa using hi), List.getElem?_map] at h2
      cases e : vs[i]? with
      | none => rw [e] at h2; cases h2
      | some a => rw [e] at h2; cases h2; rfl
    obtain ⟨u, hu, rv⟩ := r.get ha
    have hp : ps[i]? = some y := by
      rw [← S.pre, List.getElem?_take_of_lt (by omega)]; exact h1
    have ndP : ps.Nodup := by rw [← S.pre]; exact S.nd.sublist (List.take_sublist _ _)
    refine ⟨u, rv, ?_⟩
    rcases S.par y (List.mem_of_getElem? hp) with k | k
    · exact .inl ⟨k, bindL_get ndP hp hu k⟩
    · obtain ⟨c, e⟩ := cell_has (n := s.heap.objs.size + 1) k
      refine .inr ⟨.inl k, c, e, ?_⟩
      have q := x.cell y c e
      rw [bindC_get ndP hp hu (by show scope.names.lookup y ≠ _; rw [k]; decide)] at q
      exact q
  · exact e0.hok.fresh (Nat.le_of_lt (x.above y c (PySem.mem_of_lookup h)))
  · unfold start
    show _ = N.length
    rw [List.length_append, List.length_map, List.length_replicate]
    omega

/-- THE RULE: a def (or a method) of the text, by its body. The body's reading t is chosen for each entry; it is run at the parameters' values -/
theorem fn_of {CX : CXT} {P : Program} {w : World} {K : PySem.W.Frag} {mg : Str → Option Value} {base : Heap} {k : Nat} {f : Addr} {name qual : Str} {params : Arguments} {body : List Stmt} {scope : Scope} {dV kV doc pm cdv ct oc : Value} {an od : Option Addr}
    {osl : Array (Option Value)} {N ps : List Str} {sp : Sp} (lk : K.lookup f = some ⟨oc, od, .func (PySem.W.fnOf name qual params body scope dV kV doc pm an cdv ct), osl⟩) (hcd : PySem.W.codeIn K cdv qual = true) (S : FnScope N ps scope)
    (len : ∀ vs H Q E, sp vs H Q E → vs.length = ps.length)
    (hbody : ∀ (A : Around) (outer : List Env) (s : Shared) (H : Hp) (vs : List V) (Q : VK) (E : XK), Room k (A.deeper (envOfC qual scope s.heap.objs.size f cdv)) → sp vs H Q E →
      ∃ t, PSs (cxOf CX P w K mg base N qual scope f cdv A outer s H E) body t ∧ t { nx := fun _ H' => Q .non H', rt := Q } (start N vs) H) :
    FnOk P w K mg base CX (k + 1) f (PySem.W.fnOf name qual params body scope dV kV doc pm an cdv ct) ps sp := by
  refine ⟨len, fun A outer s H args us vs Q E hr e0 hb r hsp => ?_⟩
  have hl := len _ _ _ _ hsp
  have KX : K.In s.heap := e0.mod.kin.keeps fun b o e => (e0.bs b o e).1
  have lim : s.heap.NoLimit := e0.mod.nolimit.keeps fun b o e => (e0.bs b o e).1
  have hkind : ∀ y ∈ ps.zip us, scope.names.lookup y.1 = some .local ∨ (scope.names.lookup y.1 = some .cell ∧ ((cellsFrom (s.heap.objs.size + 1) scope.names []).lookup y.1).isSome = true) := fun ⟨n, v⟩ hy => by
    rcases S.par n (List.of_mem_zip hy).1 with q | q
    · exact .inl q
    · exact .inr ⟨q, PySem.W.cellsFrom_some _ _ _ (.inl q)⟩
  refine codeAny_call_function hr.depth (KX _ _ lk) rfl S.co S.gen rfl (PySem.W.codeRec_of KX hcd) (hb _ _ _ _ ?_)
  refine wpAny_newFunctionEnv_cells S.kind hkind fun env he s1 x => ?_
  subst he
  refine ⟨lim.keeps x.toInCall.keep, codeAny_func ?_⟩
  obtain ⟨t, ht, hq⟩ := hbody A outer s H vs Q E (hr.deeper _) hsp
  have I : Inv (cxOf CX P w K mg base N qual scope f cdv A outer s H E) [] (start N vs) H s1 := inv_start S hr.hd e0 hl r x
  refine wpAny_mono (ht [] s1 (start N vs) H _ I hq) (fun fl s' hs => ?_) fun e s' hs => hs
  have fin : ∀ {σ' : St} {H' : Hp} {v : V} {u : Value}, Inv (cxOf CX P w K mg base N qual scope f cdv A outer s H E) [] σ' H' s' → RelV v u → Q v H' → CE outer P w H s Q u s' :=
    fun {σ' H' v u} J rv q => ⟨v, H', J.os, J.bare, J.base, J.hok, rv, q⟩
  cases fl with
  | ret u =>
    obtain ⟨v, σ', H', J, rv, q⟩ := hs
    exact fin J rv q
  | next =>
    obtain ⟨σ', H', J, q⟩ := hs
    exact fin (v := V.non) (u := Value.none) J rfl q
  | brk =>
    obtain ⟨_, _, _, q⟩ := hs
    exact False.elim q
  | cont =>
    obtain ⟨_, _, _, q⟩ := hs
    exact False.elim q
end L2

namespace L2
open PySem PySem.Spec PyProof.Rows
section
variable {X : Cx} {x : Str} {p pos : Pos} {e : Expr} {es : List Expr} {t : TA} {id T : String} {r : List V → Hp → VK → Prop}

def tCB (r : List V → Hp → VK → Prop) (t : TA) : TE := fun σ H Q => t σ H fun vs H1 => r vs H1 Q
/-- f(e, ..), f a built-in function -/
theorem pe_callB (hc : CallR X (.builtin id) r) (hg : Gl X x) (hm : X.mg x = none) (hv : bootBuiltins x = some (.builtin id)) (ha : PA X (e :: es) t) (hn : x ≠ "__name__" := by decide) (hdb : (x == ("__debug__" : Str)) = false := by decide)
    (he : starEach (e :: es) X.env = (false, eval e X.env) :: starEach es X.env := by rfl) (hpl : (backTo pos (starEach es X.env)).any (·.1) = false := by rfl) : PE X (.Call (.Name x p) (e :: es) [] pos) (tCB r t) := by
  intro pins s σ H Q I h
  refine wpAny_Call_Name_kw (ld_blt I hg hm hv ?_ hn hdb)
  exact PyProof.Rows.callWith_builtin1 (thn (ha pos pins s σ H _ I h) fun us s1 ⟨vs, H1, I1, r1, q1⟩ => hc pins s1 σ H1 vs us Q I1 r1 q1) he hpl
/-- T(e, ..), T a built-in type -/
theorem pe_callTy (hc : CallR X (.type T) r) (hg : Gl X x) (hm : X.mg x = none) (hv : bootBuiltins x = some (.type T)) (ha : PA X (e :: es) t) (hn : x ≠ "__name__" := by decide) (hdb : (x == ("__debug__" : Str)) = false := by decide)
    (he : starEach (e :: es) X.env = (false, eval e X.env) :: starEach es X.env := by rfl) (hpl : (backTo pos (starEach es X.env)).any (·.1) = false := by rfl) : PE X (.Call (.Name x p) (e :: es) [] pos) (tCB r t) := by
  intro pins s σ H Q I h
  refine wpAny_Call_Name_kw (ld_blt I hg hm hv ?_ hn hdb)
  exact PyProof.Rows.callWith_type1 (thn (ha pos pins s σ H _ I h) fun us s1 ⟨vs, H1, I1, r1, q1⟩ => hc pins s1 σ H1 vs us Q I1 r1 q1) he hpl
end
end L2

namespace HT
open PySem PyProof.Rows

section
open PySem.SeqAt
open PySem.AutoSeq1 (wpAny_loadPart')
open PySem.MeetsSeq PySem.MeetsSeq2 PySem.MeetsSeq3

end

section
variable {prog : Program} {w : World} {A : Around} {E : Value → Shared → Prop} {s : Shared}

/-- a slice's bound as a place among n (d where it is left out) -/
def sIx (n d : Nat) : Option Int → Nat
  | none => d
  | some v => if v < 0 then (v + (n : Int)).toNat else min v.toNat n
theorem sIx_none (n d : Nat) : sIx n d none = d := rfl
theorem sIx_nat (n d k : Nat) : sIx n d (some (k : Int)) = min k n := by
  show (if (k : Int) < 0 then ((k : Int) + (n : Int)).toNat else min (k : Int).toNat n) = min k n
  rw [if_neg (by omega), Int.toNat_natCast]
end
end HT

namespace L2
open PySem PySem.Spec PyProof.Rows

abbrev TO := St → Hp → (Option Int → Hp → Prop) → Prop
/-- a slice's part (left out, or an int) -/
def PO (X : Cx) (e : Option Expr) (t : TO) : Prop :=
  ∀ (pins : List (Addr × Obj)) (s : Shared) (σ : St) (H : Hp) (Q : Option Int → Hp → Prop), Inv X pins σ H s → t σ H Q →
    wpAny (model X.prog X.w) X.A (evalPart e X.env) (fun u s' => ∃ o H', Inv X pins σ H' s' ∧ IsPart u o ∧ Q o H') X.xe s
def tNoPart : TO := fun _ H Q => Q none H
def tPart (t : TE) : TO := fun σ H Q => t σ H fun x H1 => ∃ i, x = .int i ∧ Q (some i) H1

theorem intsAre_of {ns : List Int} : ∀ {us : List Value}, Vals (ns.map V.int) us → IntsAre us ns := by
  induction ns with
  | nil => intro us r; rw [List.map_nil] at r; cases r; exact .nil
  | cons n ns ih =>
    intro us r
    rw [List.map_cons] at r
    cases r with
    | cons r1 r2 =>
      obtain ⟨t, e⟩ := r1
      subst e
      exact .cons n t (ih r2)

section
variable {X : Cx} {e : Expr} {te : TE} {lo hi : Option Expr} {tl th : TO} {pos p2 : Pos}

theorem po_none : PO X none tNoPart := by
  intro pins s σ H Q I h
  rw [evalPart_none]
  exact wpAny_pure ⟨none, H, I, .none, h⟩
theorem po_some (h : PE X e te) : PO X (some e) (tPart te) := by
  intro pins s σ H Q I hw
  rw [evalPart_some]
  refine thn (h pins s σ H _ I hw) fun u s1 ⟨x, H1, I1, r1, q1⟩ => ?_
  obtain ⟨i, rfl, q⟩ := q1
  obtain ⟨t, rfl⟩ := r1
  exact ⟨some i, H1, I1, .int i t, q⟩

/-- what a slice of a value is, by values: the slice object stands at sl -/
def SlR (X : Cx) (r : V → Option Int → Option Int → Hp → VK → Prop) : Prop :=
  ∀ (pins : List (Addr × Obj)) (s : Shared) (σ : St) (H : Hp) (x : V) (v vl vu : Value) (lo hi : Option Int) (sl : Addr) (Q : VK), Inv X pins σ H s → RelV x v → s.heap.IsSliceOf sl vl vu .none → IsPart vl lo → IsPart vu hi → r x lo hi H Q →
    ∃ T id, typeLookup (.type T) "__getitem__" = pure (some (.builtin id)) ∧ s.TypeIs v T ∧ wpAny (model X.prog X.w) X.A (getItem v (.ref sl)) (EP X pins σ Q) X.xe s
def tSl (r : V → Option Int → Option Int → Hp → VK → Prop) (te : TE) (tl th : TO) : TE := fun σ H Q => te σ H fun x H1 => tl σ H1 fun l H2 => th σ H2 fun u H3 => r x l u H3 Q
/-- a[lo:hi], any a -/
theorem pe_slice {r : V → Option Int → Option Int → Hp → VK → Prop} (hr : SlR X r) (he : PE X e te) (hl : PO X lo tl) (hu : PO X hi th) : PE X (.Subscript e (.Slice lo hi none p2) pos) (tSl r te tl th) := by
  intro pins s σ H Q I h
  refine Subscript_ (thn (he pins s σ H _ I h) fun v s1 ⟨x, H1, I1, r1, q1⟩ => ?_)
  refine wpAny_Slice (thn (hl pins s1 σ H1 _ I1 q1) fun vl s2 ⟨l, H2, I2, pl, q2⟩ => thn (hu pins s2 σ H2 _ I2 q2) fun vu s3 ⟨u, H3, I3, pu, q3⟩ => ?_)
  rw [evalPart_none]
  refine wpAny_pure ?_
  have I4 : Inv X pins σ H3 { s3 with heap := s3.heap.push { cls := .type "slice", data := .fields #[vl, vu, .none] } } := I3.kept (t' := s3.toks) fun b ob q => Heap.get?_push_of_some _ q
  obtain ⟨T, id, hT, ht, hg⟩ := hr pins { s3 with heap := s3.heap.push { cls := .type "slice", data := .fields #[vl, vu, .none] } } σ H3 x v vl vu l u s3.heap.objs.size Q I4 r1 (Heap.IsSliceOf.new ..) pl pu q3
  show wpAny (model X.prog X.w) X.A (subscriptTail e (.Slice lo hi none p2) v (.ref s3.heap.objs.size)) (EP X pins σ Q) X.xe { s3 with heap := s3.heap.push { cls := .type "slice", data := .fields #[vl, vu, .none] } }
  exact tail_any (ops := [.ref s3.heap.objs.size, v]) ht hT hg (by with_unfolding_all rfl)

/-- the items of xs[lo:hi] -/
def cutV (xs : List V) (lo hi : Option Int) : List V := (xs.drop (HT.sIx xs.length 0 lo)).take (HT.sIx xs.length xs.length hi - HT.sIx xs.length 0 lo)
theorem cutV_length (xs : List V) (lo hi : Option Int) : (cutV xs lo hi).length ≤ xs.length := by
  unfold cutV
  rw [List.length_take, List.length_drop]
  omega
end
end L2

namespace L2
open PySem PySem.Spec PyProof.Rows

/-- the place that an index of any sign means -/
def ixN (n : Nat) (i : Int) : Option Nat := if 0 ≤ i then (if i < n then some i.toNat else none) else if -(n : Int) ≤ i then some (i + n).toNat else none
def atI {α : Type} (xs : List α) (i : Int) : Option α := (ixN xs.length i).bind fun j => xs[j]?
theorem ixN_seq {n : Nat} {i : Int} {j : Nat} (h : ixN n i = some j) : seqIndex? i n = some j ∧ j < n ∧ -(n : Int) ≤ i ∧ i < n := by
  unfold ixN at h
  by_cases h0 : 0 ≤ i
  · rw [if_pos h0] at h
    by_cases h1 : i < n
    · rw [if_pos h1] at h
      have e : i.toNat = j := Option.some.inj h
      exact ⟨by rw [seqIndex_of h0 h1, e], by omega, by omega, h1⟩
    · rw [if_neg h1] at h; cases h
  · rw [if_neg h0] at h
    by_cases h1 : -(n : Int) ≤ i
    · rw [if_pos h1] at h
      have e : (i + n).toNat = j := Option.some.inj h
      exact ⟨by rw [seqIndex_neg (by omega) h1, e], by omega, h1, by omega⟩
    · rw [if_neg h1] at h; cases h
theorem atI_get {α : Type} {xs : List α} {i : Int} {v : α} (h : atI xs i = some v) : ∃ j, seqIndex? i xs.length = some j ∧ xs[j]? = some v ∧ j < xs.length ∧ -(xs.length : Int) ≤ i ∧ i < xs.length := by
  unfold atI at h
  cases e : ixN xs.length i with
  | none => rw [e] at h; cases h
  | some j =>
    rw [e] at h
    obtain ⟨h1, h2, h3, h4⟩ := ixN_seq e
    exact ⟨j, h1, h, h2, h3, h4⟩
theorem atI_nat {α : Type} {xs : List α} {j : Nat} {v : α} (h : xs[j]? = some v) : atI xs (j : Int) = some v := by
  have hj : j < xs.length := (List.getElem?_eq_some_iff.mp h).1
  have e : ixN xs.length (j : Int) = some j := by
    unfold ixN
    rw [if_pos (by omega), if_pos (by omega)]; simp
  unfold atI; rw [e]; exact h
/-- what stands as an index of a plain subscript -/
def PlainIx (b : Expr) : Prop := ∀ o i, subscripted b false o i = operate [o, i] (getItem o i)
/-- a subscript by values -/
def IxR (X : Cx) (r : R2) : Prop :=
  ∀ (value slice : Expr) (pins : List (Addr × Obj)) (s : Shared) (σ : St) (H : Hp) (x y : V) (v u : Value) (Q : VK), Inv X pins σ H s → RelV x v → RelV y u → r x y H Q →
    subscripted slice false v u = operate [v, u] (getItem v u) → wpAny (model X.prog X.w) X.A (subscriptTail value slice v u) (EP X pins σ Q) X.xe s
/-- a call of a builtin's method by values: the receiver, the arguments -/
def MtR (X : Cx) (id : String) (r : V → List V → Hp → VK → Prop) : Prop :=
  ∀ (pins : List (Addr × Obj)) (s : Shared) (σ : St) (H : Hp) (x : V) (xs : List V) (v : Value) (us : List Value) (Q : VK), Inv X pins σ H s → RelV x v → Vals xs us → r x xs H Q →
    wpAny (model X.prog X.w) X.A (call (.builtin id) (v :: us)) (EP X pins σ Q) X.xe s
section
variable {X : Cx} {a b : Expr} {ta tb : TE} {pos : Pos}
/-- a[b] -/
theorem pe_ix {r : R2} (hr : IxR X r) (ha : PE X a ta) (hb : PE X b tb) (hs : PlainIx b) : PE X (.Subscript a b pos) (tOp r ta tb) := by
  intro pins s σ H Q I h
  exact Subscript_ (binT ha hb I h fun v u s2 x y H2 I2 rx ry q => hr a b pins s2 σ H2 x y v u Q I2 rx ry q (hs _ _))

def rIxL (K : PySem.W.Frag) : R2 := fun x y H Q => ∃ p xs i v, x = .ref p ∧ y = .int i ∧ SqL K H p xs ∧ atI xs i = some v ∧ Q v H
def rIxT (K : PySem.W.Frag) : R2 := fun x y H Q => ∃ p xs i v, x = .ref p ∧ y = .int i ∧ SqT K H p xs ∧ atI xs i = some v ∧ Q v H
theorem ix_list : IxR X (rIxL X.K) := by
  intro value slice pins s σ H x y v u Q I rx ry h hs
  obtain ⟨p, xs, i, z, rfl, rfl, hq, he, q⟩ := h
  cases rx
  obtain ⟨t, rfl⟩ := ry
  obtain ⟨its, r, pl, hz⟩ := I.list hq
  obtain ⟨j, h1, h2, h3, h4, h5⟩ := atI_get he
  obtain ⟨w, ew, rw'⟩ := r.get h2
  have hl := r.length
  have hn := line63
  have fin : EP X pins σ Q w s := ⟨z, H, I, rw', q⟩
  by_cases h0 : 0 ≤ i
  · have hj : i.toNat = j := by
      rw [seqIndex_of h0 h5] at h1
      exact Option.some.inj h1
    exact item_listR pl.isList h0 (by omega) (by rw [hj]; simpa using ew) fin hs
  · have hj : (i + (its.toArray.size : Int)).toNat = j := by
      rw [seqIndex_neg (by omega) h4] at h1
      rw [List.size_toArray, ← hl]
      exact Option.some.inj h1
    exact subscriptTail_builtinR (x := w) pl.isList.typeIs slot_list_getitem.lookup
      (wpAny_getItem_list_neg (Q := fun r s' => r = w ∧ EP X pins σ Q r s') pl.isList (by omega) (by rw [List.size_toArray] <;> omega) (by omega) (by rw [hj]; simpa using ew) ⟨rfl, fin⟩) hs
theorem ix_tup : IxR X (rIxT X.K) := by
  intro value slice pins s σ H x y v u Q I rx ry h hs
  obtain ⟨p, xs, i, z, rfl, rfl, hq, he, q⟩ := h
  cases rx
  obtain ⟨t, rfl⟩ := ry
  obtain ⟨its, r, pl, hz⟩ := I.tuple hq
  obtain ⟨j, h1, h2, h3, h4, h5⟩ := atI_get he
  obtain ⟨w, ew, rw'⟩ := r.get h2
  have hl := r.length
  have hn := line63
  have fin : EP X pins σ Q w s := ⟨z, H, I, rw', q⟩
  exact subscriptTail_builtinR (x := w) pl.typeIs slot_tuple_getitem.lookup
    (getItem_tuple (j := j) (Q := fun r s' => r = w ∧ EP X pins σ Q r s') pl (by omega) (by omega) (by rw [List.size_toArray, ← hl]; exact h1) (by simpa using ew) ⟨rfl, fin⟩) hs
/-- the list's object behind a store -/
theorem mapSeq_set (its : List Value) (n j : Nat) (u : Value) : Obj.mapSeq (·.setIfInBounds j u) { cls := .type "list", data := .seq its.toArray n } = { cls := .type "list", data := .seq (its.set j u).toArray n } := by
  simp [Obj.mapSeq]
theorem Inv.lst {pins : List (Addr × Obj)} {σ : St} {H : Hp} {s : Shared} {p : Addr} {xs : List V} (I : Inv X pins σ H s) (h : H p = some (.lst xs)) :
    ∃ (its : List Value) (n : Nat), Vals xs its ∧ s.heap.get? p = some { cls := .type "list", data := .seq its.toArray n } ∧ xs.length ≤ sizeLine := by
  obtain ⟨z, its, n, r, e⟩ := I.hok p _ h
  exact ⟨its, n, r, e, z⟩
/-- the list at p is written by an update of its object -/
theorem Inv.lstUpd {pins : List (Addr × Obj)} {σ : St} {H : Hp} {s : Shared} {p : Addr} {xs ys : List V} {its its' : List Value} {n n' : Nat} {f : Obj → Obj} (I : Inv X pins σ H s) (h : H p = some (.lst xs))
    (ho : s.heap.get? p = some { cls := .type "list", data := .seq its.toArray n }) (hf : f { cls := .type "list", data := .seq its.toArray n } = { cls := .type "list", data := .seq its'.toArray n' }) (r : Vals ys its') (hz : ys.length ≤ sizeLine) (t : Nat) :
    Inv X pins σ (upd H p (.lst ys)) { s with heap := s.heap.update p f, toks := t } := by
  have e : (s.heap.update p f).get? p = some { cls := .type "list", data := .seq its'.toArray n' } := by
    rw [Heap.get?_update_self f ho (by rw [hf] <;> rfl), hf]
  refine I.write (x := p) (e := p) (by rw [h]; trivial) (.inl rfl) (fun b u hb q => (Heap.get?_update_other _ _ (Ne.symm hb)).trans q) ⟨_, e⟩ ?_
  exact ⟨hz, its', n', r, e⟩
def rSetL : V → V → V → Hp → (Hp → Prop) → Prop := fun o i v H Q => ∃ p xs k j, o = .ref p ∧ i = .int k ∧ H p = some (.lst xs) ∧ ixN xs.length k = some j ∧ Q (upd H p (.lst (xs.set j v)))
theorem set_list : PSet X rSetL := by
  intro pins s σ H o i v ov iv u Q I ro ri rv h
  obtain ⟨p, xs, k, j, rfl, rfl, hp, hj, q⟩ := h
  cases ro
  obtain ⟨t, rfl⟩ := ri
  obtain ⟨its, n, r, ho, hz⟩ := I.lst hp
  obtain ⟨h1, h2, h3, h4⟩ := ixN_seq hj
  have hl := r.length
  have hn := line63
  have I' : Inv X pins σ (upd H p (.lst (xs.set j v))) { s with heap := s.heap.update p (Obj.mapSeq (·.setIfInBounds j u)) } :=
    I.lstUpd hp ho (mapSeq_set its n j u) (r.set rv j) (by rw [List.length_set]; exact hz) s.toks
  by_cases h0 : 0 ≤ k
  · have hk : k.toNat = j := by
      rw [seqIndex_of h0 h4] at h1
      exact Option.some.inj h1
    exact PySem.W.ki_setAt ho h0 (by omega) (by rw [List.size_toArray, ← hl]; exact h4) (by rw [hk]; exact ⟨_, I', q⟩)
  · have hk : (k + (its.toArray.size : Int)).toNat = j := by
      rw [seqIndex_neg (by omega) h3] at h1
      rw [List.size_toArray, ← hl]
      exact Option.some.inj h1
    exact PySem.W.ki_setBack ho (by omega) (by rw [List.size_toArray, ← hl]; exact h3) (by omega) (by rw [hk]; exact ⟨_, I', q⟩)

theorem slice_bounds (lo hi : Option Int) (n : Nat) : (sliceBounds lo hi none n).1 = ((HT.sIx n 0 lo : Nat) : Int) ∧ (sliceBounds lo hi none n).2.1 = ((HT.sIx n n hi : Nat) : Int) ∧ (sliceBounds lo hi none n).2.2 = 1 := by
  refine ⟨?_, ?_, rfl⟩
  · cases lo with
    | none => simp [sliceBounds, HT.sIx]
    | some i =>
      simp only [sliceBounds, HT.sIx, Option.getD_none, show (1 : Int) > 0 by decide, if_true]
      by_cases h : i < 0
      · simp only [h, if_true] <;> omega
      · simp only [h, if_false] <;> omega
  · cases hi with
    | none => simp [sliceBounds, HT.sIx]
    | some i =>
      simp only [sliceBounds, HT.sIx, Option.getD_none, show (1 : Int) > 0 by decide, if_true]
      by_cases h : i < 0
      · simp only [h, if_true] <;> omega
      · simp only [h, if_false] <;> omega
theorem slicePick_cut (its : List Value) (lo hi : Option Int) : slicePick its.toArray lo hi none = ((its.drop (HT.sIx its.length 0 lo)).take (HT.sIx its.length its.length hi - HT.sIx its.length 0 lo)).toArray := by
  obtain ⟨h1, h2, h3⟩ := slice_bounds lo hi its.toArray.size
  unfold slicePick
  rw [h1, h2, h3]
  simp only [sliceRange_one, pick_run, List.size_toArray] <;> rfl
/-- xs[lo:hi] of a list: a new list -/
def rSlL (K : PySem.W.Frag) : V → Option Int → Option Int → Hp → VK → Prop := fun x lo hi H Q => ∃ a xs, x = .ref a ∧ SqL K H a xs ∧ ∀ p, H p = none → Q (.ref p) (upd H p (.lst (cutV xs lo hi)))
theorem sl_list : SlR X (rSlL X.K) := by
  intro pins s σ H x v vl vu lo hi sl Q I rx hs pl pu h
  obtain ⟨a, xs, rfl, hx, q⟩ := h
  cases rx
  obtain ⟨its, r, ht, hz⟩ := I.list hx
  have hlen := r.length
  refine ⟨"list", _, slot_list_getitem.lookup, ht.isList.typeIs, ?_⟩
  refine wpAny_getItem_list_slice ht.isList hs pl pu .none (by simp) ?_ (by rw [List.size_toArray] <;> omega)
  rw [slicePick_cut, ← hlen]
  refine ⟨.ref s.heap.objs.size, _, I.laid (t' := s.toks) (o := .lst (cutV xs lo hi)) (fun b ob q => Heap.get?_push_of_some _ q) (Nat.le_refl _) ?_, rfl, q _ (I.hok.fresh (Nat.le_refl _))⟩
  exact ⟨Nat.le_trans (cutV_length xs lo hi) hz, _, 0, (r.drop (HT.sIx xs.length 0 lo)).take (HT.sIx xs.length xs.length hi - HT.sIx xs.length 0 lo), Heap.get?_push_size _ rfl⟩

def flatV : V → Bool
  | .non => true
  | .bl _ => true
  | .int _ => true
  | .str _ => true
  | _ => false
/-- == of flat values -/
def eqV : V → V → Bool
  | .non, .non => true
  | .bl a, .bl b => a == b
  | .bl a, .int b => (if a then 1 else 0) == b
  | .int a, .bl b => a == (if b then 1 else 0)
  | .int a, .int b => a == b
  | .str a, .str b => a == b
  | _, _ => false
theorem eqAt_V {A : Around} {s : Shared} {y x : V} {u v : Value} (ry : RelV y u) (rx : RelV x v) (fy : flatV y = true) (fx : flatV x = true) : SeqAt.EqAt A s u v (eqV y x) := by
  cases y with
  | non =>
    cases ry
    cases x with
    | non => cases rx; exact SeqAt.EqAt.same _
    | bl b => cases rx; exact SeqAt.EqAt.none_bool b
    | int b => obtain ⟨t, rfl⟩ := rx; exact SeqAt.EqAt.none_int b t
    | str b => obtain ⟨t, rfl⟩ := rx; exact SeqAt.EqAt.none_str b t
    | _ => exact absurd (show false = true from fx) Bool.false_ne_true
  | bl a =>
    cases ry
    cases x with
    | non => cases rx; exact SeqAt.EqAt.bool_none a
    | bl b => cases rx; exact SeqAt.EqAt.bool_bool a b
    | int b => obtain ⟨t, rfl⟩ := rx; exact SeqAt.EqAt.bool_int a b t
    | str b => obtain ⟨t, rfl⟩ := rx; exact SeqAt.EqAt.bool_str a b t
    | _ => exact absurd (show false = true from fx) Bool.false_ne_true
  | int a =>
    obtain ⟨t', rfl⟩ := ry
    cases x with
    | non => cases rx; exact SeqAt.EqAt.int_none a t'
    | bl b => cases rx; exact SeqAt.EqAt.int_bool a t' b
    | int b => obtain ⟨t, rfl⟩ := rx; exact SeqAt.EqAt.int_int a t' b t
    | str b => obtain ⟨t, rfl⟩ := rx; exact SeqAt.EqAt.int_str a t' b t
    | _ => exact absurd (show false = true from fx) Bool.false_ne_true
  | str a =>
    obtain ⟨t', rfl⟩ := ry
    cases x with
    | non => cases rx; exact SeqAt.EqAt.str_none a t'
    | bl b => cases rx; exact SeqAt.EqAt.str_bool a t' b
    | int b => obtain ⟨t, rfl⟩ := rx; exact SeqAt.EqAt.str_int a t' b t
    | str b => obtain ⟨t, rfl⟩ := rx; exact SeqAt.EqAt.str_str a t' b t
    | _ => exact absurd (show false = true from fx) Bool.false_ne_true
  | _ => exact absurd (show false = true from fy) Bool.false_ne_true
theorem call_list_of : CallR X (.type "list") (fun xs H Q => ∃ p ys, xs = [.ref p] ∧ (SqL X.K H p ys ∨ SqT X.K H p ys) ∧ ∀ l, H l = none → Q (.ref l) (upd H l (.lst ys))) := by
  intro pins s σ H xs us Q I r h
  obtain ⟨p, ys, rfl, hq, q⟩ := h
  obtain ⟨u, rfl, rx⟩ := vals1 r
  cases rx
  have fin : ∀ (its : List Value), Vals ys its → ys.length ≤ sizeLine → ∀ (h' : Heap) (c' : Nat), (∀ b o', s.heap.get? b = some o' → h'.get? b = some o') →
      h'.get? s.heap.objs.size = some { cls := .type "list", dict := none, data := .seq its.toArray c', slots := #[] } → EP X pins σ Q (.ref s.heap.objs.size) { s with heap := h' } := fun its r' hz h' c' kp e =>
    ⟨.ref s.heap.objs.size, _, I.laid (t' := s.toks) kp (Nat.le_refl _) (show ObjOk X.prog X.w _ h' _ (.lst ys) from ⟨hz, its, c', r', e⟩), rfl, q _ (I.hok.fresh (Nat.le_refl _))⟩
  rcases hq with hq | hq
  · obtain ⟨its, r', pl, hz⟩ := I.list hq
    have hlen := r'.length
    obtain ⟨o, ho, hc, n, hd⟩ := pl.isList
    exact call_list_seq p (.inl rfl) ho hc hd (fun h' c' kp e => fin its r' hz h' c' kp e) (by simp only [List.size_toArray] <;> omega)
  · obtain ⟨its, r', pl, hz⟩ := I.tuple hq
    have hlen := r'.length
    obtain ⟨o, ho, hc, n, hd⟩ := pl
    exact call_list_seq p (.inr rfl) ho hc hd (fun h' c' kp e => fin its r' hz h' c' kp e) (by simp only [List.size_toArray] <;> omega)
theorem call_tuple_of : CallR X (.type "tuple") (fun xs H Q => ∃ p ys, xs = [.ref p] ∧ ((SqL X.K H p ys ∧ ∀ l, H l = none → Q (.ref l) (upd H l (.tup ys))) ∨ (SqT X.K H p ys ∧ Q (.ref p) H))) := by
  intro pins s σ H xs us Q I r h
  obtain ⟨p, ys, rfl, h⟩ := h
  obtain ⟨u, rfl, rx⟩ := vals1 r
  cases rx
  rcases h with ⟨hq, q⟩ | ⟨hq, q⟩
  · obtain ⟨its, r', pl, hz⟩ := I.list hq
    have hlen := r'.length
    refine call_tuple_list pl.isList (fun h' kp => ?_) (by simp only [List.size_toArray] <;> omega)
    have I1 : Inv X pins σ H { s with heap := h' } := I.kept (t' := s.toks) kp
    have I2 : Inv X pins σ (upd H h'.objs.size (.tup ys)) { s with heap := h'.push { cls := .type "tuple", data := .seq its.toArray } } :=
      I1.laid (t' := s.toks) (fun b o e => Heap.get?_push_of_some _ e) (Nat.le_refl _) (show ObjOk X.prog X.w _ _ _ (.tup ys) from ⟨hz, its, r', IsTup.new _ _⟩)
    exact ⟨.ref h'.objs.size, _, I2, rfl, q _ (I1.hok.fresh (Nat.le_refl _))⟩
  · obtain ⟨its, r', pl, hz⟩ := I.tuple hq
    exact call_tuple_same pl ⟨.ref p, H, I, rfl, q⟩

/-- the value is of that builtin type -/
def tyV (K : PySem.W.Frag) (T : String) (x : V) (H : Hp) : Prop := match x with
  | .str _ => T = "str"
  | .int _ => T = "int"
  | .ref p => (T = "list" ∧ ∃ xs, SqL K H p xs) ∨ (T = "tuple" ∧ ∃ o, K.lookup p = some o ∧ o.cls = .type "tuple" ∧ o.dict = none) ∨
      (T = "dict" ∧ ((∃ kvs, H p = some (.dK kvs)) ∨ ∃ kvs, H p = some (.dT kvs))) ∨ (T = "set" ∧ ∃ S n, H p = some (.set S n))
  | _ => False
theorem tyV_is {pins : List (Addr × Obj)} {σ : St} {H : Hp} {s : Shared} {T : String} {x : V} {v : Value} (I : Inv X pins σ H s) (r : RelV x v) (ty : tyV X.K T x H) :
    s.TypeIs v T ∧ ∀ a, v = .ref a → ∃ ob, s.heap.get? a = some ob ∧ ob.dict = none := by
  cases x with
  | str z =>
    obtain ⟨t, rfl⟩ := r
    cases (show T = "str" from ty)
    exact ⟨typeIs_str s z t, fun _ e => nomatch e⟩
  | int i =>
    obtain ⟨t, rfl⟩ := r
    cases (show T = "int" from ty)
    exact ⟨typeIs_int s i t, fun _ e => nomatch e⟩
  | ref p =>
    cases r
    rcases ty with ⟨rfl, xs, hq⟩ | ⟨rfl, o, hk, hc, hd⟩ | ⟨rfl, hk⟩ | ⟨rfl, S, n, hk⟩
    · obtain ⟨its, _, pl, _⟩ := I.list hq
      refine ⟨pl.isList.typeIs, fun a e => ?_⟩
      cases e
      obtain ⟨o, n, e, c, hd, _⟩ := pl
      exact ⟨o, e, hd⟩
    · refine ⟨⟨o, I.kIn p o hk, hc⟩, fun a e => ?_⟩
      cases e
      exact ⟨o, I.kIn _ o hk, hd⟩
    · have z : ∃ o, s.heap.get? p = some o ∧ o.ExactDict := by
        rcases hk with ⟨kvs, hk⟩ | ⟨kvs, hk⟩
        · obtain ⟨_, _, _, _, o, _, _, e, ex, _⟩ := I.hok p _ hk
          exact ⟨o, e, ex⟩
        · obtain ⟨_, _, _, _, o, _, _, e, ex, _⟩ := I.hok p _ hk
          exact ⟨o, e, ex⟩
      obtain ⟨o, e, ex⟩ := z
      refine ⟨⟨o, e, ex.1⟩, fun a e2 => ?_⟩
      cases e2
      exact ⟨o, e, ex.2.1⟩
    · obtain ⟨o, _, _, _, e, ex, _⟩ := I.hok p _ hk
      refine ⟨⟨o, e, ex.1⟩, fun a e2 => ?_⟩
      cases e2
      exact ⟨o, e, ex.2.1⟩
  | _ => exact False.elim ty
def tBM (K : PySem.W.Frag) (T : String) (r : V → List V → Hp → VK → Prop) (to : TE) (t : TA) : TE := fun σ H Q => to σ H fun x H1 => tyV K T x H1 ∧ t σ H1 fun xs H2 => r x xs H2 Q
variable {o e : Expr} {es : List Expr} {to : TE} {t : TA} {name : Str} {apos cpos : Pos} {T id : String} {r : V → List V → Hp → VK → Prop}
theorem pe_bm (pa : PlainAttrs T) (slot : Slot T name id) (hty : typeOf (.builtin id) = pure (.type "method_descriptor")) (hm : MtR X id r) (ho : PE X o to) (ha : PA X (e :: es) t)
    (hbase : attributeBase o name X.env (eval o X.env) = eval o X.env := by rfl)
    (hfew : ((backTo cpos (starEach (e :: es) X.env)).all (fun x => !x.1) && (backToKw cpos (keywordEach [] X.env)).all (fun x => x.1.isSome)
      && decide ((e :: es).length + ([] : List Keyword).length + (if ([] : List Keyword).isEmpty then 0 else 1) < 30)) = true := by rfl)
    (hline : (apos.endLine == cpos.line) = true := by rfl) (hs : starEach (e :: es) X.env = (false, eval e X.env) :: starEach es X.env := by rfl) (hplain : (backTo cpos (starEach es X.env)).any (·.1) = false := by rfl) :
    PE X (.Call (.Attribute o name apos) (e :: es) [] cpos) (tBM X.K T r to t) := by
  intro pins s σ H Q I h
  refine wpAny_Call_method_late hbase hfew hline rfl (thn (ho pins s σ H _ I h) fun v s1 ⟨x, H1, I1, r1, ty, q1⟩ => ?_)
  obtain ⟨h1, h2⟩ := tyV_is I1 r1 ty
  refine ⟨T, id, pa, slot, hty, h1, h2, ?_⟩
  have hA := ha cpos pins s1 σ H1 _ I1 q1
  rw [hs] at hA ⊢
  refine Calls.callWith_builtin (by show (false || (backTo cpos (starEach es X.env)).any (·.1)) = false; rw [hplain] <;> rfl) (Calls.evalArgs_plain ?_)
  exact thn hA fun us s2 ⟨vs, H2, I2, r2, q2⟩ => hm pins s2 σ H2 x vs v us Q I2 r1 r2 q2
/- xs.append(e), list.index on a module's tuple .. are MtR facts of 06m -/
end
end L2

namespace L2
open PySem PySem.Spec PyProof.Rows

def MtM (X : Cx) (id : String) (r : V → List V → Hp → VK → Prop) : Prop :=
  ∀ (pins : List (Addr × Obj)) (s : Shared) (σ : St) (H : Hp) (x : V) (xs : List V) (v : Value) (us : List Value) (Q : VK), Inv X pins σ H s → RelV x v → Vals xs us → r x xs H Q →
    wpAny (model X.prog X.w) X.A (call (.builtin id) (v :: us)) (EP X pins σ Q) X.xe s

theorem Vals.one : ∀ {x : V} {us : List Value}, Vals [x] us → ∃ u, us = [u] ∧ RelV x u
  | _, _, .cons r .nil => ⟨_, rfl, r⟩
theorem Vals.two : ∀ {x y : V} {us : List Value}, Vals [x, y] us → ∃ u v, us = [u, v] ∧ RelV x u ∧ RelV y v
  | _, _, _, .cons r (.cons q .nil) => ⟨_, _, rfl, r, q⟩
theorem Vals.rep {xs : List V} {us : List Value} (h : Vals xs us) : ∀ k : Nat, Vals (List.replicate k xs).flatten (List.replicate k us).flatten
  | 0 => .nil
  | k + 1 => by
    rw [List.replicate_succ, List.replicate_succ, List.flatten_cons, List.flatten_cons]
    exact Vals.append h (Vals.rep h k)
theorem foldl_rep (its : List Value) : ∀ (k : Nat) (acc : List Value),
    List.foldl (fun x1 x2 => x1 ++ x2) acc.toArray (List.replicate k its.toArray) = (acc ++ (List.replicate k its).flatten).toArray
  | 0, acc => by simp
  | k + 1, acc => by
    have e : acc.toArray ++ its.toArray = (acc ++ its).toArray := by simp
    have e2 : (acc ++ its) ++ (List.replicate k its).flatten = acc ++ (List.replicate (k + 1) its).flatten := by
      rw [List.replicate_succ, List.flatten_cons, List.append_assoc]
    rw [← e2, ← foldl_rep its k (acc ++ its), ← e, List.replicate_succ, List.foldl_cons]

section
variable {X : Cx} {pins : List (Addr × Obj)} {σ : St} {H : Hp} {s : Shared} {l b : Addr} {xs ys zs : List V}

theorem Inv.lset {its its' : List Value} {n : Nat} {f : Array Value → Array Value} {t' : Nat} (I : Inv X pins σ H s) (hH : H l = some (.lst xs))
    (e : s.heap.get? l = some { cls := .type "list", data := .seq its.toArray n }) (hf : f its.toArray = its'.toArray) (hv : Vals ys its') (hz : ys.length ≤ sizeLine) :
    Inv X pins σ (upd H l (.lst ys)) { s with heap := s.heap.update l (Obj.mapSeq f), toks := t' } := by
  have q := PySem.IsL.update e f
  rw [hf] at q
  refine I.write (x := l) (e := l) (by rw [hH]; exact trivial) (.inl rfl) (fun b' u hb hu => (Heap.get?_update_other s.heap (Obj.mapSeq f) (Ne.symm hb)).trans hu) ⟨_, q⟩ ?_
  exact ⟨hz, its', _, hv, q⟩
theorem Inv.lnew {its : List Value} {t' : Nat} (I : Inv X pins σ H s) (hv : Vals ys its) (hz : ys.length ≤ sizeLine) :
    Inv X pins σ (upd H s.heap.objs.size (.lst ys)) { s with heap := s.heap.push { cls := .type "list", data := .seq its.toArray }, toks := t' } :=
  I.laid (fun _ _ q => Heap.get?_push_of_some _ q) (Nat.le_refl _) ⟨hz, its, 0, hv, Heap.get?_push_size _ rfl⟩
theorem Inv.fresh (I : Inv X pins σ H s) : H s.heap.objs.size = none := I.hok.fresh (Nat.le_refl _)
theorem Inv.lstM (I : Inv X pins σ H s) (hH : H l = some (.lst xs)) : xs.length ≤ sizeLine ∧ ∃ (its : List Value) (n : Nat), Vals xs its ∧ xs.length = its.length ∧ s.heap.get? l = some { cls := .type "list", data := .seq its.toArray n } := by
  obtain ⟨z, its, n, r, e⟩ := I.hok l _ hH
  exact ⟨z, its, n, r, r.length, e⟩

theorem notLongL {n : Nat} (h : n ≤ sizeLine) : Builtin.List.listTooLong n = false := by
  unfold Builtin.List.listTooLong
  exact decide_eq_false (by omega)
end

section
variable {X : Cx}

def rAppend : V → List V → Hp → VK → Prop := fun x vs H Q => ∃ l xs y, x = .ref l ∧ vs = [y] ∧ H l = some (.lst xs) ∧ xs.length < sizeLine ∧ Q .non (upd H l (.lst (xs ++ [y])))
theorem mt_append : MtM X "list.append" rAppend := by
  intro pins s σ H x vs v us Q I rx rv h
  obtain ⟨l, xs, y, rfl, rfl, hH, hz, q⟩ := h
  cases rx
  obtain ⟨u, rfl, ru⟩ := rv.one
  obtain ⟨z, its, n, r, hl, e⟩ := I.lstM hH
  refine call_meets F.slot_list_append ⟨_, e, rfl⟩ F.entry_list_append (F.args_list_append_2 _ _) (PySem.list_append l its.toArray n u (by rw [List.size_toArray]; omega)) ⟨e, ?_⟩
  refine ⟨.non, _, I.lset (its' := its ++ [u]) hH e (by simp) (r.append (.cons ru .nil)) ?_, rfl, q⟩
  rw [List.length_append, List.length_singleton]
  omega

def rExtend : V → List V → Hp → VK → Prop := fun x vs H Q => ∃ l b xs zs, x = .ref l ∧ vs = [.ref b] ∧ H l = some (.lst xs) ∧ H b = some (.lst zs) ∧ xs.length + zs.length ≤ sizeLine ∧ Q .non (upd H l (.lst (xs ++ zs)))
theorem mt_extend : MtM X "list.extend" rExtend := by
  intro pins s σ H x vs v us Q I rx rv h
  obtain ⟨l, b, xs, zs, rfl, rfl, hH, hB, hz, q⟩ := h
  cases rx
  obtain ⟨u, rfl, ru⟩ := rv.one
  cases ru
  obtain ⟨z, its, n, r, hl, e⟩ := I.lstM hH
  obtain ⟨z2, its2, n2, r2, hl2, e2⟩ := I.lstM hB
  have hsz : its.toArray.size + its2.toArray.size ≤ sizeLine := by rw [List.size_toArray, List.size_toArray]; omega
  have hlong : ¬ (!its.toArray.isEmpty && Builtin.List.listTooLong (its.toArray.size + its2.toArray.size)) = true := by
    rw [notLongL hsz, Bool.and_false]
    exact Bool.false_ne_true
  refine call_meets F.slot_list_extend ⟨_, e, rfl⟩ F.entry_list_extend (F.args_list_extend_2 _ _)
    (AutoSeq1.list_extend_list_list_0 l its.toArray n b its2.toArray n2 hlong (by rw [List.size_toArray]; omega) (by omega)) ⟨e, e2, ?_⟩
  refine ⟨.non, _, I.lset (its' := its ++ its2) hH e (by simp) (r.append r2) ?_, rfl, q⟩
  rw [List.length_append]
  omega

def rCat : R2 := fun x y H Q => ∃ l b xs zs, x = .ref l ∧ y = .ref b ∧ H l = some (.lst xs) ∧ H b = some (.lst zs) ∧ xs.length + zs.length ≤ sizeLine ∧ ∀ p, H p = none → Q (.ref p) (upd H p (.lst (xs ++ zs)))
theorem op_cat : OpR X (binaryOp .Add) rCat := by
  intro pins s σ H x y v u Q I rx ry h
  obtain ⟨l, b, xs, zs, rfl, rfl, hH, hB, hz, q⟩ := h
  cases rx
  cases ry
  obtain ⟨z, its, n, r, hl, e⟩ := I.lstM hH
  obtain ⟨z2, its2, n2, r2, hl2, e2⟩ := I.lstM hB
  refine PySem.P.add_list e e2 ?_ (by rw [List.size_toArray, List.size_toArray]; omega)
  have ea : its.toArray ++ its2.toArray = (its ++ its2).toArray := by simp
  rw [ea]
  exact ⟨.ref _, _, I.lnew (t' := s.toks) (r.append r2) (by rw [List.length_append]; omega), rfl, q _ I.fresh⟩
/-- a list times an int (a negative one is nothing) -/
def rRep : R2 := fun x y H Q => ∃ l k xs, x = .ref l ∧ y = .int k ∧ H l = some (.lst xs) ∧ -(2 ^ 63) ≤ k ∧ k < 2 ^ 63 ∧ xs.length * k.toNat ≤ sizeLine ∧
  ∀ p, H p = none → Q (.ref p) (upd H p (.lst (List.replicate k.toNat xs).flatten))
theorem len_rep {α : Type} (xs : List α) (k : Nat) : (List.replicate k xs).flatten.length = k * xs.length := by
  induction k with
  | zero => simp
  | succ k ih => rw [List.replicate_succ, List.flatten_cons, List.length_append, ih, Nat.succ_mul, Nat.add_comm]
theorem op_rep : OpR X (binaryOp .Mult) rRep := by
  intro pins s σ H x y v u Q I rx ry h
  obtain ⟨l, k, xs, rfl, rfl, hH, h1, h2, hz, q⟩ := h
  cases rx
  obtain ⟨t, rfl⟩ := ry
  obtain ⟨z, its, n, r, hl, e⟩ := I.lstM hH
  have hlen : its.toArray.size * k.toNat ≤ sizeLine := by rw [List.size_toArray, ← hl]; exact hz
  have hcap : ¬ its.toArray.size * k.toNat > (2 ^ 63 - 1) / 8 := by
    have : (sizeLine : Nat) ≤ (2 ^ 63 - 1) / 8 := by decide
    omega
  have hfit : ¬ (!Builtin.List.listFitsIndex k) = true := by
    rw [fitsIndex_both h1 h2]
    exact Bool.false_ne_true
  have hlong : ¬ Builtin.List.listTooLong (its.toArray.size * k.toNat) = true := by
    rw [notLongL hlen]
    exact Bool.false_ne_true
  have hnew : List.foldl (fun x1 x2 => x1 ++ x2) #[] (List.replicate (if its.toArray.isEmpty = true then 0 else k.toNat) its.toArray) = (List.replicate k.toNat its).flatten.toArray := by
    have f0 : ∀ m : Nat, List.foldl (fun x1 x2 => x1 ++ x2) #[] (List.replicate m its.toArray) = (List.replicate m its).flatten.toArray := fun m => by
      have := foldl_rep its m []
      rw [List.nil_append] at this
      exact this
    rw [f0]
    cases its with
    | nil => simp
    | cons a r' => rw [if_neg (by simp)]
  refine wpAny_binaryOp_repeat_ref (T := "list") (U := "int") (by decide) ⟨_, e, rfl⟩ (fun s' => typeIs_int s' k t) noFill_list_mul F.fills_int_mul F.slot_int_rmul repeat_list F.slot_int_index.lookup
    (call_meets F.slot_int_rmul (typeIs_int s k t) F.entry_int_rmul (F.args_int_rmul_2 _ _) (int___rmul___int_list k t l its.toArray n)
      ⟨e, rfl, ⟨_, e, rfl⟩, call_meets F.slot_list_mul ⟨_, e, rfl⟩ F.entry_list_mul (F.args_list_mul_2 _ _) (AutoListH.list___mul___list_int_3 l its.toArray n k t hfit hcap hlong) ⟨e, ?_⟩⟩)
  rw [hnew]
  exact ⟨.ref _, _, I.lnew (t' := s.toks) (r.rep k.toNat) (by rw [len_rep, Nat.mul_comm]; exact hz), rfl, q _ I.fresh⟩

end

section
variable {prog : Program} {w : World} {A : Around} {E : Value → Shared → Prop} {s : Shared}
end

section
variable {X : Cx}
end
end L2

namespace L2
open PySem PySem.Spec PyProof.Rows

section
variable {κ : Type} [DecidableEq κ]
def valV (kvs : List (κ × V)) (k : κ) : Option V := (kvs.find? fun kv => decide (kv.1 = k)).map (·.2)
/-- in its place, or at the end -/
def putK (kvs : List (κ × V)) (k : κ) (v : V) : List (κ × V) :=
  if (kvs.any fun kv => decide (kv.1 = k)) = true then kvs.map (fun kv => if kv.1 = k then (kv.1, v) else kv) else kvs ++ [(k, v)]
theorem valV_pos {p : κ × V} {r : List (κ × V)} {k : κ} (e : p.1 = k) : valV (p :: r) k = some p.2 := by simp [valV, List.find?_cons, e]
theorem valV_neg {p : κ × V} {r : List (κ × V)} {k : κ} (e : ¬ p.1 = k) : valV (p :: r) k = valV r k := by simp [valV, List.find?_cons, e]
theorem valV_any (k : κ) : ∀ kvs : List (κ × V), (kvs.any fun kv => decide (kv.1 = k)) = (valV kvs k).isSome
  | [] => rfl
  | p :: r => by
    rw [List.any_cons]
    by_cases e : p.1 = k
    · simp only [valV_pos e, decide_eq_true e, Bool.true_or, Option.isSome_some]
    · rw [valV_neg e, decide_eq_false e, Bool.false_or]; exact valV_any k r
theorem valV_map (k j : κ) (y : V) : ∀ kvs : List (κ × V), valV (kvs.map fun kv => if kv.1 = k then (kv.1, y) else kv) j = (valV kvs j).map fun x => if j = k then y else x
  | [] => rfl
  | p :: r => by
    have ih := valV_map k j y r
    rw [List.map_cons]
    by_cases h : p.1 = k
    · rw [if_pos h]
      by_cases e : p.1 = j
      · rw [valV_pos (p := (p.1, y)) e, valV_pos e, Option.map_some, if_pos (e.symm.trans h)]
      · rw [valV_neg (p := (p.1, y)) e, valV_neg e, ih]
    · rw [if_neg h]
      by_cases e : p.1 = j
      · rw [valV_pos (p := p) e, valV_pos e, Option.map_some, if_neg (fun z => h (e.trans z))]
      · rw [valV_neg (p := p) e, valV_neg e, ih]
theorem valV_snoc (k j : κ) (y : V) : ∀ kvs : List (κ × V), valV kvs k = none → valV (kvs ++ [(k, y)]) j = if j = k then some y else valV kvs j
  | [], _ => by
    by_cases e : k = j
    · rw [if_pos e.symm]; exact valV_pos (p := (k, y)) e
    · rw [if_neg (fun z => e z.symm)]; exact valV_neg (p := (k, y)) e
  | p :: r, hn => by
    rw [List.cons_append]
    have hk : ¬ p.1 = k := fun z => by rw [valV_pos z] at hn; cases hn
    rw [valV_neg hk] at hn
    have ih := valV_snoc k j y r hn
    by_cases e : p.1 = j
    · rw [valV_pos e, valV_pos e, if_neg (fun z => hk (e.trans z))]
    · rw [valV_neg e, valV_neg e, ih]
theorem valV_put (kvs : List (κ × V)) (k j : κ) (y : V) : valV (putK kvs k y) j = if j = k then some y else valV kvs j := by
  unfold putK
  by_cases a : (kvs.any fun kv => decide (kv.1 = k)) = true
  · rw [if_pos a, valV_map]
    rw [valV_any] at a
    by_cases e : j = k
    · obtain ⟨x, hx⟩ := Option.isSome_iff_exists.mp a
      rw [if_pos e, e, hx, Option.map_some, if_pos rfl]
    · rw [if_neg e]
      cases valV kvs j with
      | none => rfl
      | some x => rw [Option.map_some, if_neg e]
  · rw [if_neg a]
    refine valV_snoc k j y kvs ?_
    rw [valV_any] at a
    cases q : valV kvs k with
    | none => rfl
    | some x => rw [q] at a; exact (a rfl).elim
theorem length_putK (kvs : List (κ × V)) (k : κ) (v : V) : (putK kvs k v).length ≤ kvs.length + 1 := by
  unfold putK
  split
  · rw [List.length_map]; omega
  · rw [List.length_append, List.length_cons, List.length_nil]; omega
theorem putK_new {kvs : List (κ × V)} {k : κ} (v : V) (h : valV kvs k = none) : putK kvs k v = kvs ++ [(k, v)] := by
  unfold putK
  rw [valV_any, h]
  exact if_neg (by decide)

theorem RelO.isSome_eq {o : Option V} {u : Option Value} (r : RelO o u) : o.isSome = u.isSome := by
  cases o with
  | none => cases u with
    | none => rfl
    | some _ => exact (show False from r).elim
  | some _ => cases u with
    | none => exact (show False from r).elim
    | some _ => rfl
/-- raw tables of the same keys -/
theorem KV.val {kvs : List (κ × V)} {vs : List (κ × Value)} (r : KV kvs vs) (k : κ) : RelO (valV kvs k) (valueAt vs k) := by
  unfold KV at r
  induction r with
  | nil => exact True.intro
  | @cons p q ps qs h t ih =>
    obtain ⟨h1, h2⟩ := h
    by_cases e : p.1 = k
    · have e' : q.1 = k := h1.symm.trans e
      have b : valueAt (q :: qs) k = some q.2 := by simp [valueAt, List.find?_cons, e']
      rw [valV_pos e, b]; exact h2
    · have e' : ¬ q.1 = k := fun z => e (h1.trans z)
      have b : valueAt (q :: qs) k = valueAt qs k := by simp [valueAt, List.find?_cons, e']
      rw [valV_neg e, b]; exact ih
theorem KV.any {kvs : List (κ × V)} {vs : List (κ × Value)} (r : KV kvs vs) (k : κ) : (kvs.any fun kv => decide (kv.1 = k)) = vs.any fun kv => decide (kv.1 = k) := by
  unfold KV at r
  induction r with
  | nil => rfl
  | cons h t ih => rw [List.any_cons, List.any_cons, ih, h.1]
theorem KV.repl {kvs : List (κ × V)} {vs : List (κ × Value)} (r : KV kvs vs) (k : κ) {y : V} {u : Value} (ry : RelV y u) :
    KV (kvs.map fun kv => if kv.1 = k then (kv.1, y) else kv) (vs.map fun kv => if kv.1 = k then (kv.1, u) else kv) := by
  unfold KV at r ⊢
  induction r with
  | nil => exact .nil
  | @cons p q ps qs h t ih =>
    rw [List.map_cons, List.map_cons]
    refine .cons ?_ ih
    obtain ⟨h1, h2⟩ := h
    by_cases e : p.1 = k
    · rw [if_pos e, if_pos (h1.symm.trans e)]; exact ⟨h1, ry⟩
    · rw [if_neg e, if_neg (fun z => e (h1.trans z))]; exact ⟨h1, h2⟩
theorem KV.put {kvs : List (κ × V)} {vs : List (κ × Value)} (r : KV kvs vs) (k : κ) {y : V} {u : Value} (ry : RelV y u) : KV (putK kvs k y) (stored vs k u) := by
  unfold putK stored
  rw [r.any k]
  by_cases e : (vs.any fun kv => decide (kv.1 = k)) = true
  · rw [if_pos e, if_pos e]; exact r.repl k ry
  · rw [if_neg e, if_neg e]; exact Paired.snoc r ⟨rfl, ry⟩
theorem KV.length {kvs : List (κ × V)} {vs : List (κ × Value)} (r : KV kvs vs) : kvs.length = vs.length := Paired.length r
end


theorem kV_is {P : Program} {w : World} {k : Key} {u : Value} (r : RelV (kV k) u) : (mixKind P w).is k u = true := by
  cases k with
  | inl i => obtain ⟨t, e⟩ := (show ∃ t, u = Value.int i t from r); subst e; exact mixKind_int P w i t
  | inr x => obtain ⟨t, e⟩ := (show ∃ t, u = Value.str x t from r); subst e; exact mixKind_str P w x t
theorem items_are {P : Program} {w : World} : ∀ {ks : List Key} {us : List Value}, Vals (ks.map kV) us → ItemsAre (mixKind P w) ks us
  | [], _, r => by rw [List.map_nil] at r; cases r; exact .nil
  | k :: ks, _, r => by
    rw [List.map_cons] at r
    cases r with
    | cons h t => exact .cons (kV_is h) (items_are t)

/-- raw entries of a dict with tuple keys -/
abbrev KT (H : Hp) : List (List Key × V) → List (List Key × Addr × Value) → Prop := Paired fun p q => p.1 = q.1 ∧ H q.2.1 = some (.tup (p.1.map kV)) ∧ RelV p.2 q.2.2
theorem KT.val {H : Hp} {kvs : List (List Key × V)} {xs : List (List Key × Addr × Value)} (r : KT H kvs xs) (k : List Key) : RelO (valV kvs k) ((atKey xs k).map (·.2)) := by
  induction r with
  | nil => exact True.intro
  | @cons p q ps qs h t ih =>
    obtain ⟨h1, _, h2⟩ := h
    by_cases e : p.1 = k
    · have e' : q.1 = k := h1.symm.trans e
      have b : atKey (q :: qs) k = some q.2 := by simp [atKey, List.find?_cons, e']
      rw [valV_pos e, b]; exact h2
    · have e' : ¬ q.1 = k := fun z => e (h1.trans z)
      have b : atKey (q :: qs) k = atKey qs k := by simp [atKey, List.find?_cons, e']
      rw [valV_neg e, b]; exact ih
theorem KT.repl {H : Hp} {kvs : List (List Key × V)} {xs : List (List Key × Addr × Value)} (r : KT H kvs xs) (k : List Key) {y : V} {u : Value} (ry : RelV y u) :
    KT H (kvs.map fun kv => if kv.1 = k then (kv.1, y) else kv) (xs.map (putAt k u)) := by
  induction r with
  | nil => exact .nil
  | @cons p q ps qs h t ih =>
    rw [List.map_cons, List.map_cons]
    refine .cons ?_ ih
    obtain ⟨h1, h2, h3⟩ := h
    unfold putAt
    by_cases e : p.1 = k
    · rw [if_pos e, if_pos (h1.symm.trans e)]; exact ⟨h1, h2, ry⟩
    · rw [if_neg e, if_neg (fun z => e (h1.trans z))]; exact ⟨h1, h2, h3⟩
theorem KT.put {H : Hp} {kvs : List (List Key × V)} {xs : List (List Key × Addr × Value)} (r : KT H kvs xs) (k : List Key) {b : Addr} {y : V} {u : Value} (hb : H b = some (.tup (k.map kV))) (ry : RelV y u) :
    KT H (putK kvs k y) (storedH xs k b u) := by
  have e : (kvs.any fun kv => decide (kv.1 = k)) = (atKey xs k).isSome := by
    rw [valV_any, (r.val k).isSome_eq, Option.isSome_map]
  unfold putK storedH
  rw [e]
  by_cases q : (atKey xs k).isSome = true
  · rw [if_pos q, if_pos q]; exact r.repl k ry
  · rw [if_neg q, if_neg q]; exact Paired.snoc r ⟨rfl, hb, ry⟩
theorem KT.keeps {H H' : Hp} {kvs : List (List Key × V)} {xs : List (List Key × Addr × Value)} (r : KT H kvs xs) (ht : ∀ b ys, H b = some (.tup ys) → H' b = some (.tup ys)) : KT H' kvs xs :=
  Paired.mapP r fun _ _ z => ⟨z.1, ht _ _ z.2.1, z.2.2⟩

section
variable {P : Program} {w : World} {H : Hp} {h : Heap} {a : Addr}
theorem rd_of {u : HO} (ok : HOk P w H h) (e : Rd H a u) : ObjOk P w H h a u := e.ok ok
theorem dk_rd {kvs : List (Key × V)} (ok : HOk P w H h) (e : Rd H a (.dK kvs)) : kvs.length ≤ sizeLine ∧ (a == sysModules) = false ∧ ∃ vs, KV kvs vs ∧ h.DictOf (mixKind P w) a vs :=
  show ObjOk P w H h a (.dK kvs) from rd_of ok e
theorem dk_of {kvs : List (Key × V)} (ok : HOk P w H h) (e : H a = some (.dK kvs)) : kvs.length ≤ sizeLine ∧ (a == sysModules) = false ∧ ∃ vs, KV kvs vs ∧ h.DictOf (mixKind P w) a vs := dk_rd ok (.inl e)
/-- a tracked tuple of ints and texts is a key -/
theorem key_of {ks : List Key} (ok : HOk P w H h) (e : H a = some (.tup (ks.map kV))) : (tupleKind (mixKind P w)).is h ks a := by
  obtain ⟨_, its, r, o, h1, h2, n, h3⟩ := (show ObjOk P w H h a (.tup (ks.map kV)) from ok a _ e)
  exact ⟨o, its.toArray, n, h1, h2, h3, by simpa using items_are r⟩
theorem dt_rd {kvs : List (List Key × V)} (ok : HOk P w H h) (e : Rd H a (.dT kvs)) : kvs.length ≤ sizeLine ∧ (a == sysModules) = false ∧
    ∃ xs, KT H kvs xs ∧ h.DictOfH (tupleKind (mixKind P w)) a xs := by
  obtain ⟨z, y, xs, r, o, es, ep, h1, h2, h3, h4, h5⟩ := (show ObjOk P w H h a (.dT kvs) from rd_of ok e)
  refine ⟨z, y, xs, r, o, es, ep, h1, h2, h3, h4, fun x hx => ?_, h5⟩
  have all : ∀ {l : List (List Key × V)} {m : List (List Key × Addr × Value)}, KT H l m → ∀ x ∈ m, (tupleKind (mixKind P w)).is h x.1 x.2.1 := by
    intro l m q
    induction q with
    | nil => intro x hx; exact nomatch hx
    | @cons p q ps qs hq t ih =>
      intro x hx
      rcases List.mem_cons.mp hx with e | hx
      · subst e
        exact key_of ok (by rw [← hq.1]; exact hq.2.1)
      · exact ih x hx
  exact all r x hx
theorem dt_of {kvs : List (List Key × V)} (ok : HOk P w H h) (e : H a = some (.dT kvs)) : kvs.length ≤ sizeLine ∧ (a == sysModules) = false ∧
    ∃ xs, KT H kvs xs ∧ h.DictOfH (tupleKind (mixKind P w)) a xs := dt_rd ok (.inl e)
end

/-- what the dict at a holds at the key y -/
def DGet (H : Hp) (a : Addr) (y : V) (r : Option V) : Prop :=
  (∃ kvs k, Rd H a (.dK kvs) ∧ y = kV k ∧ r = valV kvs k) ∨ ∃ kvs k b, Rd H a (.dT kvs) ∧ y = .ref b ∧ H b = some (.tup (k.map kV)) ∧ r = valV kvs k
/-- the heap behind a[y] = v -/
def DPut (H : Hp) (a : Addr) (y v : V) (H' : Hp) : Prop :=
  (∃ kvs k, H a = some (.dK kvs) ∧ y = kV k ∧ kvs.length < sizeLine ∧ H' = upd H a (.dK (putK kvs k v))) ∨
  ∃ kvs k b, H a = some (.dT kvs) ∧ y = .ref b ∧ H b = some (.tup (k.map kV)) ∧ kvs.length < sizeLine ∧ H' = upd H a (.dT (putK kvs k v))
theorem DGet.k {H : Hp} {a : Addr} {kvs : List (Key × V)} {k : Key} (e : H a = some (.dK kvs)) : DGet H a (kV k) (valV kvs k) := .inl ⟨kvs, k, .inl e, rfl, rfl⟩
theorem DPut.k {H : Hp} {a : Addr} {kvs : List (Key × V)} {k : Key} {v : V} (e : H a = some (.dK kvs)) (hl : kvs.length < sizeLine) : DPut H a (kV k) v (upd H a (.dK (putK kvs k v))) := .inl ⟨kvs, k, e, rfl, hl, rfl⟩
section
variable {X : Cx} {pins : List (Addr × Obj)} {σ : St} {H : Hp} {s : Shared} {a : Addr} {y v : V} {u r : Value} {o : Option V} {A : Around} {E : Value → Shared → Prop}

theorem Inv.big (I : Inv X pins σ H s) : sysModules < s.heap.objs.size := by
  have h : mainGlobals < s.heap.objs.size := (I.mod.glob.keeps I.bk).lt
  exact Nat.lt_trans (by decide) h

/-- d[y], there -/
theorem d_getItem {Q : Value → Shared → Prop} (hu : A.units + 1 < cLine) (I : Inv X pins σ H s) (g : DGet H a y (some v)) (ry : RelV y u) (h : ∀ w' s', Inv X pins σ H s' → RelV v w' → Q w' s') :
    wpAny (model X.prog X.w) A (getItem (.ref a) u) Q E s := by
  rcases g with ⟨kvs, k, e, ey, l⟩ | ⟨kvs, k, b, e, ey, eb, l⟩
  · subst ey
    obtain ⟨z, hd, vs, rel, dd⟩ := dk_rd I.hok e
    obtain ⟨w', hw, rw'⟩ := RelO.some_of (v := v) (o := valueAt vs k) (by rw [l]; exact rel.val k)
    exact wpAny_getItem_of (kV_is ry) dd.mapOf hw (h w' _ (I.tok _) rw')
  · subst ey
    cases (show u = Value.ref b from ry)
    obtain ⟨z, hd, xs, rel, dd⟩ := dt_rd I.hok e
    obtain ⟨w', hw, rw'⟩ := RelO.some_of (v := v) (o := (atKey xs k).map (·.2)) (by rw [l]; exact rel.val k)
    obtain ⟨p, hp, hp2⟩ := Option.map_eq_some_iff.mp hw
    refine wpAny_getItem_heap (tupleKind_room_in1 hu) (key_of I.hok eb) dd hp ?_
    rw [hp2]
    exact h w' _ (I.tok _) rw'
/-- y in d -/
theorem d_in {Q : Value → Shared → Prop} (hu : A.units + 1 < cLine) (I : Inv X pins σ H s) (g : DGet H a y o) (ry : RelV y u) (h : ∀ s', Inv X pins σ H s' → Q (.bool o.isSome) s') :
    wpAny (model X.prog X.w) A (compareOp .In u (.ref a)) Q E s := by
  rcases g with ⟨kvs, k, e, ey, l⟩ | ⟨kvs, k, b, e, ey, eb, l⟩
  · subst ey
    obtain ⟨z, hd, vs, rel, dd⟩ := dk_rd I.hok e
    refine wpAny_in_of (kV_is ry) hd dd.mapOf ?_
    rw [← (rel.val k).isSome_eq, ← l]
    exact h _ (I.tok _)
  · subst ey
    cases (show u = Value.ref b from ry)
    obtain ⟨z, hd, xs, rel, dd⟩ := dt_rd I.hok e
    refine wpAny_in_heap (tupleKind_room_in1 hu) (key_of I.hok eb) hd dd ?_
    have q := (rel.val k).isSome_eq
    rw [Option.isSome_map] at q
    rw [← q, ← l]
    exact h _ (I.tok _)
theorem d_notIn {Q : Value → Shared → Prop} (hu : A.units + 1 < cLine) (I : Inv X pins σ H s) (g : DGet H a y o) (ry : RelV y u) (h : ∀ s', Inv X pins σ H s' → Q (.bool (!o.isSome)) s') :
    wpAny (model X.prog X.w) A (compareOp .NotIn u (.ref a)) Q E s := by
  rcases g with ⟨kvs, k, e, ey, l⟩ | ⟨kvs, k, b, e, ey, eb, l⟩
  · subst ey
    obtain ⟨z, hd, vs, rel, dd⟩ := dk_rd I.hok e
    refine wpAny_notIn_of (kV_is ry) hd dd.mapOf ?_
    rw [← (rel.val k).isSome_eq, ← l]
    exact h _ (I.tok _)
  · subst ey
    cases (show u = Value.ref b from ry)
    obtain ⟨z, hd, xs, rel, dd⟩ := dt_rd I.hok e
    refine wpAny_notIn_heap (tupleKind_room_in1 hu) (key_of I.hok eb) hd dd ?_
    have q := (rel.val k).isSome_eq
    rw [Option.isSome_map] at q
    rw [← q, ← l]
    exact h _ (I.tok _)
/-- a dict's object is replaced -/
theorem d_write {h' : Heap} {t' : Nat} {ob : HO} (I : Inv X pins σ H s) (mu : Mut (H a)) (hs : Heap.SameBut a s.heap h') (he : ∃ q, h'.get? a = some q) (new : ObjOk X.prog X.w (upd H a ob) h' a ob) :
    Inv X pins σ (upd H a ob) { s with heap := h', toks := t' } :=
  I.write (x := a) (e := a) mu (.inl rfl) (fun b q hb z => (hs.2 b hb).trans z) he new
theorem dk_new {P : Program} {w : World} {H' : Hp} {h' : Heap} {kvs : List (Key × V)} {vs : List (Key × Value)} (z : kvs.length ≤ sizeLine) (hd : (a == sysModules) = false) (rel : KV kvs vs) (dd : h'.DictOf (mixKind P w) a vs) :
    ObjOk P w H' h' a (.dK kvs) := ⟨z, hd, vs, rel, dd⟩
/-- d[y] = v -/
theorem d_setItem {H' : Hp} {Q : Unit → Shared → Prop} (hu : A.units + 1 < cLine) (I : Inv X pins σ H s) (g : DPut H a y v H') (ry : RelV y u) (rv : RelV v r) (h : ∀ s', Inv X pins σ H' s' → Q () s') :
    wpAny (model X.prog X.w) A (setItem (.ref a) u r) Q E s := by
  rcases g with ⟨kvs, k, e, ey, l, eH⟩ | ⟨kvs, k, b, e, ey, eb, l, eH⟩
  · subst ey eH
    obtain ⟨z, hd, vs, rel, dd⟩ := dk_of I.hok e
    have hz : vs.length ≤ sizeLine := by rw [← rel.length]; exact z
    have hl : (putK kvs k v).length ≤ sizeLine := by have := length_putK kvs k v; omega
    refine wpAny_setItem_pairs (hsz := hz) (kV_is ry) dd fun h' dd' hs => h _ ?_
    have he : ∃ q, h'.get? a = some q := let ⟨q, _, _, hq, _⟩ := dd'; ⟨q, hq⟩
    exact d_write I (by rw [e]; exact True.intro) hs he (dk_new hl hd (rel.put k rv) dd')
  · subst ey eH
    cases (show u = Value.ref b from ry)
    obtain ⟨z, hd, xs, rel, dd⟩ := dt_of I.hok e
    have hz : xs.length ≤ sizeLine := by rw [← Paired.length rel]; exact z
    have hl : (putK kvs k v).length ≤ sizeLine := by have := length_putK kvs k v; omega
    refine wpAny_setItem_heap (hsz := hz) (tupleKind_room_in1 hu) (key_of I.hok eb) dd fun h' dd' hs => h _ ?_
    obtain ⟨q, es, ep, hq, h2, h3, h4, _, h5⟩ := dd'
    refine d_write I (by rw [e]; exact True.intro) hs ⟨q, hq⟩ ⟨hl, hd, _, (rel.put k eb rv).keeps fun c ys ec => ?_, q, es, ep, hq, h2, h3, h4, h5⟩
    rw [upd_ne (ne_of ec e (fun z => nomatch z))]
    exact ec
end

section
variable {X : Cx} {pins : List (Addr × Obj)} {σ : St} {H : Hp} {s : Shared} {a : Addr} {kvs : List (Key × V)} {k : Key} {u : Value} {A : Around} {E : Value → Shared → Prop}
end


/-- the element of a subscription, not a slice -/
def NoSl (i : Expr) : Prop := ∀ ov iv, subscripted i false ov iv = operate [ov, iv] (getItem ov iv)
theorem subD_of {prog : Program} {w : World} {A : Around} {E : Value → Shared → Prop} {s : Shared} {env : Env} {value slice : Expr} {pos : Pos} {T id : String} {Q : Value → Shared → Prop}
    (hl : typeLookup (.type T) "__getitem__" = pure (some (.builtin id))) (hs : NoSl slice)
    (h : wpAny (model prog w) A (eval value env) (fun o s₁ => wpAny (model prog w) A (eval slice env) (fun i s₂ => s₂.TypeIs o T ∧ wpAny (model prog w) A (getItem o i) Q E s₂) E s₁) E s) :
    wpAny (model prog w) A (eval (.Subscript value slice pos) env) Q E s := by
  refine Subscript_ (wpAny_mono h (fun o s₁ h₁ => wpAny_mono h₁ (fun i s₂ h₂ => ?_) fun _ _ x => x) fun _ _ x => x)
  obtain ⟨hT, h₂⟩ := h₂
  unfold subscriptTail
  refine wpAny_bind ?_
  rw [getitemInPython_of_ne hT.not_modules]
  refine wpAny_bind (wpAny_specialOf hT hl ?_)
  have fin : wpAny (model prog w) A (subscripted slice false o i) (fun r s₃ => wpAny (model prog w) A (letTemporaryGo value o r >>= fun _ => pure r) Q E s₃) E s₂ := by
    rw [hs o i]
    exact wpAny_operating (wpAny_mono h₂ (fun r s₃ h₃ => wpAny_bind (wpAny_letTemporaryGo (wpAny_pure h₃))) fun _ _ x => x)
  first
    | exact wpAny_pure (wpAny_bind fin)
    | exact wpAny_bind (wpAny_pure (wpAny_bind fin))
    | exact wpAny_bind fin

theorem dict_typeIs {X : Cx} {pins : List (Addr × Obj)} {σ : St} {H : Hp} {s : Shared} {a : Addr} {y : V} {o : Option V} (I : Inv X pins σ H s) (g : DGet H a y o) : s.TypeIs (.ref a) "dict" := by
  rcases g with ⟨kvs, k, e, _, _⟩ | ⟨kvs, k, b, e, _, _, _⟩
  · obtain ⟨_, _, vs, _, dd⟩ := dk_rd I.hok e
    exact dd.typeIs
  · obtain ⟨_, _, xs, _, dd⟩ := dt_rd I.hok e
    exact dd.typeIs
section
variable {X : Cx} {o i e value : Expr} {pos pos' tpos : Pos} {td ty tv : TE}
end


theorem dk_empty {P : Program} {w : World} {H : Hp} (h : Heap) (hb : sysModules < h.objs.size) : ObjOk P w H (h.push { cls := .type "dict", data := .dict #[] }) h.objs.size (.dK []) :=
  ⟨Nat.zero_le _, beq_eq_false_iff_ne.mpr (Ne.symm (Nat.ne_of_lt hb)), [], .nil, Heap.DictOf.new h⟩
/-- {}, to be a dict of the kind that is wanted -/
def tDNewK : TE := fun _ H Q => ∀ p, H p = none → Q (.ref p) (upd H p (.dK []))
section
variable {X : Cx} {pos : Pos}
theorem pe_dnewK : PE X (.Dict [] [] pos) tDNewK := fun pins s σ H Q I h =>
  wpAny_Dict_empty ⟨.ref s.heap.objs.size, _, I.laid (a := s.heap.objs.size) (o := .dK []) (t' := s.toks) (fun _ _ q => Heap.get?_push_of_some _ q) (Nat.le_refl _) (dk_empty s.heap I.big), rfl, h _ (I.hok.fresh (Nat.le_refl _))⟩
end

/-- the pairs of a display, from the left -/
def tPairs : List (TE × TE) → St → Hp → (List (V × V) → Hp → Prop) → Prop
  | [], _, H, Q => Q [] H
  | (tk, tv) :: r, σ, H, Q => tk σ H fun x H1 => tv σ H1 fun y H2 => tPairs r σ H2 fun ps H3 => Q ((x, y) :: ps) H3
abbrev VV : List (V × V) → List (Value × Value) → Prop := Paired fun p q => RelV p.1 q.1 ∧ RelV p.2 q.2
def PPs (X : Cx) (pos : Pos) (keys : List (Option Expr)) (values : List Expr) (trs : List (TE × TE)) : Prop :=
  ∀ (pins : List (Addr × Obj)) (s : Shared) (σ : St) (H : Hp) (Q : List (V × V) → Hp → Prop), Inv X pins σ H s → tPairs trs σ H Q →
    wpAny (model X.prog X.w) X.A (evalPairs (pairTrees keys values X.env pos)) (fun vs s' => ∃ ps H', Inv X pins σ H' s' ∧ VV ps vs ∧ Q ps H') X.xe s
theorem pps_nil {X : Cx} {pos : Pos} : PPs X pos [] [] [] := fun pins s σ H Q I h => pairTrees_nil_walk ⟨[], H, I, .nil, h⟩
theorem pps_cons {X : Cx} {pos : Pos} {k v : Expr} {ks : List (Option Expr)} {vs : List Expr} {tk tv : TE} {trs : List (TE × TE)} (hk : PE X k tk) (hv : PE X v tv) (hr : PPs X pos ks vs trs) :
    PPs X pos (some k :: ks) (v :: vs) ((tk, tv) :: trs) := fun pins s σ H Q I h =>
  pairTrees_cons_walk (thn (hk pins s σ H _ I h) fun u s1 ⟨x, H1, I1, rx, q1⟩ => thn (hv pins s1 σ H1 _ I1 q1) fun w2 s2 ⟨y, H2, I2, ry, q2⟩ =>
    thn (hr pins s2 σ H2 _ I2 q2) fun ws s3 ⟨ps, H3, I3, rel, q3⟩ => ⟨(x, y) :: ps, H3, I3, .cons ⟨rx, ry⟩ rel, q3⟩)

def mergeK (kvs more : List (Key × V)) : List (Key × V) := more.foldl (fun acc kv => putK acc kv.1 kv.2) kvs
theorem KV.merge : ∀ {more : List (Key × V)} {rs : List (Key × Value)} {kvs : List (Key × V)} {vs : List (Key × Value)}, KV more rs → KV kvs vs → KV (mergeK kvs more) (merged vs rs) := by
  intro more rs kvs vs r
  unfold KV at r
  induction r generalizing kvs vs with
  | nil => intro q; exact q
  | @cons p q ps qs h t ih =>
    intro r0
    have e : KV (putK kvs p.1 p.2) (stored vs q.1 q.2) := by
      have := r0.put p.1 h.2
      rw [← h.1]; exact this
    exact ih e
theorem length_mergeK : ∀ (more kvs : List (Key × V)), (mergeK kvs more).length ≤ kvs.length + more.length
  | [], kvs => by show kvs.length ≤ kvs.length + 0; omega
  | p :: r, kvs => by
    have h1 := length_mergeK r (putK kvs p.1 p.2)
    have h2 := length_putK kvs p.1 p.2
    show (mergeK (putK kvs p.1 p.2) r).length ≤ _
    rw [List.length_cons]; omega
theorem carries_of {P : Program} {w : World} : ∀ {kvs : List (Key × V)} {ws : List (Value × Value)}, VV (kvs.map fun kv => (kV kv.1, kv.2)) ws → ∃ rs, Carries (mixKind P w) ws rs ∧ KV kvs rs
  | [], _, r => by rw [List.map_nil] at r; cases r; exact ⟨[], True.intro, .nil⟩
  | p :: kvs, _, r => by
    rw [List.map_cons] at r
    cases r with
    | @cons a b as bs h t =>
      obtain ⟨rs, c, q⟩ := carries_of (P := P) (w := w) t
      obtain ⟨b1, b2⟩ := b
      exact ⟨(p.1, b2) :: rs, ⟨kV_is h.1, rfl, c⟩, .cons ⟨rfl, h.2⟩ q⟩
/-- {k: v, ..} with keys ints and texts; the new dict stands empty while the pairs are made -/
def tDisp (trs : List (TE × TE)) : TE := fun σ H Q => ∀ p, H p = none → tPairs trs σ (upd H p (.dK [])) fun ps H2 => H2 p = some (.dK []) ∧ ∃ kvs : List (Key × V), ps = kvs.map (fun kv => (kV kv.1, kv.2)) ∧ kvs.length ≤ 15 ∧ Q (.ref p) (upd H2 p (.dK (mergeK [] kvs)))
theorem pe_disp {X : Cx} {pos : Pos} {keys : List (Option Expr)} {values : List Expr} {trs : List (TE × TE)} (h : PPs X pos keys values trs) (hall : keys.all (·.isSome) = true) (hl : keys.length = values.length) (h0 : keys ≠ [])
    (h15 : keys.length ≤ 15) : PE X (.Dict keys values pos) (tDisp trs) := by
  intro pins s σ H Q I q
  have hn := I.hok.fresh (Nat.le_refl s.heap.objs.size)
  have I1 := I.laid (a := s.heap.objs.size) (o := .dK []) (h' := s.heap.push { cls := .type "dict", data := .dict #[] }) (t' := s.toks) (fun _ _ q => Heap.get?_push_of_some _ q) (Nat.le_refl _) (dk_empty s.heap I.big)
  refine wpAny_Dict_walk (knd := mixKind X.prog X.w) hall hl h0 h15 (thn (h pins _ σ _ _ I1 (q _ hn)) fun ws s2 ⟨ps, H2, I2, rel, e, kvs, ep, lk, q2⟩ => ?_)
  subst ep
  obtain ⟨rs, c, rk⟩ := carries_of (P := X.prog) (w := X.w) rel
  obtain ⟨z, hd, vs0, r0, dd⟩ := dk_of I2.hok e
  cases r0
  refine ⟨rs, c, dd, fun h' dd' hs => ⟨.ref s.heap.objs.size, _, ?_, rfl, q2⟩⟩
  have hz : (mergeK [] kvs).length ≤ sizeLine := by
    have h1 := length_mergeK kvs []
    rw [List.length_nil] at h1
    rw [sizeLine_eq]; omega
  have he : ∃ q, h'.get? s.heap.objs.size = some q := let ⟨q, _, _, hq, _⟩ := dd'; ⟨q, hq⟩
  exact d_write I2 (by rw [e]; exact True.intro) hs he (dk_new hz hd (rk.merge .nil) dd')


section
variable {X : Cx} {pins : List (Addr × Obj)} {σ : St} {H : Hp} {s : Shared} {a : Addr} {y d : V} {u r : Value} {o : Option V} {A : Around} {E : Value → Shared → Prop}
end

section
variable {X : Cx} {o e f : Expr} {apos cpos : Pos} {td ty tx : TE}
end

section
variable {X : Cx} {pins : List (Addr × Obj)} {σ : St} {H : Hp} {s : Shared} {a : Addr} {kvs : List (Key × V)} {A : Around} {E : Value → Shared → Prop}
end


section
variable {X : Cx} {pins : List (Addr × Obj)} {σ : St} {H : Hp} {s : Shared} {a : Addr} {y : V} {u : Value} {A : Around} {E : Value → Shared → Prop}
end
end L2

namespace Att
open PySem PySem.W PySem.Calls PyProof.Rows

theorem ints_of_wellAll {P : Params} {h : Heap} : ∀ (ns : List Int) (vs : List Value), WellAll P h vs (ns.map WData.int) → IntsAre vs ns := by
  intro ns
  induction ns with
  | nil =>
    intro vs w
    rw [List.map_nil] at w
    cases w
    exact .nil
  | cons n ns ih =>
    intro vs w
    rw [List.map_cons] at w
    cases w with
    | cons a b =>
      cases a
      exact .cons _ _ (ih _ b)

theorem script_of {l : OpenLaw} {n : Nat} (hn : l.most = some n) {P : Params} {h : Heap} {args : List WData} {vals : List Value}
    (hpre : l.row.toRowW.claim.pre args = true) (hwl : WellAll P h vals args) :
    ∃ a vs ns, vals = [Value.ref a] ∧ args = [WData.list (ns.map WData.int)] ∧ h.get? a = some { cls := .type "list", data := .seq vs.toArray } ∧ IntsAre vs ns ∧ ns.length ≤ n := by
  have hsh : WShape.hasAll [] args [.list .int] = true := (pre_splitW hpre).1
  have hc : l.pre.holds [] { args := args } = true := (pre_splitW hpre).2
  obtain ⟨d, r, rfl, h1, h2⟩ := hasAllW_cons hsh
  obtain rfl := hasAllW_nil h2
  obtain ⟨xs, rfl, h3⟩ := hasW_list h1
  obtain ⟨ns, rfl⟩ := items_int h3
  have hlen : ns.length ≤ n := by
    unfold OpenLaw.pre at hc
    have h4 : (WTm.not (.lt (.lit (.int (n : Int))) (.len (.arg 0)))).holds [] { args := [.list (ns.map .int)] } = true := by
      have h4 := (holds_andW hc).1
      rw [hn] at h4
      exact h4
    have h5 := condW_of h4 (w_not (w_lt w_lit (w_len_list (w_arg rfl))))
    rw [List.length_map] at h5
    refine Nat.le_of_not_lt fun q => ?_
    have q' : (n : Int) < ((ns.length : Nat) : Int) := by omega
    first
      | (rw [decide_eq_true q'] at h5; exact absurd h5 (by decide))
      | (simp at h5; omega)
  cases hwl with
  | cons w1 w2 =>
    cases w2
    cases w1 with
    | list ho hall => exact ⟨_, _, ns, rfl, rfl, ho, ints_of_wellAll ns _ hall, hlen⟩

theorem post_true (l : OpenLaw) (args : List WData) : l.row.toRowW.claim.post args (.bool true) args = true :=
  postW_of (r := l.row.toRowW) (X := (true == true))
    (show WShape.has [] (.bool true) .bool = true by first | rfl | decide | simp [WShape.has, WShape.arms, WShape.armsAll])
    (show (WTm.eq .res (.lit (.bool true))).value [] { args := args, res := some (.bool true), after := args } = some (.bool (true == true)) from w_eq_bool (w_res rfl) w_lit) rfl

/-- the same from a codeAny of the CALL (for a layer whose function contracts speak of calls) -/
theorem attach_call {l : OpenLaw} {n : Nat} {q : Program} {loose : List Str} {XP : (Str → Option Value) → Heap → Prop} {YP : World → Heap → Prop} {d : DefRec}
    (hn : l.most = some n) (hdf : d.params.defaults = [])
    (call : ∀ (w : World) (s₀ s₁ : Shared) (mg mb : Str → Option Value) (fa : Addr) (o : Obj) (pm cd doc : Value) (a : Addr) (vs : List Value) (ns : List Int),
      Ground q loose [] XP w s₀ mg mb s₁.heap → YP w s₁.heap →
      s₁.heap.get? fa = some o → o.data = .func (docDef d.name d.params d.body d.scope pm cd doc) → s₁.heap.CodeRec cd d.name → mg d.name = some (.ref fa) →
      s₁.heap.get? a = some { cls := .type "list", data := .seq vs.toArray } → IntsAre vs ns → ns.length ≤ n → s₁.gens = #[] →
      codeAny (model l.prog w) callerA (.call (.ref fa) ⟨[.ref a], []⟩) (fun r s' => r = .ok (.ret (.bool true)) ∧ OldK s₁.heap s'.heap ∧ s'.os = s₁.os ∧ AllBare s'.gens) s₁) :
    WalkO q loose XP YP l.row.toRowW d [] (fun f vs => PySem.call f vs) := by
  intro w s₀ s₁ mg mb G Y fa o pm cd doc dV kV ho hd hcd hD hmg hg args vals as hpre hlay hrd hwl hlo
  obtain rfl : dV = .none := Dflts.none hD hdf
  obtain rfl : kV = .none := Dflts.noKw hD
  obtain ⟨a, vs, ns, rfl, rfl, hobj, hints, hlen⟩ := script_of hn hpre hwl
  refine enter_call (codeAny_mono (call w s₀ s₁ mg mb fa o pm cd doc a vs ns G Y ho (fd_plain hd) hcd hmg hobj hints hlen hg) fun r s' hq => ?_)
  obtain ⟨rfl, h2, h3, h4⟩ := hq
  exact ⟨.inl ⟨.bool true, .bool true, [], rfl, fun _ => rfl, .bool true, post_true l _, fun _ => ⟨List.Pairwise.nil, fun _ hm => (nomatch hm)⟩⟩, h2, h3, h4⟩

section
variable {prog : Program} {w : World} {A : Around} {E : Value → Shared → Prop} {s : Shared} {K : Frag}

end
end Att

namespace L2
open PySem PySem.Spec PyProof.Rows

theorem vals_ints : ∀ {vs : List Value} {ns : List Int}, IntsAre vs ns → Vals (ns.map V.int) vs
  | _, _, .nil => .nil
  | _, _, .cons n t h => .cons ⟨t, rfl⟩ (vals_ints h)

/-- nothing is tracked but the script, known to the object (or it is an object of the module) -/
def Only (H : Hp) : Prop := ∀ b, H b = none ∨ ∃ o xs, H b = some (.frz o (.lst xs))

/-- THE HEAD: the law's promise, at the heap behind the top. F, the promise of the law's def, may use that base is part of the heap (so K.In base, base.Ns mainGlobals mg stand in Mod) -/
theorem law_call {P : Program} {w : World} {K : PySem.W.Frag} {mg mb : Str → Option Value} {CX : CXT} {k : Nat} {fa a : Addr} {fd : FuncData} {x : Str} {sp : Sp} {s₁ : Shared} {vs : List Value} {ns : List Int}
    (KX : K.In s₁.heap) (hns : s₁.heap.Ns mainGlobals mg) (hb : s₁.heap.Ns builtinsNs mb) (hbb : ∀ x : Str, x ≠ "__name__" → mb x = bootBuiltins x) (hlim : s₁.heap.NoLimit) (hg : s₁.gens = #[])
    (ha : s₁.heap.get? a = some { cls := .type "list", data := .seq vs.toArray }) (hi : IntsAre vs ns) (hl : ns.length ≤ sizeLine) (hr : Room k callerA)
    (F : ∀ base : Heap, K.In base → base.Ns mainGlobals mg → FnOk P w K mg base CX k fa fd [x] sp) (hbind : ∀ (s : Shared) (u : Value), BindsTo s fd ⟨[u], []⟩ [(x, u)])
    (hsp : ∀ H : Hp, Only H → SqL K H a (ns.map V.int) → sp [.ref a] H (fun v _ => v = .bl true) fun _ _ _ => False)
    (hCX : ∀ H e s', CX [] H s₁ (fun _ _ _ => False) e s' → False) :
    codeAny (model P w) callerA (.call (.ref fa) ⟨[.ref a], []⟩) (fun r s' => r = .ok (.ret (.bool true)) ∧ OldK s₁.heap s'.heap ∧ s'.os = s₁.os ∧ AllBare s'.gens) s₁ := by
  have rv := vals_ints hi
  have lenV := hi.length
  have core : ∀ H : Hp, Only H → SqL K H a (ns.map V.int) → HOk P w H s₁.heap → (∀ b, H b ≠ none → b = a) → (H a ≠ none → K.lookup a = none) →
      codeAny (model P w) callerA (.call (.ref fa) ⟨[.ref a], []⟩) (fun r s' => r = .ok (.ret (.bool true)) ∧ OldK s₁.heap s'.heap ∧ s'.os = s₁.os ∧ AllBare s'.gens) s₁ := by
    intro H hO hS hok hA hK
    have base_of : ∀ {b : Addr} {o : Obj}, s₁.heap.get? b = some o → H b = none → (hidT s₁.heap H).get? b = some o := fun e n => hidT_get e n
    have noA : ∀ {b : Addr} {o : Obj} {es : Array DictEntry} {ep : Nat}, s₁.heap.get? b = some o → o.data = .dict es ep → H b = none := fun {b o es ep} e d => by
      cases q : H b with
      | none => rfl
      | some u =>
        have e' : b = a := hA b (by rw [q]; simp)
        subst e'
        rw [ha] at e; cases e
        have d' : Data.seq vs.toArray _ = Data.dict es ep := d
        cases d'
    have nsK : ∀ {b : Addr} {m : Str → Option Value}, s₁.heap.Ns b m → (hidT s₁.heap H).Ns b m := fun {b m} ⟨o, es, ep, e, d, r⟩ => ⟨o, es, ep, base_of e (noA e d), d, r⟩
    have hKb : K.In (hidT s₁.heap H) := fun b o e => base_of (KX b o e) (by
      cases q : H b with
      | none => rfl
      | some u =>
        have e' : b = a := hA b (by rw [q]; simp)
        subst e'
        rw [hK (by rw [q]; simp)] at e; cases e)
    have hM : Mod K mg (hidT s₁.heap H) := ⟨hKb, nsK hns, ⟨mb, nsK hb, hbb⟩, let ⟨mc, h1, h2⟩ := hlim; ⟨mc, nsK h1, h2⟩⟩
    have e0 : Env0 P w K mg (hidT s₁.heap H) callerA [] s₁ H := ⟨rfl, hM, fun b o e => of_hidT e, Nat.le_of_eq (hidT_size _ _), trivial, fun b hb => absurd (show b ∈ ([] : List Addr) from hb) (by simp), hok, .of_eq hg⟩
    refine codeAny_mono ((F _ hKb (nsK hns)).run callerA [] s₁ H ⟨[.ref a], []⟩ [.ref a] [.ref a] _ _ hr e0 (hbind s₁ (.ref a)) (.cons rfl .nil) (hsp H hO hS)) fun r s' h => ?_
    cases r with
    | error e => exact (hCX H e s' h).elim
    | ok fl =>
      cases fl with
      | next => exact False.elim h
      | brk => exact False.elim h
      | cont => exact False.elim h
      | ret u =>
        obtain ⟨v, H', os, bare, un, hok', r', q⟩ := h
        have q' : v = .bl true := q
        subst q'
        obtain rfl : u = Value.bool true := r'
        refine ⟨rfl, OldK.of_keep fun b o e => ?_, os, bare⟩
        cases q : H b with
        | none => exact un.keep b o e q (by intro z; exact absurd (show b ∈ ([] : List Addr) from z) (by simp)) (by simp)
        | some u =>
          rcases hO b with z | ⟨ob, xs, z⟩
          · rw [q] at z; cases z
          · have z2 := un.frzs b ob _ z
            obtain ⟨e1, _⟩ := hok b _ z
            obtain ⟨e2, _⟩ := hok' b _ z2
            rw [e] at e1; cases e1
            exact e2
  cases hk : K.lookup a with
  | some o =>
    have e := KX a o hk
    rw [ha] at e
    cases e
    refine core (fun _ => none) (fun _ => .inl rfl) (.inr ⟨_, vs.toArray, _, hk, rfl, rfl, rfl, by rw [List.size_toArray, lenV]; exact hl, by simpa using rv⟩) (fun b u z => by have z' : (none : Option HO) = some u := z; cases z') (fun b z => absurd rfl z) fun z => absurd rfl z
  | none =>
    refine core (fun b => if b = a then some (.frz { cls := .type "list", data := .seq vs.toArray } (.lst (ns.map V.int))) else none) (fun b => ?_) (.inl (.inr ⟨{ cls := .type "list", data := .seq vs.toArray }, if_pos rfl⟩)) (fun b u z => ?_) (fun b z => ?_) fun _ => hk
    · by_cases hb : b = a
      · exact .inr ⟨_, _, if_pos hb⟩
      · exact .inl (if_neg hb)
    · by_cases hb : b = a
      · have z' := (if_pos hb).symm.trans z
        cases z'
        subst hb
        exact ⟨ha, by rw [List.length_map]; exact hl, vs, _, rv, ha⟩
      · have z' := (if_neg hb).symm.trans z
        cases z'
    · by_cases hb : b = a
      · exact hb
      · exact absurd (if_neg hb) z
end L2

namespace L2
open PySem PySem.Spec PyProof.Rows

abbrev KOf {K : PySem.W.Frag} {h : Heap} (_ : K.In h) : PySem.W.Frag := K

/-- the goal that k_head leaves (case hc), from the law's promise. F gives the function object fd (K's own) once, then the promise over every base -/
theorem walk_of {l : PySem.W.OpenLaw} {n k : Nat} {q : Program} {loose : List Str} {XP : (Str → Option Value) → Heap → Prop} {YP : World → Heap → Prop} {d : DefRec} {K : Params → PySem.W.Frag} {CX : World → CXT} {sp : World → Sp} {x : Str}
    (hn : l.most = some n) (hn2 : n ≤ sizeLine) (hdf : d.params.defaults = []) (hr : Room k callerA)
    (hY : ∀ (w : World) (h : Heap), YP w h → (K w.params).In h)
    (F : ∀ (w : World) (mg : Str → Option Value) (fa : Addr) (h : Heap), (K w.params).In h → h.Ns mainGlobals mg → mg d.name = some (.ref fa) →
      ∃ fd : FuncData, (∀ (s : Shared) (u : Value), BindsTo s fd ⟨[u], []⟩ [(x, u)]) ∧
        ∀ base : Heap, (K w.params).In base → base.Ns mainGlobals mg → FnOk l.prog w (K w.params) mg base (CX w) k fa fd [x] (sp w))
    (hsp : ∀ (w : World) (H : Hp) (a : Addr) (ns : List Int), ns.length ≤ n → Only H → SqL (K w.params) H a (ns.map V.int) → sp w [.ref a] H (fun v _ => v = .bl true) fun _ _ _ => False)
    (hCX : ∀ (w : World) (H : Hp) (s : Shared) (e : Value) (s' : Shared), CX w [] H s (fun _ _ _ => False) e s' → False) :
    PySem.W.WalkO q loose XP YP l.row.toRowW d [] (fun f vs => PySem.call f vs) := by
  refine Att.attach_call hn hdf fun w s₀ s₁ mg mb fa o pm cd doc a vs ns G Y ho hd hcd hmg hobj hints hlen hg => ?_
  have KX := hY w _ Y
  obtain ⟨fd, hb, hF⟩ := F w mg fa _ KX G.T.g hmg
  exact law_call KX G.T.g G.T.b G.T.builtins G.T.nolimit hg hobj hints (Nat.le_trans hlen hn2) hr hF hb (fun H hO hS => hsp w H a ns hlen hO hS) fun H e s' => hCX w H s₁ e s'
end L2

/- THE LAST THEOREM (shape; LID, My.* are yours):
   My.Adr: a structure of the addresses that your layer names (classes, functions); My.Txt K t: a structure (Prop) of the equations over K;
   My.txt_mk : {K} {implicit addresses ..} (e1 : nsIn K mainGlobals "law" = some (some (.ref f))) (e2 : K.lookup f = some ⟨oc, od, .func (fnOf "law" "law" params body scope dV kV doc pm an cdv ct), sl⟩) (e3 : codeIn K cdv "law" = true) .. : ∃ t, My.Txt K t

set_option maxRecDepth 100000 in
set_option maxHeartbeats 0 in
theorem PySem.Challenge.cw_LID_holds : PySem.Challenge.rw_LID.Holds := by
  w_on; o_law; k_head; (case hw => w_witness2)
  k_fill
  refine L2.walk_of (l := PySem.Challenge.rw_LID) (n := 63) (k := 40) (x := "script") (CX := fun w => ..) (sp := fun _ => My.sp_law) rfl (by decide) rfl ⟨rfl, by decide, by decide⟩ (fun w h Y => PySem.W.kIn_of Y) ?F ?S ?C
  case F =>
    intro w mg fa h KX G hmg
    have T : ∃ t, My.Txt (L2.KOf KX) t := by
      dsimp only [L2.KOf]                          -- K must stand as «<heap const> w.params» for k_is
      refine' My.txt_mk ?e1 ?e2 ?e3 ..
      (case e1 => PySem.W.k_is)                    -- in the order: a name -> its address -> its object -> its parts
      (case e2 => PySem.W.k_is)
      ..
    obtain ⟨t, T⟩ := T
    have e0 := hmg.symm.trans (PySem.W.mg_of KX G T.law)
    cases e0                                       -- fa is the law's own address
    exact ⟨_, fun s u => .of_eq rfl, fun base kb nb => My.law_fn T kb nb⟩     -- if «.of_eq rfl» comes too early: refine' ⟨_, ?b, fun base kb nb => My.law_fn T kb nb⟩; exact fun s u => .of_eq rfl
  case S => exact fun w H a ns hl hO hS => ..
  case C => exact ..
(the tactic k_is has no namespace: write k_is) -/

namespace L2
open PySem PySem.Spec PyProof.Rows

/-- the j-th statement of a class's body -/
def inClass (s : Stmt) (j : Nat) : Stmt := match s with
  | .ClassDef _ _ _ body _ _ _ _ _ _ _ => body.getD j (.Pass ⟨0, 0, 0, 0⟩)
  | _ => .Pass ⟨0, 0, 0, 0⟩
def defArgs (s : Stmt) : Arguments := match s with
  | .FunctionDef _ a _ _ _ _ _ _ _ _ => a
  | _ => { posonlyargs := [], args := [], vararg := none, kwonlyargs := [], kw_defaults := [], kwarg := none, defaults := [] }
def defBody (s : Stmt) : List Stmt := match s with
  | .FunctionDef _ _ b _ _ _ _ _ _ _ => b
  | _ => []
def defScope (s : Stmt) : Scope := match s with
  | .FunctionDef _ _ _ _ _ _ sc _ _ _ => sc
  | _ => { kind := .function, names := [], isGenerator := false, isCoroutine := false }

abbrev E0 : XK := fun _ _ _ => False
structure Fun (K : PySem.W.Frag) (x qual : Str) (st : Stmt) (f : Addr) (fd : FuncData) : Prop where
  ex : ∃ (oc : Value) (od : Option Addr) (kV doc pm : Value) (an : Option Addr) (cdv ct : Value) (osl : Array (Option Value)),
    fd = PySem.W.fnOf x qual (defArgs st) (defBody st) (defScope st) .none kV doc pm an cdv ct ∧ K.lookup f = some ⟨oc, od, .func fd, osl⟩ ∧ PySem.W.codeIn K cdv qual = true
  kp : PySem.W.keepIn K (.ref f) = true
section
variable {P : Program} {w : World} {K : PySem.W.Frag} {mg : Str → Option Value} {base : Heap}
/-- how its arguments bind (no defaults): h is «fun _ _ _ _ _ _ us hl => match us, hl with | [_, _], _ => rfl», one _ a parameter -/
theorem Fun.binds {x qual : Str} {st : Stmt} {f : Addr} {fd : FuncData} {ps : List Str} (F : Fun K x qual st f fd)
    (h : ∀ (kV doc pm : Value) (an : Option Addr) (cdv ct : Value) (us : List Value), us.length = ps.length → bindArgs (PySem.W.fnOf x qual (defArgs st) (defBody st) (defScope st) .none kV doc pm an cdv ct) ⟨us, []⟩ = pure (ps.zip us)) : Binds K fd ps [] := by
  obtain ⟨oc, od, kV, doc, pm, an, cdv, ct, osl, rfl, lk, hcd⟩ := F.ex
  exact .all (h kV doc pm an cdv ct)
theorem fun_mk {x qual : Str} {st : Stmt} {f : Addr} {oc : Value} {od an : Option Addr} {osl : Array (Option Value)} {kV doc pm cdv ct : Value} (l : K.lookup f = some ⟨oc, od, .func (PySem.W.fnOf x qual (defArgs st) (defBody st) (defScope st) .none kV doc pm an cdv ct), osl⟩)
    (c : PySem.W.codeIn K cdv qual = true) (k : PySem.W.keepIn K (.ref f) = true) : Fun K x qual st f (PySem.W.fnOf x qual (defArgs st) (defBody st) (defScope st) .none kV doc pm an cdv ct) := ⟨⟨oc, od, kV, doc, pm, an, cdv, ct, osl, rfl, l, c⟩, k⟩
end
theorem hu_of {A : Around} {k : Nat} (hr : Room k A) : A.units + 1 < cLine := Nat.lt_of_le_of_lt (Nat.add_le_add_left (by decide : 1 ≤ 64) _) hr.units
section
variable {X : Cx}
theorem pv (i : Nat) {x : Str} {pos : Pos} (hN : X.N[i]? = some x := by rfl) (hv : Vis X.env.scope x := by first | exact Or.inl rfl | exact Or.inr (Or.inl rfl) | exact Or.inr (Or.inr rfl)) (hd : (x == ("__debug__" : Str)) = false := by decide)
    (hcd : (x == ("__classdict__" : Str)) = false := by decide) : PE X (.Name x pos) (tVar i) := pe_var hN hv hd hcd
end

theorem ite2 {c A B : Prop} [Decidable c] (h1 : c → A) (h2 : ¬ c → B) : if c then A else B := by
  by_cases h : c
  · rw [if_pos h]
    exact h1 h
  · rw [if_neg h]
    exact h2 h
/-- all that was tracked is as it was -/
def Same (H H' : Hp) : Prop := ∀ b o, H b = some o → H' b = some o
theorem Same.refl (H : Hp) : Same H H := fun _ _ h => h
theorem Same.trans {H H1 H2 : Hp} (a : Same H H1) (b : Same H1 H2) : Same H H2 := fun c o h => b c o (a c o h)
theorem Same.free {H H' : Hp} (e : Same H H') {l : Addr} (h : H' l = Option.none) : H l = Option.none := by
  cases q : H l with
  | none => rfl
  | some o =>
    rw [e l o q] at h
    cases h
theorem Same.seq {K : PySem.W.Frag} {H H' : Hp} {a : Addr} {xs : List V} (e : Same H H') (h : SqL K H a xs) : SqL K H' a xs := by
  rcases h with (h | ⟨o, h⟩) | h
  · exact .inl (.inl (e _ _ h))
  · exact .inl (.inr ⟨o, e _ _ h⟩)
  · exact .inr h

section
variable {κ : Type} [DecidableEq κ]
end
end L2

set_option Elab.async false
set_option linter.all false
set_option maxRecDepth 100000
namespace L2
open PySem PySem.Spec PyProof.Rows

def clOf (env : Env) (names : List (Str × NameKind)) (cs : List (Str × Addr)) : List (Str × Addr) :=
  names.foldl (fun cs y => if y.2 == NameKind.free then (y.1, (env.cells.lookup y.1).getD 0) :: cs else cs) cs
theorem clOf_loop {env : Env} : ∀ (names : List (Str × NameKind)) (cs : List (Str × Addr)), (∀ y ∈ names, y.2 = .free → ∃ c, env.cells.lookup y.1 = some c) →
    (forIn names cs fun (p : Str × NameKind) (cs : List (Str × Addr)) => (if (p.2 == NameKind.free) = true then do
      let a ← cellOf env p.1
      pure (ForInStep.yield ((p.1, a) :: cs))
     else pure (ForInStep.yield cs) : Sem (ForInStep (List (Str × Addr))))) = pure (clOf env names cs)
  | [], cs, _ => rfl
  | (n, k) :: r, cs, h => by
    have hr : ∀ y ∈ r, y.2 = NameKind.free → ∃ c, env.cells.lookup y.1 = some c := fun y hy => h y (List.mem_cons_of_mem _ hy)
    rw [List.forIn_cons]
    cases hk : (k == NameKind.free) with
    | true =>
      obtain ⟨c, hc⟩ := h (n, k) List.mem_cons_self (by simpa using hk)
      have e1 : cellOf env n = pure c := by
        have hc' : env.cells.lookup n = some c := hc
        unfold cellOf; rw [hc']
      have e2 := clOf_loop r ((n, c) :: cs) hr
      have e3 : clOf env ((n, k) :: r) cs = clOf env r ((n, c) :: cs) := by
        have hc' : env.cells.lookup n = some c := hc
        show List.foldl _ (if (k == NameKind.free) = true then (n, (env.cells.lookup n).getD 0) :: cs else cs) r = _
        rw [hk, hc']; rfl
      rw [e3, ← e2]
      simp only [hk, if_true, e1]
      rfl
    | false =>
      have e2 := clOf_loop r cs hr
      have e3 : clOf env ((n, k) :: r) cs = clOf env r cs := by
        show List.foldl _ (if (k == NameKind.free) = true then _ else cs) r = _
        rw [hk]; rfl
      rw [e3, ← e2]
      simp only [hk, Bool.false_eq_true, if_false]
      rfl
theorem closureFor_ok {scope : Scope} {env : Env} (h : ∀ y ∈ scope.names, y.2 = .free → ∃ c, env.cells.lookup y.1 = some c) : closureFor scope env = pure (clOf env scope.names []) := by
  have := clOf_loop scope.names [] h
  unfold closureFor
  simp only [bind_pure]
  exact this
theorem clOf_sub {env : Env} : ∀ (names : List (Str × NameKind)) (cs : List (Str × Addr)), (∀ y ∈ names, y.2 = .free → ∃ c, env.cells.lookup y.1 = some c) → (∀ x c, cs.lookup x = some c → env.cells.lookup x = some c) →
    ∀ x c, (clOf env names cs).lookup x = some c → env.cells.lookup x = some c
  | [], cs, _, hc => hc
  | (n, k) :: r, cs, h, hc => by
    refine clOf_sub r _ (fun y hy => h y (List.mem_cons_of_mem _ hy)) ?_
    intro x c e
    dsimp only at e
    split at e
    · rename_i hk
      obtain ⟨c', hc'⟩ := h (n, k) List.mem_cons_self (by simpa using hk)
      have hc' : env.cells.lookup n = some c' := hc'
      rw [List.lookup_cons] at e
      cases hx : (x == n) with
      | true =>
        rw [hx] at e
        have e' : (env.cells.lookup n).getD 0 = c := Option.some.inj e
        have hxn : x = n := by simpa using hx
        rw [hxn, hc', ← e', hc']; rfl
      | false =>
        rw [hx] at e
        exact hc x c e
    · exact hc x c e
theorem clOf_has {env : Env} {x : Str} : ∀ (names : List (Str × NameKind)) (cs : List (Str × Addr)), ((x, NameKind.free) ∈ names ∨ ∃ c, cs.lookup x = some c) → ∃ c, (clOf env names cs).lookup x = some c
  | [], cs, h => by
    rcases h with h | h
    · simp at h
    · exact h
  | (n, k) :: r, cs, h => by
    refine clOf_has r _ ?_
    rcases h with h | ⟨c, h⟩
    · rcases List.mem_cons.mp h with e | h
      · cases e
        refine .inr ⟨(env.cells.lookup x).getD 0, ?_⟩
        simp
      · exact .inl h
    · refine .inr ?_
      dsimp only
      split
      · rw [List.lookup_cons]
        cases (x == n) with
        | true => exact ⟨_, rfl⟩
        | false => exact ⟨c, h⟩
      · exact ⟨c, h⟩
theorem relabel_free {env : Env} : ∀ {names : List (Str × NameKind)} {x : Str}, names.lookup x = some .free →
    (names.map fun (n, k) => if (k == NameKind.free && env.scope.kind == .function && env.kindOf n == some .cell) then (n, NameKind.cell) else (n, k)).lookup x = some .cell ∨
    (names.map fun (n, k) => if (k == NameKind.free && env.scope.kind == .function && env.kindOf n == some .cell) then (n, NameKind.cell) else (n, k)).lookup x = some .free
  | [], _, h => by simp at h
  | (n, k) :: r, x, h => by
    have ih := @relabel_free env r x
    rw [List.map_cons]
    cases hx : x == n with
    | true =>
      simp only [List.lookup_cons, hx] at h
      cases h
      by_cases hc : (NameKind.free == NameKind.free && env.scope.kind == .function && env.kindOf n == some .cell) = true
      · left
        show List.lookup x ((if (NameKind.free == NameKind.free && env.scope.kind == .function && env.kindOf n == some .cell) = true then (n, NameKind.cell) else (n, NameKind.free)) :: _) = _
        rw [if_pos hc]; simp [List.lookup_cons, hx]
      · right
        show List.lookup x ((if (NameKind.free == NameKind.free && env.scope.kind == .function && env.kindOf n == some .cell) = true then (n, NameKind.cell) else (n, NameKind.free)) :: _) = _
        rw [if_neg hc]; simp [List.lookup_cons, hx]
    | false =>
      simp only [List.lookup_cons, hx] at h
      have ih := ih h
      have e : ∀ l, List.lookup x ((if (k == NameKind.free && env.scope.kind == .function && env.kindOf n == some .cell) = true then (n, NameKind.cell) else (n, k)) :: l) = List.lookup x l := fun l => by
        split <;> simp [List.lookup_cons, hx]
      show List.lookup x ((if (k == NameKind.free && env.scope.kind == .function && env.kindOf n == some .cell) = true then (n, NameKind.cell) else (n, k)) :: _) = _ ∨ List.lookup x ((if (k == NameKind.free && env.scope.kind == .function && env.kindOf n == some .cell) = true then (n, NameKind.cell) else (n, k)) :: _) = _
      rw [e]
      exact ih
/-- kinds in the block's scope come from the scope's -/
theorem relabel_back {env : Env} : ∀ {names : List (Str × NameKind)} {x : Str}, 
    ((names.map fun (n, k) => if (k == NameKind.free && env.scope.kind == .function && env.kindOf n == some .cell) then (n, NameKind.cell) else (n, k)).lookup x = some .cell ∨
    (names.map fun (n, k) => if (k == NameKind.free && env.scope.kind == .function && env.kindOf n == some .cell) then (n, NameKind.cell) else (n, k)).lookup x = some .free) →
    names.lookup x = some .free ∨ names.lookup x = some .cell
  | [], x, h => by simp at h
  | (n, k) :: r, x, h => by
    have ih := @relabel_back env r x
    cases hx : x == n with
    | true =>
      rw [List.lookup_cons, hx]
      show some k = _ ∨ some k = _
      have e : ∀ l, List.lookup x ((if (k == NameKind.free && env.scope.kind == .function && env.kindOf n == some .cell) = true then (n, NameKind.cell) else (n, k)) :: l) = if (k == NameKind.free && env.scope.kind == .function && env.kindOf n == some .cell) = true then some .cell else some k := fun l => by
        split <;> simp [List.lookup_cons, hx]
      rw [List.map_cons] at h
      have h : List.lookup x ((if (k == NameKind.free && env.scope.kind == .function && env.kindOf n == some .cell) = true then (n, NameKind.cell) else (n, k)) :: _) = some .cell ∨ List.lookup x ((if (k == NameKind.free && env.scope.kind == .function && env.kindOf n == some .cell) = true then (n, NameKind.cell) else (n, k)) :: _) = some .free := h
      rw [e] at h
      by_cases hc : (k == NameKind.free && env.scope.kind == .function && env.kindOf n == some .cell) = true
      · left
        simp at hc
        rw [hc.1.1]
      · rw [if_neg hc] at h
        rcases h with h | h
        · exact .inr h
        · exact .inl h
    | false =>
      rw [List.lookup_cons, hx]
      have e : ∀ l, List.lookup x ((if (k == NameKind.free && env.scope.kind == .function && env.kindOf n == some .cell) = true then (n, NameKind.cell) else (n, k)) :: l) = List.lookup x l := fun l => by
        split <;> simp [List.lookup_cons, hx]
      rw [List.map_cons] at h
      have h : List.lookup x ((if (k == NameKind.free && env.scope.kind == .function && env.kindOf n == some .cell) = true then (n, NameKind.cell) else (n, k)) :: _) = some .cell ∨ List.lookup x ((if (k == NameKind.free && env.scope.kind == .function && env.kindOf n == some .cell) = true then (n, NameKind.cell) else (n, k)) :: _) = some .free := h
      rw [e] at h
      exact ih h

section
variable {prog : Program} {w : World} {A : Around} {E : Value → Shared → Prop} {R : Result → Shared → Prop} {s : Shared}
theorem compLoop_any {elt target iter : Expr} {ifs : List Expr} {scope : Scope} {pos : Pos} {it acc : Value} {env : Env} (I : Nat → Shared → Prop)
    (turn : ∀ n s, I n s → wpAny (model prog w) A (pyNext it) (fun r s₁ => match r with
      | none => R (.ok .next) s₁
      | some v => wpAny (model prog w) A (letOwnedTupleGo target it v) (fun _ s₁' => wpAny (model prog w) A (assign target env v) (fun _ s₂ =>
          wpAny (model prog w) A (forIn ifs true fun c r => if r = true then do let ok ← isTrue c env (eval c env); pure (ForInStep.yield ok) else pure (ForInStep.yield r)) (fun ok s₃ =>
            if ok = true then wpAny (model prog w) A (eval elt env) (fun x s₄ =>
              wpAny (model prog w) A (call (.builtin "list.append") [acc, x]) (fun _ s₅ => ∃ m, m < n ∧ I m s₅) (notedBy (model prog w) A env fun e s' => R (.error e) s') s₄) (notedBy (model prog w) A env fun e s' => R (.error e) s') s₃
            else ∃ m, m < n ∧ I m s₃) (notedBy (model prog w) A env fun e s' => R (.error e) s') s₂) (notedBy (model prog w) A env fun e s' => R (.error e) s') s₁') (notedBy (model prog w) A env fun e s' => R (.error e) s') s₁) (notedBy (model prog w) A env fun e s' => R (.error e) s') s)
    (n : Nat) (h : I n s) :
    codeAny (model prog w) A (.compLoop (.ListComp elt [⟨target, iter, ifs, 0⟩] scope pos) 0 it acc env) R s := by
  refine codeAny_loop rfl I (fun n s hI => ?_) n h
  show wpAny _ A ((compTurn (.ListComp elt [⟨target, iter, ifs, 0⟩] scope pos) 0 it acc env).onRaise (fun x => do noteFrame x env; theTreesLotGoes x)) _ _ s
  refine wpAny_noted ?_
  rw [compTurn_list]
  refine wpAny_bind (wpAny_standAt (wpAny_bind (wpAny_mono (turn n s hI) (fun r s₁ h₁ => ?_) fun _ _ h' => h')))
  cases r with
  | none => exact wpAny_pure h₁
  | some v =>
    refine wpAny_bind (wpAny_mono h₁ (fun _ s₁' h₁' => ?_) fun _ _ h' => h')
    refine wpAny_bind (wpAny_mono h₁' (fun _ s₂ h₂ => wpAny_bind (wpAny_mono h₂ (fun ok s₃ h₃ => ?_) fun _ _ h' => h')) fun _ _ h' => h')
    cases ok with
    | false => exact wpAny_pure ⟨rfl, h₃⟩
    | true =>
      exact wpAny_bind (wpAny_bind (wpAny_mono h₃ (fun x s₄ h₄ => wpAny_bind (wpAny_mono h₄ (fun _ s₅ h₅ => wpAny_pure (wpAny_pure ⟨rfl, h₅⟩)) fun _ _ h' => h')) fun _ _ h' => h'))
end

/-- its context: the block's names N', its frame at C, the iterator's records ex -/
def cxComp (X : Cx) (scope : Scope) (N' : List Str) (C : Addr) (ex : List Addr) (s : Shared) (H : Hp) : Cx :=
  { X with N := N', s₀ := s, H₀ := H, env := compEnvC scope (clOf X.env scope.names []) C X.env, outer := X.stack, stack := X.stack, ex := ex, fn := fun _ => false, pn := [], xe := fun _ _ => False }
/-- cap: for each of the block's names the slot of the def's name that it means, none for its own -/
def capOk (N N' : List Str) (cap : List (Option Nat)) (names : List (Str × NameKind)) : Bool :=
  (N'.zip cap).all fun p => match p.2 with
    | none => true
    | some j => N[j]? == some p.1 && names.lookup p.1 == some .free
structure CompOk (X : Cx) (scope : Scope) (N' : List Str) (cap : List (Option Nat)) : Prop where
  kind : scope.kind = .function
  nocell : ∀ y ∈ scope.names, y.2 ≠ .cell
  names : ∀ y ∈ scope.names, y.2 = .local → scope.names.lookup y.1 = some .local
  freeB : (scope.names.all fun y => y.2 != .free || X.env.scope.names.lookup y.1 == some .cell || X.env.scope.names.lookup y.1 == some .free) = true
  len : cap.length = N'.length
  cap : capOk X.N N' cap scope.names = true
theorem CompOk.free {X : Cx} {scope : Scope} {N' : List Str} {cap : List (Option Nat)} (c : CompOk X scope N' cap) : ∀ y ∈ scope.names, y.2 = .free → (X.env.scope.names.lookup y.1 = some .cell ∨ X.env.scope.names.lookup y.1 = some .free) := fun y hy hf => by
  have h := List.all_eq_true.mp c.freeB y hy
  rw [hf] at h
  simpa using h
/-- the block's names at the start of each turn -/
def capSt (cap : List (Option Nat)) (σ : St) : St := cap.map fun o => match o with
  | none => none
  | some j => (σ[j]?).join
theorem capOk_get {N N' : List Str} {cap : List (Option Nat)} {names : List (Str × NameKind)} (h : capOk N N' cap names = true) {i : Nat} {x : Str} {j : Nat} (h1 : N'[i]? = some x) (h2 : cap[i]? = some (some j)) :
    N[j]? = some x ∧ names.lookup x = some .free := by
  have hm : (x, some j) ∈ N'.zip cap := by
    refine List.mem_of_getElem? (i := i) ?_
    rw [List.getElem?_zip_eq_some]
    exact ⟨h1, h2⟩
  have := List.all_eq_true.mp h _ hm
  simpa using this
section
variable {X : Cx} {pins : List (Addr × Obj)} {σ : St} {H : Hp} {s : Shared} {scope : Scope} {N' : List Str} {cap : List (Option Nat)}
theorem CompOk.clos (c : CompOk X scope N' cap) (I : Inv X pins σ H s) : ∀ y ∈ scope.names, y.2 = .free → ∃ a, X.env.cells.lookup y.1 = some a := fun y hy hf => I.ok.has y.1 (c.free y hy hf)
/-- the block's frame laid: the invariant inside -/
theorem comp_start (c : CompOk X scope N' cap) (I : Inv X pins σ H s) {fp : List Addr} (hf : ∀ b ∈ fp, FpOk X pins H b) (ho : ∀ b ∈ fp, ∃ o, s.heap.get? b = some o) {h₁ : Heap} {t : Nat} (hns : h₁.Ns s.heap.objs.size (fun _ => none))
    (hsb : ∀ b o, s.heap.get? b = some o → h₁.get? b = some o) : Inv (cxComp X scope N' s.heap.objs.size fp s H) [] (capSt cap σ) H { s with heap := h₁, toks := t } := by
  have hcl := c.clos I
  have sub := clOf_sub (env := X.env) scope.names [] hcl (fun x c e => by simp at e)
  have CI : ∀ x a, (clOf X.env scope.names []).lookup x = some a → X.env.cells.lookup x = some a := sub
  have cz : ∀ x a, (clOf X.env scope.names []).lookup x = some a → a < s.heap.objs.size := fun x a e => by
    obtain ⟨v, o, q, _⟩ := I.cell x a (CI x a e)
    exact Heap.lt_size q
  have fz : ∀ b ∈ fp, b ≠ s.heap.objs.size → True := fun _ _ _ => trivial
  refine ⟨⟨I.ok.mod, c.kind, I.ok.glob, I.ok.blt, Nat.le_refl _, fun x y a h1 h2 => I.ok.inj x y a (CI x a h1) (CI y a h2), fun x hx => ?_, fun x a h => (by cases h), I.ok.hd, I.ok.frames, .inl rfl, fun b hb => ?_, I.bs, Nat.le_trans I.ok.bsz I.sz, fun b o e hb => ?_, fun b hb => ?_, I.stack, I.stkFree⟩,
    rfl, I.bare, Un.kept hsb, ⟨_, hns, fun i x v h1 h2 h3 => ?_⟩, fun x a e => ?_, I.hok.fresh (Nat.le_refl _), fun x a e => I.freeC x a (CI x a e), fun p hp => by simp [cxComp] at hp, I.hok.kept hsb, ?_⟩
  · have hx : (relabel scope X.env).names.lookup x = some .cell ∨ (relabel scope X.env).names.lookup x = some .free := hx
    rcases relabel_back hx with h | h
    · exact clOf_has (env := X.env) scope.names [] (.inl (PySem.mem_of_lookup h))
    · exact absurd rfl (c.nocell _ (PySem.mem_of_lookup h))
  · obtain ⟨o, e⟩ := ho b hb
    exact ⟨Nat.ne_of_lt (Heap.lt_size e), fun x a e => (hf b hb).2.2.2.2.1 x a (CI x a e)⟩
  · rcases (hf b hb).2.2.2.1 with z | z
    · exact I.ok.noex b o e z
    · exact absurd (Nat.lt_of_lt_of_le (Heap.lt_size e) (Nat.le_trans I.ok.bsz z)) (Nat.lt_irrefl _)
  · intro z
    rcases List.mem_cons.mp (I.stkSub b z) with q | q
    · exact (hf b hb).2.1 q
    · exact (hf b hb).2.2.1 q
  · have hi : i < cap.length := by
      unfold capSt at h2
      have := (List.getElem?_eq_some_iff.mp h2).1
      simpa using this
    obtain ⟨j, hj, hv⟩ : ∃ j, cap[i]? = some (some j) ∧ σ[j]? = some (some v) := by
      unfold capSt at h2
      rw [List.getElem?_map] at h2
      cases e : cap[i]? with
      | none => rw [e] at h2; cases h2
      | some o =>
        rw [e] at h2
        cases o with
        | none => cases h2
        | some j =>
          refine ⟨j, rfl, ?_⟩
          have h2 : (σ[j]?).join = some v := Option.some.inj h2
          cases q : σ[j]? with
          | none => rw [q] at h2; cases h2
          | some y => rw [q] at h2; cases y with
            | none => cases h2
            | some z => exact congrArg some h2
    obtain ⟨hN, hfree⟩ := capOk_get c.cap h1 hj
    have hk := c.free (x, .free) (PySem.mem_of_lookup hfree) rfl
    obtain ⟨m, hm, hl⟩ := I.loc
    obtain ⟨u, ru, l⟩ := hl j x v hN hv (hk.elim (fun z => .inr (.inl z)) fun z => .inr (.inr z))
    refine ⟨u, ru, .inr ⟨relabel_free hfree, ?_⟩⟩
    rcases l with ⟨k, _⟩ | ⟨_, a, ea, ca⟩
    · have k : X.env.scope.names.lookup x = some .local := k
      rcases hk with z | z <;> · rw [z] at k; cases k
    · obtain ⟨a', ea'⟩ := clOf_has (env := X.env) (x := x) scope.names [] (.inl (PySem.mem_of_lookup hfree))
      have := CI x a' ea'
      rw [ea] at this; cases this
      obtain ⟨o, q, d⟩ := ca
      exact ⟨a, ea', o, hsb a o q, d⟩
  · obtain ⟨v, o, q, d⟩ := I.cell x a (CI x a e)
    exact ⟨v, o, hsb a o q, d⟩
  · unfold capSt
    rw [List.length_map]
    exact c.len
end
/-- the tests of a comprehension -/
def PIfs (Y : Cx) (ifs : List Expr) (t : TT) : Prop :=
  ∀ (pins : List (Addr × Obj)) (s : Shared) (σ : St) (H : Hp) (Q : Bool → Hp → Prop) (E : Value → Shared → Prop), Inv Y pins σ H s → t σ H Q →
    wpAny (model Y.prog Y.w) Y.A (forIn ifs true fun c r => if r = true then do let ok ← isTrue c Y.env (eval c Y.env); pure (ForInStep.yield ok) else pure (ForInStep.yield r)) (TP Y pins σ Q) E s
def tTrue : TT := fun _ H Q => Q true H
theorem pifs_nil {Y : Cx} : PIfs Y [] tTrue := fun pins s σ H Q E I h => wpAny_tests_nil ⟨H, I, h⟩
theorem pifs_one {Y : Cx} {c : Expr} {t : TT} (h : PT Y.nox c t) : PIfs Y [c] t := fun pins s σ H Q E I hw =>
  wpAny_tests_one (wpAny_mono (h pins s σ H Q (I.wish _) hw) (fun _ _ ⟨H', I', q⟩ => ⟨H', I'.unwish, q⟩) fun _ _ z => False.elim z)

/-- a target that stores into the slots of own alone -/
def GKp (own : Nat → Bool) (g : TG) : Prop := ∀ v σ H Q, g v σ H Q → g v σ H fun σ' H' => (σ'.length = σ.length ∧ ∀ i, own i = false → σ'[i]? = σ[i]?) ∧ Q σ' H'
theorem gkp_name {own : Nat → Bool} {j : Nat} (h : own j = true := by rfl) : GKp own (gName j) := fun v σ H Q q =>
  ⟨⟨List.length_set .., fun i hi => List.getElem?_set_ne (fun e => by rw [e, hi] at h; cases h)⟩, q⟩
def ownOf (cap : List (Option Nat)) (i : Nat) : Bool := cap[i]? == some none
/-- what a comprehension reads: W by the turn, a measure, the items so far and the heap (the new list at D among it) -/
def tComp (cap : List (Option Nat)) (wi : TI) (g : TG) (tt : TT) (te : TE) : TE := fun σ H Q => wi σ H fun J H1 => ∀ D, H1 D = none →
  ∃ W : Nat → Nat → List V → Hp → Prop, (∃ m, W 0 m [] (upd H1 D (.lst []))) ∧ ∀ i m ys H2, W i m ys H2 → H2 D = some (.lst ys) ∧
    ((J.stop i H2 ∧ Q (.ref D) H2) ∨ (J.go i H2 ∧ ys.length < sizeLine ∧ ∃ N : List V → Hp → Prop, (∀ ys' H', N ys' H' → ∃ m', m' < m ∧ W (i + 1) m' ys' H') ∧ ∀ x H3, J.yld i H2 x H3 → g x (capSt cap σ) H3 fun σ4 H4 => tt σ4 H4 fun b H5 =>
      if b = true then te σ4 H5 fun y H6 => H6 D = some (.lst ys) ∧ N (ys ++ [y]) (upd H6 D (.lst (ys ++ [y]))) else N ys H5))
section
variable {X : Cx} {pins : List (Addr × Obj)} {σ : St} {H : Hp} {s : Shared} {scope : Scope} {N' : List Str} {cap : List (Option Nat)}
theorem comp_core {tg elt iter : Expr} {ifs : List Expr} {pos : Pos} {g : TG} {tt : TT} {te : TE} {it : Addr} {fp : List Addr} {tn : Nat → Heap → Prop} {J : It} {RR : Value → Addr → Result → Shared → Prop} {Q : VK} {E : Value → Shared → Prop}
    (c : CompOk X scope N' cap) (hc : X.calm = true) (I : Inv X pins σ H s) (T : Turn X.prog X.w X.K tg J fp it tn) (st : tn 0 s.heap) (hf : ∀ b ∈ fp, FpOk X pins H b)
    (hg : ∀ C ex s H, PG (cxComp X scope N' C ex s H) tg g) (hk : GKp (ownOf cap) g) (hi : ∀ C ex s H, PIfs (cxComp X scope N' C ex s H) ifs tt) (he : ∀ C ex s H, PE (cxComp X scope N' C ex s H) elt te)
    (h : ∀ D, H D = none →
      ∃ W : Nat → Nat → List V → Hp → Prop, (∃ m, W 0 m [] (upd H D (.lst []))) ∧ ∀ i m ys H2, W i m ys H2 → H2 D = some (.lst ys) ∧
        ((J.stop i H2 ∧ Q (.ref D) H2) ∨ (J.go i H2 ∧ ys.length < sizeLine ∧ ∃ N : List V → Hp → Prop, (∀ ys' H', N ys' H' → ∃ m', m' < m ∧ W (i + 1) m' ys' H') ∧ ∀ x H3, J.yld i H2 x H3 → g x (capSt cap σ) H3 fun σ4 H4 => tt σ4 H4 fun b H5 =>
          if b = true then te σ4 H5 fun y H6 => H6 D = some (.lst ys) ∧ N (ys ++ [y]) (upd H6 D (.lst (ys ++ [y]))) else N ys H5)))
    (hRR : ∀ D C H' s', Inv X pins σ H' s' → FpOk X pins H' C → (∃ m, s'.heap.Ns C m) → Q (.ref D) H' → RR (.ref D) C (.ok .next) s') :
    wpAny (model X.prog X.w) X.A (newList []) (fun acc s₃ => wpAny (model X.prog X.w) X.A (newFunctionEnv scope X.env.globals (clOf X.env scope.names []) [] X.env.qual none .none (some X.env)) (fun cenv s₄ =>
      codeAny (model X.prog X.w) X.A (.compStart (.ListComp elt [⟨tg, iter, ifs, 0⟩] scope pos) 0 (.ref it) acc { cenv with scope := relabel scope X.env }) (RR acc cenv.locals) s₄) E s₃) E s := by
  refine wpAny_newObj_type (wpAny_newFunctionEnv c.nocell (by intro y hy; simp at hy) (fun h₁ hns₁ hsb₁ => ?_) c.kind)
  dsimp only at hns₁ hsb₁ ⊢
  have hD : H s.heap.objs.size = none := I.hok.fresh (Nat.le_refl _)
  have I1 : Inv X pins σ (upd H s.heap.objs.size (.lst [])) { s with heap := s.heap.push { cls := .type "list", dict := none, data := .seq ([] : List Value).toArray } } :=
    I.laid (t' := s.toks) (fun b u e => Heap.get?_push_of_some _ e) (Nat.le_refl _) ⟨Nat.zero_le _, [], 0, .nil, Heap.get?_push_size _ rfl⟩
  have ob : ∀ b ∈ fp, ∃ o, s.heap.get? b = some o ∧ ∀ v, o.data ≠ .cell v := T.obj 0 _ st
  have hf1 : ∀ b ∈ fp, FpOk X pins (upd H s.heap.objs.size (.lst [])) b := fun b hb => by
    obtain ⟨o, e, _⟩ := ob b hb
    have : b ≠ s.heap.objs.size := Nat.ne_of_lt (Heap.lt_size e)
    exact ⟨by rw [upd_ne this]; exact (hf b hb).1, (hf b hb).2⟩
  generalize hs1 : ({ s with heap := s.heap.push { cls := .type "list", dict := none, data := .seq ([] : List Value).toArray } } : Shared) = s1 at I1
  have hh : s.heap.push { cls := .type "list", dict := none, data := .seq ([] : List Value).toArray } = s1.heap := by rw [← hs1]
  have old1 : ∀ b o, s.heap.get? b = some o → s1.heap.get? b = some o := fun b o e => by rw [← hh]; exact Heap.get?_push_of_some _ e
  rw [hh] at hns₁ hsb₁ ⊢
  have old2 : ∀ b o, s1.heap.get? b = some o → h₁.get? b = some o := fun b o e => hsb₁.extBut b o (Nat.ne_of_lt (Heap.lt_size e)) (Heap.get?_push_of_some _ e)
  have J0 : Inv (cxComp X scope N' s1.heap.objs.size fp s1 (upd H s.heap.objs.size (.lst []))) [] (capSt cap σ) (upd H s.heap.objs.size (.lst [])) { s1 with heap := h₁, toks := s.toks + ([] : List (Str × Value)).length } :=
    comp_start c I1 hf1 (fun b hb => (ob b hb).imp fun o e => old1 b o e.1) hns₁ old2
  have es4 : ({ heap := h₁, gens := s.gens, drawn := s.drawn, toks := s.toks + ([] : List (Str × Value)).length, os := s.os } : Shared) = { s1 with heap := h₁, toks := s.toks + ([] : List (Str × Value)).length } := by rw [← hs1]
  have st4 : tn 0 ({ s1 with heap := h₁, toks := s.toks + ([] : List (Str × Value)).length } : Shared).heap := T.keep 0 _ _ st fun b hb o e => old2 b o (old1 b o e)
  rw [es4]
  generalize ({ s1 with heap := h₁, toks := s.toks + ([] : List (Str × Value)).length } : Shared) = s4 at J0 st4 ⊢
  obtain ⟨W, ⟨m0, w0⟩, step⟩ := h _ hD
  generalize hY : cxComp X scope N' s1.heap.objs.size fp s1 (upd H s.heap.objs.size (.lst [])) = Y at J0
  have stat : ∀ {H' : Hp}, (∀ b ∈ fp, H' b = none) → ∀ b ∈ fp, FpOk Y [] H' b := fun hn b hb => by
    obtain ⟨o, e, _⟩ := ob b hb
    have e1 := old1 b o e
    subst hY
    refine ⟨hn b hb, Nat.ne_of_lt (Heap.lt_size e1), fun z => ?_, .inl hb, fun x a q => (J0.ok.exf b hb).2 x a q, fun p hp => by simp [cxComp] at hp⟩
    exact J0.ok.exfs b hb z
  have loop : codeAny (model X.prog X.w) X.A (.compLoop (.ListComp elt [⟨tg, iter, ifs, 0⟩] scope pos) 0 (.ref it) (.ref s.heap.objs.size) (compEnvC scope (clOf X.env scope.names []) s1.heap.objs.size X.env)) (RR (.ref s.heap.objs.size) s1.heap.objs.size) s4 := by
    refine compLoop_any (fun n s' => ∃ i ys H', Inv Y [] (capSt cap σ) H' s' ∧ tn i s'.heap ∧ (∀ b ∈ fp, H' b = none) ∧ W i n ys H') ?_ m0 ⟨0, [], _, J0, st4, fun b hb => (hf1 b hb).1, w0⟩
    rintro n s3 ⟨i, ys, H3, I3, st3, fr3, w3⟩
    obtain ⟨hDl, alt⟩ := step i n ys H3 w3
    rcases alt with ⟨stop, q⟩ | ⟨go, hlen, NN, hNN, stp⟩
    · have := T.done Y (by rw [← hY]; rfl) (by rw [← hY]; rfl) (by rw [← hY]; rfl) (by rw [← hY]; exact hc) i [] s3 (capSt cap σ) H3 (notedBy (model X.prog X.w) X.A (compEnvC scope (clOf X.env scope.names []) s1.heap.objs.size X.env) fun e s' => RR (.ref s.heap.objs.size) s1.heap.objs.size (.error e) s') I3 (stat fr3) st3 stop
      subst hY
      refine thn this fun r s5 ⟨hr, I5⟩ => ?_
      subst hr
      refine hRR _ _ H3 s5 (I1.call' I5.os I5.base I5.hok I5.bare fun b hb => ?_) (I1.fpOk (Nat.le_refl _) I5.free) (I5.loc.imp fun m z => z.1) q
      obtain ⟨_, f1, f2, f3, f4, f5⟩ := hf1 b hb
      exact ⟨f3, f1, f4, f5⟩
    · have := T.item Y (by rw [← hY]; rfl) (by rw [← hY]; rfl) (by rw [← hY]; rfl) (by rw [← hY]; exact hc) i [] s3 (capSt cap σ) H3 (notedBy (model X.prog X.w) X.A (compEnvC scope (clOf X.env scope.names []) s1.heap.objs.size X.env) fun e s' => RR (.ref s.heap.objs.size) s1.heap.objs.size (.error e) s') I3 (stat fr3) st3 go
      have hgY := hg s1.heap.objs.size fp s1 (upd H s.heap.objs.size (.lst []))
      have hiY := hi s1.heap.objs.size fp s1 (upd H s.heap.objs.size (.lst []))
      have heY := he s1.heap.objs.size fp s1 (upd H s.heap.objs.size (.lst []))
      rw [hY] at hgY hiY heY
      have nox : ∀ {P : Value → Shared → Prop} e s', Y.xe e s' → P e s' := fun e s' z => by subst hY; exact False.elim z
      have eA : Y.A = X.A := by rw [← hY]; rfl
      have eP : Y.prog = X.prog := by rw [← hY]; rfl
      have eW : Y.w = X.w := by rw [← hY]; rfl
      have eE : Y.env = compEnvC scope (clOf X.env scope.names []) s1.heap.objs.size X.env := by rw [← hY]; rfl
      rw [← eA, ← eP, ← eW, ← eE] at this ⊢
      refine thn this fun r s5 ⟨u, hr, h5⟩ => ?_
      subst hr
      refine thn h5 fun _ s6 ⟨x, H6, I6, rx, y6, st6, fr6⟩ => ?_
      have I6' := I6.pinned (stat fr6) (T.obj _ _ st6)
      refine wpAny_mono (hgY _ s6 (capSt cap σ) H6 x u _ I6' rx (hk _ _ _ _ (stp x H6 y6))) (fun _ s7 ⟨σ7, H7, I7, ⟨k1, k2⟩, q7⟩ => ?_) nox
      refine thn (hiY _ s7 σ7 H7 _ _ I7 q7) fun ok s8 ⟨H8, I8, q8⟩ => ?_
      have again : ∀ {H9 : Hp} {s9 : Shared} {σ9 : St} {ys' : List V}, Inv Y ([] ++ pinsAt fp s6.heap) σ9 H9 s9 → σ9.length = (capSt cap σ).length → (∀ (i : Nat) v, (capSt cap σ)[i]? = some (some v) → σ9[i]? = some (some v)) → (∃ m', m' < n ∧ W (i + 1) m' ys' H9) → ∃ m, m < n ∧ ∃ i ys H', Inv Y [] (capSt cap σ) H' s9 ∧ tn i s9.heap ∧ (∀ b ∈ fp, H' b = none) ∧ W i m ys H' := by
        rintro H9 s9 σ9 ys' I9 hl hw ⟨m', hm, w9⟩
        refine ⟨m', hm, i + 1, ys', H9, I9.unpinned.weak hl.symm hw, T.keep _ _ _ st6 fun b hb o e => (I9.pin (b, o) (List.mem_append_right _ (List.mem_append_right _ (mem_pinsAt hb e)))).1, fun b hb => ?_, w9⟩
        obtain ⟨o, e, d⟩ := T.obj _ _ st6 b hb
        exact (I9.pin (b, o) (List.mem_append_right _ (List.mem_append_right _ (mem_pinsAt hb e)))).2.1
      have kw : ∀ (i : Nat) v, (capSt cap σ)[i]? = some (some v) → σ7[i]? = some (some v) := fun i v e => by
        rw [k2 i ?_]
        · exact e
        · unfold ownOf
          cases q : cap[i]? with
          | none => rfl
          | some o =>
            cases o with
            | none =>
              unfold capSt at e
              rw [List.getElem?_map, q] at e
              cases e
            | some j => rfl
      cases ok with
      | false =>
        rw [if_neg Bool.false_ne_true] at q8 ⊢
        exact again I8 k1 kw (hNN _ _ q8)
      | true =>
        rw [if_pos rfl] at q8 ⊢
        refine wpAny_mono (heY _ s8 σ7 H8 _ I8 q8) (fun u9 s9 ⟨y, H9, I9, ry, hD9, q9⟩ => ?_) nox
        refine wpAny_mono (mt_append (X := Y) _ s9 σ7 H9 (.ref s.heap.objs.size) [y] (.ref s.heap.objs.size) [u9] (fun _ H10 => NN (ys ++ [y]) H10) I9 rfl (.cons ry .nil) ⟨_, ys, y, rfl, rfl, hD9, hlen, q9⟩) (fun _ s10 ⟨_, H10, I10, _, q10⟩ => ?_) nox
        exact again I10 k1 kw (hNN _ _ q10)
  exact codeAny_compStart_list loop (T.self X.A 0 _ _ _ st4 loop)

theorem turned_of {C : Addr} {H' : Hp} {s' : Shared} (I' : Inv X pins σ H' s') (fC : FpOk X pins H' C) {h' : Heap} (hs' : Heap.SameBut C s'.heap h') : Inv X pins σ H' { s' with heap := h' } := by
  obtain ⟨f0, f1, f2, f3, f4, f5⟩ := fC
  exact I'.turned (t' := s'.toks) (fun b o hb e => hs'.extBut b o hb e) f0 f1 f3 f4 f5
/-- a list comprehension of one clause -/
theorem pe_comp {tg elt iter : Expr} {ifs : List Expr} {pos : Pos} {wi : TI} {g : TG} {tt : TT} {te : TE} (c : CompOk X scope N' cap) (hc : X.calm = true) (hit : PI X tg iter wi)
    (hg : ∀ C ex s H, PG (cxComp X scope N' C ex s H) tg g) (hk : GKp (ownOf cap) g) (hi : ∀ C ex s H, PIfs (cxComp X scope N' C ex s H) ifs tt) (he : ∀ C ex s H, PE (cxComp X scope N' C ex s H) elt te)
    (hs : ∀ x, foldedSetIterable iter X.env x = pure x := by intro _; rfl) : PE X (.ListComp elt [⟨tg, iter, ifs, 0⟩] scope pos) (tComp cap wi g tt te) := by
  intro pins s σ H Q I h
  rw [eval_ListComp]
  refine wpAny_comprehension_free (use := none) rfl hs (closureFor_ok (c.clos I)) c.kind c.names (thn (hit pins s σ H _ I h) fun v s1 h1 => thn h1 fun itv s2 h2 => ?_)
  obtain ⟨it, fp, tn, J, H2, e, I2, T, st2, f2, q⟩ := h2
  subst e
  refine comp_core c hc I2 T st2 f2 hg hk hi he q fun D C H' s' I' fC hn hq => ?_
  obtain ⟨m, hn⟩ := hn
  exact ⟨m, hn, fun h' hs' => ⟨.ref D, H', turned_of I' fC hs', rfl, hq⟩⟩
/-- name = a list comprehension -/
theorem ps_setc {i : Nat} {x : Str} {px spos : Pos} {tg elt iter : Expr} {ifs : List Expr} {pos : Pos} {wi : TI} {g : TG} {tt : TT} {te : TE} (hN : X.N.Nodup) (hx0 : X.N[i]? = some x) (hx : Loc X.env.scope x)
    (c : CompOk X scope N' cap) (hc : X.calm = true) (hit : PI X tg iter wi)
    (hg : ∀ C ex s H, PG (cxComp X scope N' C ex s H) tg g) (hk : GKp (ownOf cap) g) (hi : ∀ C ex s H, PIfs (cxComp X scope N' C ex s H) ifs tt) (he : ∀ C ex s H, PE (cxComp X scope N' C ex s H) elt te)
    (hsw : swapsWith (.ListComp elt [⟨tg, iter, ifs, 0⟩] scope pos) (some (.Name x px)) spos.line X.env = pure true := by rfl)
    (hs : ∀ x, foldedSetIterable iter X.env x = pure x := by intro _; rfl) (hf : X.fn x = true ∨ X.env.scope.names.lookup x = some .local := by first | exact .inl rfl | exact .inr rfl | assumption) : PS X (.Assign [.Name x px] (.ListComp elt [⟨tg, iter, ifs, 0⟩] scope pos) spos) (tAsg (tComp cap wi g tt te) (gName i)) := by
  intro pins s σ H D0 I h
  rw [exec_Assign_Name_used _ _ _ _ hsw]
  refine wpAny_bind (wpAny_standAt (wpAny_bind ?_))
  show wpAny _ X.A (do let _ ← comprehension (.ListComp elt [⟨tg, iter, ifs, 0⟩] scope pos) scope X.env _ (newList []) false (eval iter X.env) (some (assign (.Name x px) X.env))) _ _ s
  refine wpAny_bind (wpAny_mono (wpAny_comprehension_free (use := some (assign (.Name x px) X.env)) (Q := fun _ s' => SP X pins D0 .next s') rfl hs (closureFor_ok (c.clos I)) c.kind c.names
    (thn (hit pins s σ H _ I h) fun v s1 h1 => thn h1 fun itv s2 h2 => ?_)) (fun _ s' hq => wpAny_pure (wpAny_pure hq)) fun _ _ e => e)
  obtain ⟨it, fp, tn, J, H2, e, I2, T, st2, f2, q⟩ := h2
  subst e
  refine comp_core (Q := fun v H1 => gName i v σ H1 D0.nx) c hc I2 T st2 f2 hg hk hi he q fun D C H' s' I' fC hn hq => ?_
  obtain ⟨m, hn⟩ := hn
  refine wpAny_assign_Name (store_ok2 (v := .ref D) I' hN hx0 hx rfl (fun s'' I'' ⟨a, sb, ha⟩ => ?_) hf)
  have hne : C ≠ a := by
    rcases ha with z | z
    · rw [z]; exact fC.2.1
    · exact fun e => fC.2.2.2.2.1 x a z e.symm
  exact ⟨m, hn.sameBut sb hne, fun h' hs' => ⟨σ.set i (some (.ref D)), H', turned_of I'' fC hs', hq⟩⟩
end

theorem comp_list {K : PySem.W.Frag} {a D : Addr} {xs : List V} {g : TG} {tt : TT} {te : TE} {σ0 : St} {H1 : Hp} {R : Hp → Prop} (Pv : Nat → List V → Hp → Prop) (h0 : Pv 0 [] (upd H1 D (.lst [])))
    (hl : ∀ i ys H, i ≤ xs.length → Pv i ys H → SqL K H a xs ∧ H D = some (.lst ys) ∧ ys.length ≤ i) (hz : xs.length ≤ sizeLine)
    (hs : ∀ i x ys H, xs[i]? = some x → Pv i ys H → g x σ0 H fun σ4 H4 => tt σ4 H4 fun b H5 => if b = true then te σ4 H5 fun y H6 => H6 D = some (.lst ys) ∧ Pv (i + 1) (ys ++ [y]) (upd H6 D (.lst (ys ++ [y]))) else Pv (i + 1) ys H5)
    (hd : ∀ ys H, Pv xs.length ys H → R H) :
    ∃ W : Nat → Nat → List V → Hp → Prop, (∃ m, W 0 m [] (upd H1 D (.lst []))) ∧ ∀ i m ys H2, W i m ys H2 → H2 D = some (.lst ys) ∧
      (((Itl K a).stop i H2 ∧ R H2) ∨ ((Itl K a).go i H2 ∧ ys.length < sizeLine ∧ ∃ N : List V → Hp → Prop, (∀ ys' H', N ys' H' → ∃ m', m' < m ∧ W (i + 1) m' ys' H') ∧ ∀ x H3, (Itl K a).yld i H2 x H3 → g x σ0 H3 fun σ4 H4 => tt σ4 H4 fun b H5 =>
        if b = true then te σ4 H5 fun y H6 => H6 D = some (.lst ys) ∧ N (ys ++ [y]) (upd H6 D (.lst (ys ++ [y]))) else N ys H5)) := by
  refine ⟨fun i m ys H => m = xs.length - i ∧ i ≤ xs.length ∧ Pv i ys H, ⟨xs.length, by simp, Nat.zero_le _, h0⟩, ?_⟩
  rintro i m ys H2 ⟨rfl, hi, p⟩
  obtain ⟨q, hD, hly⟩ := hl i ys H2 hi p
  refine ⟨hD, ?_⟩
  by_cases hlt : i < xs.length
  · refine .inr ⟨⟨xs, xs[i], q, by simp [hlt]⟩, by omega, Pv (i + 1), fun ys' H' p' => ⟨xs.length - (i + 1), by omega, rfl, hlt, p'⟩, fun x H3 y => ?_⟩
    obtain ⟨e, y⟩ := y
    subst e
    exact hs i x ys _ (y xs q) p
  · have e : i = xs.length := by omega
    subst e
    exact .inl ⟨⟨xs, q, Nat.le_refl _⟩, hd ys H2 p⟩
theorem comp_tup {K : PySem.W.Frag} {a D : Addr} {xs : List V} {g : TG} {tt : TT} {te : TE} {σ0 : St} {H1 : Hp} {R : Hp → Prop} (Pv : Nat → List V → Hp → Prop) (h0 : Pv 0 [] (upd H1 D (.lst [])))
    (hl : ∀ i ys H, i ≤ xs.length → Pv i ys H → SqT K H a xs ∧ H D = some (.lst ys) ∧ ys.length ≤ i) (hz : xs.length ≤ sizeLine)
    (hs : ∀ i x ys H, xs[i]? = some x → Pv i ys H → g x σ0 H fun σ4 H4 => tt σ4 H4 fun b H5 => if b = true then te σ4 H5 fun y H6 => H6 D = some (.lst ys) ∧ Pv (i + 1) (ys ++ [y]) (upd H6 D (.lst (ys ++ [y]))) else Pv (i + 1) ys H5)
    (hd : ∀ ys H, Pv xs.length ys H → R H) :
    ∃ W : Nat → Nat → List V → Hp → Prop, (∃ m, W 0 m [] (upd H1 D (.lst []))) ∧ ∀ i m ys H2, W i m ys H2 → H2 D = some (.lst ys) ∧
      (((Itt K a).stop i H2 ∧ R H2) ∨ ((Itt K a).go i H2 ∧ ys.length < sizeLine ∧ ∃ N : List V → Hp → Prop, (∀ ys' H', N ys' H' → ∃ m', m' < m ∧ W (i + 1) m' ys' H') ∧ ∀ x H3, (Itt K a).yld i H2 x H3 → g x σ0 H3 fun σ4 H4 => tt σ4 H4 fun b H5 =>
        if b = true then te σ4 H5 fun y H6 => H6 D = some (.lst ys) ∧ N (ys ++ [y]) (upd H6 D (.lst (ys ++ [y]))) else N ys H5)) := by
  refine ⟨fun i m ys H => m = xs.length - i ∧ i ≤ xs.length ∧ Pv i ys H, ⟨xs.length, by simp, Nat.zero_le _, h0⟩, ?_⟩
  rintro i m ys H2 ⟨rfl, hi, p⟩
  obtain ⟨q, hD, hly⟩ := hl i ys H2 hi p
  refine ⟨hD, ?_⟩
  by_cases hlt : i < xs.length
  · refine .inr ⟨⟨xs, xs[i], q, by simp [hlt]⟩, by omega, Pv (i + 1), fun ys' H' p' => ⟨xs.length - (i + 1), by omega, rfl, hlt, p'⟩, fun x H3 y => ?_⟩
    obtain ⟨e, y⟩ := y
    subst e
    exact hs i x ys _ (y xs q) p
  · have e : i = xs.length := by omega
    subst e
    exact .inl ⟨⟨xs, q, Nat.le_refl _⟩, hd ys H2 p⟩
theorem comp_range {lo : Int} {n : Nat} {D : Addr} {g : TG} {tt : TT} {te : TE} {σ0 : St} {H1 : Hp} {R : Hp → Prop} (Pv : Nat → List V → Hp → Prop) (h0 : Pv 0 [] (upd H1 D (.lst [])))
    (hl : ∀ i ys H, i ≤ n → Pv i ys H → H D = some (.lst ys) ∧ ys.length ≤ i) (hz : n ≤ sizeLine)
    (hs : ∀ i ys H, i < n → Pv i ys H → g (.int (lo + i)) σ0 H fun σ4 H4 => tt σ4 H4 fun b H5 => if b = true then te σ4 H5 fun y H6 => H6 D = some (.lst ys) ∧ Pv (i + 1) (ys ++ [y]) (upd H6 D (.lst (ys ++ [y]))) else Pv (i + 1) ys H5)
    (hd : ∀ ys H, Pv n ys H → R H) :
    ∃ W : Nat → Nat → List V → Hp → Prop, (∃ m, W 0 m [] (upd H1 D (.lst []))) ∧ ∀ i m ys H2, W i m ys H2 → H2 D = some (.lst ys) ∧
      (((Itr lo n).stop i H2 ∧ R H2) ∨ ((Itr lo n).go i H2 ∧ ys.length < sizeLine ∧ ∃ N : List V → Hp → Prop, (∀ ys' H', N ys' H' → ∃ m', m' < m ∧ W (i + 1) m' ys' H') ∧ ∀ x H3, (Itr lo n).yld i H2 x H3 → g x σ0 H3 fun σ4 H4 => tt σ4 H4 fun b H5 =>
        if b = true then te σ4 H5 fun y H6 => H6 D = some (.lst ys) ∧ N (ys ++ [y]) (upd H6 D (.lst (ys ++ [y]))) else N ys H5)) := by
  refine ⟨fun i m ys H => m = n - i ∧ i ≤ n ∧ Pv i ys H, ⟨n, by simp, Nat.zero_le _, h0⟩, ?_⟩
  rintro i m ys H2 ⟨rfl, hi, p⟩
  obtain ⟨hD, hly⟩ := hl i ys H2 hi p
  refine ⟨hD, ?_⟩
  by_cases hlt : i < n
  · refine .inr ⟨hlt, by omega, Pv (i + 1), fun ys' H' p' => ⟨n - (i + 1), by omega, rfl, hlt, p'⟩, fun x H3 y => ?_⟩
    obtain ⟨e, y⟩ := y
    subst e y
    exact hs i ys _ hlt p
  · have e : i = n := by omega
    subst e
    exact .inl ⟨Nat.le_refl _, hd ys H2 p⟩
end L2

set_option Elab.async false
set_option linter.all false
set_option maxRecDepth 100000
namespace L2
open PySem PySem.Spec PyProof.Rows
def CDivB (i j : Int) : Prop := 0 < j ∧ j ≤ 10 ^ 70
section
variable {X : Cx}
theorem op_fdivB : OpR X (binaryOp .FloorDiv) (rI CDivB fun i j => .int (i / j)) := opI fun i j _ _ _ _ _ hc q => by
  have h1 : (0 : Int) < j := hc.1
  have h2 : j ≤ 10 ^ 70 := hc.2
  refine floordiv_int (by omega) ?_ (.inl (PyProof.noPylong_of_log2 ?_))
  · rw [Int.fdiv_eq_ediv_of_nonneg _ (by omega)]
    exact q
  · have h3 : j.natAbs < 2 ^ 300 := by
      have : (j.natAbs : Int) = j := by omega
      have h4 : (10 : Int) ^ 70 < 2 ^ 300 := by decide
      omega
    have h5 : j.natAbs.log2 < 300 := (Nat.log2_lt (by omega)).mpr h3
    omega
/-- isinstance(x, C), C a built-in type -/
theorem call_isinst : CallR X (.builtin "isinstance") (fun xs H Q => ∃ x n t b, xs = [x, .ty n] ∧ TyOf X.K H x t ∧ PySem.W.kitOne X.K t (.type n) = some b ∧ Q (.bl b) H) := by
  intro pins s σ H xs us Q I r h
  obtain ⟨x, n, t, b, rfl, ty, e, q⟩ := h
  obtain ⟨u, v, rfl, ru, rv⟩ := Vals.two r
  cases rv
  exact isinst_ok I ru ty e fun tk => ⟨.bl b, H, I.tok _, rfl, q⟩
end
def eqVs (xs ys : List V) : Bool := xs.length == ys.length && (xs.zip ys).all fun p => eqV p.1 p.2
theorem range_all_zip : ∀ (xs ys : List V), xs.length = ys.length → ((List.range xs.length).all fun j => eqV (xs.getD j .non) (ys.getD j .non)) = (xs.zip ys).all fun p => eqV p.1 p.2
  | [], [], _ => rfl
  | x :: xs, y :: ys, h => by
    have ih := range_all_zip xs ys (by simpa using h)
    rw [List.length_cons, List.range_succ_eq_map, List.all_cons, List.all_map, List.zip_cons_cons, List.all_cons, ← ih]
    rfl
  | [], _ :: _, h => by simp at h
  | _ :: _, [], h => by simp at h
theorem range_all_zip' : ∀ (xs ys : List V), ((List.range (min xs.length ys.length)).all fun j => eqV (xs.getD j .non) (ys.getD j .non)) = (xs.zip ys).all fun p => eqV p.1 p.2
  | [], ys => by simp
  | x :: xs, [] => by simp
  | x :: xs, y :: ys => by
    have ih := range_all_zip' xs ys
    rw [List.length_cons, List.length_cons, Nat.succ_min_succ, Nat.succ_eq_add_one, List.range_succ_eq_map, List.all_cons, List.all_map, List.zip_cons_cons, List.all_cons, ← ih]
    rfl
def rEqD (K : PySem.W.Frag) (neg : Bool) : R2 := fun x y H Q => ∃ l b xs ys, x = .ref l ∧ y = .ref b ∧ ((SqL K H l xs ∧ SqL K H b ys) ∨ (SqT K H l xs ∧ SqT K H b ys)) ∧ xs.all flatV = true ∧ ys.all flatV = true ∧
  Q (.bl (if neg then !eqVs xs ys else eqVs xs ys)) H
section
variable {X : Cx}
theorem items_eqAt {A : Around} {s : Shared} {xs ys : List V} {us ws : List Value} (r : Vals xs us) (q : Vals ys ws) (fx : xs.all flatV = true) (fy : ys.all flatV = true) :
    ∀ j (h1 : j < us.toArray.size) (h2 : j < ws.toArray.size), SeqAt.EqAt A s us.toArray[j] ws.toArray[j] (eqV (xs.getD j .non) (ys.getD j .non)) := by
  intro j h1 h2
  have l1 := r.length
  have l2 := q.length
  simp only [List.size_toArray] at h1 h2
  have hx : xs[j]? = some xs[j] := List.getElem?_eq_getElem (by omega)
  have hy : ys[j]? = some ys[j] := List.getElem?_eq_getElem (by omega)
  obtain ⟨u, eu, ru⟩ := r.get hx
  obtain ⟨v, ev, rv⟩ := q.get hy
  have e1 : us.toArray[j] = u := by
    have := (List.getElem?_eq_some_iff.mp eu).2
    simpa using this
  have e2 : ws.toArray[j] = v := by
    have := (List.getElem?_eq_some_iff.mp ev).2
    simpa using this
  have e3 : xs.getD j .non = xs[j] := by rw [List.getD_eq_getElem?_getD, hx]; rfl
  have e4 : ys.getD j .non = ys[j] := by rw [List.getD_eq_getElem?_getD, hy]; rfl
  rw [e1, e2, e3, e4]
  exact eqAt_V ru rv (List.all_eq_true.mp fx _ (List.getElem_mem _)) (List.all_eq_true.mp fy _ (List.getElem_mem _))
theorem op_eqD (hu : X.A.units + 1 < cLine) : OpR X (compareOp .Eq) (rEqD X.K false) := by
  intro pins s σ H x y v u Q I rx ry h
  obtain ⟨l, b, xs, ys, rfl, rfl, hq, fx, fy, q⟩ := h
  cases rx
  cases ry
  rcases hq with ⟨h1, h2⟩ | ⟨h1, h2⟩
  · obtain ⟨us, r1, p1, z1⟩ := I.list h1
    obtain ⟨ws, r2, p2, z2⟩ := I.list h2
    have l1 := r1.length
    have l2 := r2.length
    by_cases hl : xs.length = ys.length
    · refine SeqAt.eq_listAt p1.isList p2.isList (by simp; omega) (by omega) (items_eqAt r1 r2 fx fy) ⟨.bl _, H, I, rfl, ?_⟩
      have e : (List.range us.toArray.size).all (fun j => eqV (xs.getD j .non) (ys.getD j .non)) = eqVs xs ys := by
        unfold eqVs
        rw [List.size_toArray, ← l1, range_all_zip xs ys hl, hl]
        simp
      rw [e]
      exact q
    · refine SeqAt.eq_list_lengthsAt p1.isList p2.isList (by simp; omega) (by omega) ⟨.bl _, H, I, rfl, ?_⟩
      have e : eqVs xs ys = false := by unfold eqVs; simp [hl]
      rw [← e]
      exact q
  · obtain ⟨us, r1, p1, z1⟩ := I.tuple h1
    obtain ⟨ws, r2, p2, z2⟩ := I.tuple h2
    have l1 := r1.length
    have l2 := r2.length
    refine SeqAt.eq_tupleAt p1 p2 (by omega) (items_eqAt r1 r2 fx fy) ⟨.bl _, H, I, rfl, ?_⟩
    have e : ((List.range (min us.toArray.size ws.toArray.size)).all (fun j => eqV (xs.getD j .non) (ys.getD j .non)) && us.toArray.size == ws.toArray.size) = eqVs xs ys := by
      unfold eqVs
      rw [List.size_toArray, List.size_toArray, ← l1, ← l2, range_all_zip' xs ys, Bool.and_comm]
    rw [e]
    exact q
theorem op_neD (hu : X.A.units + 1 < cLine) : OpR X (compareOp .NotEq) (rEqD X.K true) := by
  intro pins s σ H x y v u Q I rx ry h
  obtain ⟨l, b, xs, ys, rfl, rfl, hq, fx, fy, q⟩ := h
  cases rx
  cases ry
  rcases hq with ⟨h1, h2⟩ | ⟨h1, h2⟩
  · obtain ⟨us, r1, p1, z1⟩ := I.list h1
    obtain ⟨ws, r2, p2, z2⟩ := I.list h2
    have l1 := r1.length
    have l2 := r2.length
    by_cases hl : xs.length = ys.length
    · refine SeqAt.RcNeAt.lists p1.isList p2.isList (by simp; omega) (by omega) (items_eqAt r1 r2 fx fy) _ _ _ _ ⟨.bl _, H, I, rfl, ?_⟩
      have e : (List.range us.toArray.size).all (fun j => eqV (xs.getD j .non) (ys.getD j .non)) = eqVs xs ys := by
        unfold eqVs
        rw [List.size_toArray, ← l1, range_all_zip xs ys hl, hl]
        simp
      rw [e]
      exact q
    · refine SeqAt.RcNeAt.lists_lengths p1.isList p2.isList (by simp; omega) (by omega) _ _ _ _ ⟨.bl _, H, I, rfl, ?_⟩
      have e : eqVs xs ys = false := by unfold eqVs; simp [hl]
      have q : Q (.bl (!eqVs xs ys)) H := q
      rw [e] at q
      exact q
  · obtain ⟨us, r1, p1, z1⟩ := I.tuple h1
    obtain ⟨ws, r2, p2, z2⟩ := I.tuple h2
    have l1 := r1.length
    have l2 := r2.length
    refine SeqAt.RcNeAt.tuples p1 p2 (by omega) (items_eqAt r1 r2 fx fy) _ _ _ _ ⟨.bl _, H, I, rfl, ?_⟩
    have e : ((List.range (min us.toArray.size ws.toArray.size)).all (fun j => eqV (xs.getD j .non) (ys.getD j .non)) && us.toArray.size == ws.toArray.size) = eqVs xs ys := by
      unfold eqVs
      rw [List.size_toArray, List.size_toArray, ← l1, ← l2, range_all_zip' xs ys, Bool.and_comm]
    rw [e]
    exact q
end

/-- the items of a list or tuple that stands at p -/
def seqV (H : Hp) (p : Addr) : Option (List V) := match H p with
  | some (.lst xs) => some xs
  | some (.tup xs) => some xs
  | some (.frz _ (.lst xs)) => some xs
  | _ => none
theorem seqV_cases {K : PySem.W.Frag} {H : Hp} {p : Addr} {xs : List V} (h : seqV H p = some xs) : SqL K H p xs ∨ SqT K H p xs := by
  unfold seqV at h
  split at h
  · rename_i e; cases h; exact .inl (.of e)
  · rename_i e; cases h; exact .inr (.of e)
  · rename_i o ys e; cases h; exact .inl (.inl (.inr ⟨o, e⟩))
  · cases h
def rIxF : R2 := fun x y H Q => ∃ p i xs v, x = .ref p ∧ y = .int i ∧ seqV H p = some xs ∧ atI xs i = some v ∧ Q v H
/-- the type of a value -/
def tyF (x : V) (H : Hp) : Option String := match x with
  | .non => some "NoneType"
  | .bl _ => some "bool"
  | .int _ => some "int"
  | .str _ => some "str"
  | .ref a => match H a with
    | some (.lst _) => some "list"
    | some (.frz _ (.lst _)) => some "list"
    | some (.tup _) => some "tuple"
    | some (.dK _) => some "dict"
    | some (.dT _) => some "dict"
    | _ => none
  | _ => none
def isTy (t n : String) : Bool := t == n || (t == "bool" && n == "int")
theorem tyF_of {K : PySem.W.Frag} {x : V} {H : Hp} {t : String} (h : tyF x H = some t) : TyOf K H x (.type t) ∧ (t = "NoneType" ∨ t = "bool" ∨ t = "int" ∨ t = "str" ∨ t = "list" ∨ t = "tuple" ∨ t = "dict") := by
  unfold tyF at h
  split at h
  · cases h; exact ⟨.non, by simp⟩
  · cases h; exact ⟨.bl _, by simp⟩
  · cases h; exact ⟨.int _, by simp⟩
  · cases h; exact ⟨.str _, by simp⟩
  · split at h
    · rename_i e; cases h; exact ⟨.lst e, by simp⟩
    · rename_i e; cases h; exact ⟨.frz e, by simp⟩
    · rename_i e; cases h; exact ⟨.tup e, by simp⟩
    · rename_i e; cases h; exact ⟨.dK e, by simp⟩
    · rename_i e; cases h; exact ⟨.dT e, by simp⟩
    · cases h
  · cases h
theorem kitOne_ty {K : PySem.W.Frag} {t n : String} (h : t = "NoneType" ∨ t = "bool" ∨ t = "int" ∨ t = "str" ∨ t = "list" ∨ t = "tuple" ∨ t = "dict") (hn : n = "bool" ∨ n = "int" ∨ n = "str" ∨ n = "list" ∨ n = "tuple" ∨ n = "dict") :
    PySem.W.kitOne K (.type t) (.type n) = some (isTy t n) := by
  rcases h with rfl | rfl | rfl | rfl | rfl | rfl | rfl <;> rcases hn with rfl | rfl | rfl | rfl | rfl | rfl <;> rfl
def lenF (x : V) (H : Hp) : Option Nat := match x with
  | .str y => if y.length ≤ sizeLine then some y.length else none
  | .ref p => match H p with
    | some (.lst xs) => some xs.length
    | some (.tup xs) => some xs.length
    | some (.frz _ (.lst xs)) => some xs.length
    | _ => none
  | _ => none
theorem lenF_of {K : PySem.W.Frag} {x : V} {H : Hp} {n : Nat} (h : lenF x H = some n) : LenV K x H n := by
  unfold lenF at h
  split at h
  · split at h
    · rename_i z; cases h; exact ⟨z, rfl⟩
    · cases h
  · split at h
    · rename_i e; cases h; exact .inl ⟨_, .of e, rfl⟩
    · rename_i e; cases h; exact .inr ⟨_, .of e, rfl⟩
    · rename_i o xs e; cases h; exact .inl ⟨_, .inl (.inr ⟨o, e⟩), rfl⟩
    · cases h
  · cases h
/-- two of one kind, both lists or both tuples -/
def kindV (H : Hp) (p : Addr) : Option Bool := match H p with
  | some (.lst _) => some true
  | some (.frz _ (.lst _)) => some true
  | some (.tup _) => some false
  | _ => none
theorem kindV_l {K : PySem.W.Frag} {H : Hp} {p : Addr} {xs : List V} (h : seqV H p = some xs) (k : kindV H p = some true) : SqL K H p xs := by
  rcases seqV_cases (K := K) h with q | q
  · exact q
  · unfold seqV at h
    unfold kindV at k
    split at h
    · rename_i e; cases h; exact .of e
    · rename_i e; rw [e] at k; cases k
    · rename_i o ys e; cases h; exact .inl (.inr ⟨o, e⟩)
    · cases h
theorem kindV_t {K : PySem.W.Frag} {H : Hp} {p : Addr} {xs : List V} (h : seqV H p = some xs) (k : kindV H p = some false) : SqT K H p xs := by
  unfold seqV at h
  unfold kindV at k
  split at h
  · rename_i e; rw [e] at k; cases k
  · rename_i e; cases h; exact .of e
  · rename_i o ys e; rw [e] at k; cases k
  · cases h
def rEqF (neg : Bool) : R2 := fun x y H Q => ∃ l b k xs ys, x = .ref l ∧ y = .ref b ∧ seqV H l = some xs ∧ seqV H b = some ys ∧ kindV H l = some k ∧ kindV H b = some k ∧ xs.all flatV = true ∧ ys.all flatV = true ∧
  Q (.bl (if neg then !eqVs xs ys else eqVs xs ys)) H
theorem rEqF_D {K : PySem.W.Frag} {neg : Bool} {x y : V} {H : Hp} {Q : VK} (h : rEqF neg x y H Q) : rEqD K neg x y H Q := by
  obtain ⟨l, b, k, xs, ys, e1, e2, h1, h2, k1, k2, r⟩ := h
  cases k with
  | true => exact ⟨l, b, xs, ys, e1, e2, .inl ⟨kindV_l h1 k1, kindV_l h2 k2⟩, r⟩
  | false => exact ⟨l, b, xs, ys, e1, e2, .inr ⟨kindV_t h1 k1, kindV_t h2 k2⟩, r⟩
section
variable {X : Cx}
theorem ix_F : IxR X rIxF := by
  intro value slice pins s σ H x y v u Q I rx ry h hs
  obtain ⟨p, i, xs, z, e1, e2, hq, he, q⟩ := h
  rcases seqV_cases (K := X.K) hq with g | g
  · exact ix_list value slice pins s σ H x y v u Q I rx ry ⟨p, xs, i, z, e1, e2, g, he, q⟩ hs
  · exact ix_tup value slice pins s σ H x y v u Q I rx ry ⟨p, xs, i, z, e1, e2, g, he, q⟩ hs
theorem call_isF : CallR X (.builtin "isinstance") (fun xs H Q => ∃ x n t, xs = [x, .ty n] ∧ tyF x H = some t ∧ (n = "bool" ∨ n = "int" ∨ n = "str" ∨ n = "list" ∨ n = "tuple" ∨ n = "dict") ∧ Q (.bl (isTy t n)) H) := by
  intro pins s σ H xs us Q I r h
  obtain ⟨x, n, t, e, ht, hn, q⟩ := h
  obtain ⟨ty, h7⟩ := tyF_of (K := X.K) ht
  exact call_isinst pins s σ H xs us Q I r ⟨x, n, _, _, e, ty, kitOne_ty h7 hn, q⟩
theorem call_lenF : CallR X (.builtin "len") (fun xs H Q => ∃ x n, xs = [x] ∧ lenF x H = some n ∧ Q (.int n) H) := by
  intro pins s σ H xs us Q I r h
  obtain ⟨x, n, e, hl, q⟩ := h
  exact call_len pins s σ H xs us Q I r ⟨x, n, e, lenF_of hl, q⟩
theorem op_eqF (hu : X.A.units + 1 < cLine) : OpR X (compareOp .Eq) (rEqF false) := fun pins s σ H x y v u Q I rx ry h => op_eqD hu pins s σ H x y v u Q I rx ry (rEqF_D h)
theorem op_neF (hu : X.A.units + 1 < cLine) : OpR X (compareOp .NotEq) (rEqF true) := fun pins s σ H x y v u Q I rx ry h => op_neD hu pins s σ H x y v u Q I rx ry (rEqF_D h)
end
theorem scal_int {i j : Int} : scal (.int i) (.int j) = true := rfl
theorem scal_bl {i j : Bool} : scal (.bl i) (.bl j) = true := rfl
theorem scal_str {i j : Str} : scal (.str i) (.str j) = true := rfl
theorem atI_0 {α : Type} {x : α} {r : List α} : atI (x :: r) 0 = some x := atI_nat (j := 0) rfl
theorem atI_1 {α : Type} {x y : α} {r : List α} : atI (x :: y :: r) 1 = some y := atI_nat (j := 1) rfl
theorem atI_2 {α : Type} {x y z : α} {r : List α} : atI (x :: y :: z :: r) 2 = some z := atI_nat (j := 2) rfl
theorem atI_3 {α : Type} {x y z w : α} {r : List α} : atI (x :: y :: z :: w :: r) 3 = some w := atI_nat (j := 3) rfl
theorem atI_4 {α : Type} {x y z w v : α} {r : List α} : atI (x :: y :: z :: w :: v :: r) 4 = some v := atI_nat (j := 4) rfl

theorem isTys : isTy "NoneType" "bool" = false ∧ isTy "NoneType" "int" = false ∧ isTy "NoneType" "str" = false ∧ isTy "NoneType" "list" = false ∧ isTy "NoneType" "tuple" = false ∧ isTy "NoneType" "dict" = false ∧ isTy "bool" "bool" = true ∧ isTy "bool" "int" = true ∧ isTy "bool" "str" = false ∧ isTy "bool" "list" = false ∧ isTy "bool" "tuple" = false ∧ isTy "bool" "dict" = false ∧ isTy "int" "bool" = false ∧ isTy "int" "int" = true ∧ isTy "int" "str" = false ∧ isTy "int" "list" = false ∧ isTy "int" "tuple" = false ∧ isTy "int" "dict" = false ∧ isTy "str" "bool" = false ∧ isTy "str" "int" = false ∧ isTy "str" "str" = true ∧ isTy "str" "list" = false ∧ isTy "str" "tuple" = false ∧ isTy "str" "dict" = false ∧ isTy "list" "bool" = false ∧ isTy "list" "int" = false ∧ isTy "list" "str" = false ∧ isTy "list" "list" = true ∧ isTy "list" "tuple" = false ∧ isTy "list" "dict" = false ∧ isTy "tuple" "bool" = false ∧ isTy "tuple" "int" = false ∧ isTy "tuple" "str" = false ∧ isTy "tuple" "list" = false ∧ isTy "tuple" "tuple" = true ∧ isTy "tuple" "dict" = false ∧ isTy "dict" "bool" = false ∧ isTy "dict" "int" = false ∧ isTy "dict" "str" = false ∧ isTy "dict" "list" = false ∧ isTy "dict" "tuple" = false ∧ isTy "dict" "dict" = true := by decide
def tyO : Option HO → Option String
  | some (.lst _) => some "list"
  | some (.frz _ (.lst _)) => some "list"
  | some (.tup _) => some "tuple"
  | some (.dK _) => some "dict"
  | some (.dT _) => some "dict"
  | _ => none
def lenO : Option HO → Option Nat
  | some (.lst xs) => some xs.length
  | some (.tup xs) => some xs.length
  | some (.frz _ (.lst xs)) => some xs.length
  | _ => none
def seqO : Option HO → Option (List V)
  | some (.lst xs) => some xs
  | some (.tup xs) => some xs
  | some (.frz _ (.lst xs)) => some xs
  | _ => none
def kindO : Option HO → Option Bool
  | some (.lst _) => some true
  | some (.frz _ (.lst _)) => some true
  | some (.tup _) => some false
  | _ => none
theorem tyF_ref {a : Addr} {H : Hp} : tyF (.ref a) H = tyO (H a) := rfl
theorem tyF_int {i : Int} {H : Hp} : tyF (.int i) H = some "int" := rfl
theorem tyF_bl {i : Bool} {H : Hp} : tyF (.bl i) H = some "bool" := rfl
theorem tyF_str {i : Str} {H : Hp} : tyF (.str i) H = some "str" := rfl
theorem tyF_non {H : Hp} : tyF .non H = some "NoneType" := rfl
theorem lenF_ref {a : Addr} {H : Hp} : lenF (.ref a) H = lenO (H a) := rfl
theorem seqV_eq {a : Addr} {H : Hp} : seqV H a = seqO (H a) := rfl
theorem kindV_eq {a : Addr} {H : Hp} : kindV H a = kindO (H a) := rfl
theorem tyO_lst {xs : List V} : tyO (some (.lst xs)) = some "list" := rfl
theorem tyO_frz {o : Obj} {xs : List V} : tyO (some (.frz o (.lst xs))) = some "list" := rfl
theorem tyO_tup {xs : List V} : tyO (some (.tup xs)) = some "tuple" := rfl
theorem tyO_dK {xs} : tyO (some (.dK xs)) = some "dict" := rfl
theorem lenO_lst {xs : List V} : lenO (some (.lst xs)) = some xs.length := rfl
theorem lenO_frz {o : Obj} {xs : List V} : lenO (some (.frz o (.lst xs))) = some xs.length := rfl
theorem lenO_tup {xs : List V} : lenO (some (.tup xs)) = some xs.length := rfl
theorem seqO_lst {xs : List V} : seqO (some (.lst xs)) = some xs := rfl
theorem seqO_frz {o : Obj} {xs : List V} : seqO (some (.frz o (.lst xs))) = some xs := rfl
theorem seqO_tup {xs : List V} : seqO (some (.tup xs)) = some xs := rfl
theorem kindO_lst {xs : List V} : kindO (some (.lst xs)) = some true := rfl
theorem kindO_frz {o : Obj} {xs : List V} : kindO (some (.frz o (.lst xs))) = some true := rfl
theorem kindO_tup {xs : List V} : kindO (some (.tup xs)) = some false := rfl

theorem upd_old {H : Hp} {p q : Addr} {o u : HO} (hq : H q = some o) (hp : H p = none) : upd H p u q = some o := by rw [upd_ne (ne_of_none hq hp)]; exact hq
theorem Same.laid {H : Hp} {p : Addr} {u : HO} (hp : H p = none) : Same H (upd H p u) := fun _ _ h => upd_old h hp
theorem Same.step {H H1 : Hp} {p : Addr} {u : HO} (s : Same H H1) (hp : H1 p = none) : Same H (upd H1 p u) := s.trans (.laid hp)
theorem of_map_get {α : Type} {f : α → V} {l : List α} {i : Nat} {x : V} (h : (l.map f)[i]? = some x) : ∃ z, l[i]? = some z ∧ x = f z := by
  rw [List.getElem?_map] at h
  cases e : l[i]? with
  | none => rw [e] at h; cases h
  | some z => rw [e] at h; exact ⟨z, rfl, (Option.some.inj h).symm⟩
end L2

set_option Elab.async false
set_option linter.all false
set_option maxRecDepth 100000
namespace L2
open PySem PySem.Spec PyProof.Rows
theorem owner_lr : Manifest.owners.lookup (String.ofList ['r', 'o', 't', 'a', 'r', 'e', 't', 'i', '_', 'e', 'g', 'n', 'a', 'r', 'g', 'n', 'o', 'l'].reverse) = some Manifest.sig_longrange_iterator := by kernel_rfl
theorem slot_lr_next : Slot "longrange_iterator" "__next__" "longrange_iterator.__next__" :=
  .of (owner := "longrange_iterator") (n := "__next__") (by rw [typeLookup_type, builtinLookup_eq_fast]; kernel_rfl) (by decide +kernel) (by decide +kernel) (by decide +kernel)
    (by first | exact .inl (by decide +kernel) | exact .inr (by decide +kernel)) (by rw [isSubtype_type]; kernel_rfl)
theorem slot_lr_iter : Slot "longrange_iterator" "__iter__" "longrange_iterator.__iter__" :=
  .of (owner := "longrange_iterator") (n := "__iter__") (by rw [typeLookup_type, builtinLookup_eq_fast]; kernel_rfl) (by decide +kernel) (by decide +kernel) (by decide +kernel)
    (by first | exact .inl (by decide +kernel) | exact .inr (by decide +kernel)) (by rw [isSubtype_type]; kernel_rfl)
theorem entry_lr_next : entryFor table "longrange_iterator.__next__" = some Builtin.«longrange_iterator.__next__» := entryFor_of_tree (by kernel_rfl)
theorem entry_lr_iter : entryFor table "longrange_iterator.__iter__" = some Builtin.«dict_keyiterator.__iter__» :=
  entryFor_alias (id' := "dict_keyiterator.__iter__") (by kernel_rfl) (by first | rfl | decide +kernel | (unfold String.splitOn; simp +decide [String.splitOnAux])) (by decide +kernel) (by kernel_rfl)
theorem args_lr_next (a : Value) : argsOk "longrange_iterator.__next__" ⟨[a], []⟩ := by
  unfold argsOk; rw [signature?_of (id := "longrange_iterator.__next__") (n := ['_', '_', 't', 'x', 'e', 'n', '_', '_']) (o := ['r', 'o', 't', 'a', 'r', 'e', 't', 'i', '_', 'e', 'g', 'n', 'a', 'r', 'g', 'n', 'o', 'l']) (by kernel_rfl) owner_lr]; kernel_rfl
theorem args_lr_iter (a : Value) : argsOk "longrange_iterator.__iter__" ⟨[a], []⟩ := by
  unfold argsOk; rw [signature?_of (id := "longrange_iterator.__iter__") (n := ['_', '_', 'r', 'e', 't', 'i', '_', '_']) (o := ['r', 'o', 't', 'a', 'r', 'e', 't', 'i', '_', 'e', 'g', 'n', 'a', 'r', 'g', 'n', 'o', 'l']) (by kernel_rfl) owner_lr]; kernel_rfl
abbrev IsLong (h : Heap) (it : Addr) (x left step : Int) : Prop := h.get? it = some { cls := .type "longrange_iterator", dict := none, data := .fields #[rawInt x, rawInt left, rawInt step], slots := #[] }
theorem lr_next (it : Addr) (x left step : Int) (hc0 : ¬left ≤ 0) :
    Meets (Builtin.«longrange_iterator.__next__» ⟨[.ref it], []⟩) (fun _ R s => IsLong s.heap it x left step ∧ 
     ∀ h', IsLong h' it (x + step) (left - 1) step → Heap.SameBut it s.heap h' → R (.ok (.ret (Value.int x s.toks))) { s with heap := h', toks := s.toks + 1 }) :=
  .of_wp fun prog w A R s h => by
    obtain ⟨hp, g, d, tk, os⟩ := s
    obtain ⟨hl, h⟩ := h
    unfold Builtin.«longrange_iterator.__next__»
    dsimp only
    wp_walk
    exact ⟨_, rfl, h _ (Heap.get?_update_self _ (Heap.get?_update_self _ hl rfl) rfl) ((Heap.SameBut.update ..).trans (Heap.SameBut.update ..))⟩
section
variable {prog : Program} {w : World} {A : Around} {E : Value → Shared → Prop} {s : Shared}
theorem pyIter_long {r : Addr} {a b c : Int} {t u v : Tok} {Q : Value → Shared → Prop} (hr : IsRange s.heap r a b c t u v) (hsmall : Builtin.Range.small a b c = false)
    (hQ : Q (.ref s.heap.objs.size) { s with heap := s.heap.push { cls := .type "longrange_iterator", data := .fields #[rawInt a, rawInt (Builtin.Range.rangeSize a b c), rawInt c] } }) :
    wpAny (model prog w) A (pyIter (.ref r)) Q E s := by
  have hT : s.TypeIs (.ref r) "range" := ⟨_, hr, rfl⟩
  refine wpAny_pyIter_slot hT F.slot_range_iter (call_meets F.slot_range_iter hT F.entry_range_iter (F.args_range_iter_1 _)
    (AutoRange.range___iter___range_0 r a b c t u v (by unfold Builtin.Range.small at hsmall; simp [hsmall])) ⟨hr, ?_⟩)
  unfold Builtin.Range.small at hsmall
  simp only [hsmall, Bool.false_eq_true, if_false]
  exact ⟨"longrange_iterator", _, ⟨_, Heap.get?_push_size _ rfl, rfl⟩, slot_lr_next.lookup, hQ⟩
theorem pyNext_long_item {it : Addr} {x left step : Int} {Q : Option Value → Shared → Prop} (hit : IsLong s.heap it x left step) (hleft : 0 < left)
    (hQ : ∀ h', IsLong h' it (x + step) (left - 1) step → Heap.SameBut it s.heap h' → Q (some (.int x s.toks)) { s with heap := h', toks := s.toks + 1 }) :
    wpAny (model prog w) A (pyNext (.ref it)) Q E s := by
  have hT : s.TypeIs (.ref it) "longrange_iterator" := ⟨_, hit, rfl⟩
  unfold pyNext
  refine wpAny_bind (wpAny_attempt (wpAny_callSpecial?_slot (name := Str.ofString "__next__") hT slot_lr_next
    (call_meets slot_lr_next hT entry_lr_next (args_lr_next _) (lr_next it x left step (by omega)) ⟨hit, fun h' h1 h2 => ?_⟩)))
  exact wpAny_pure (hQ h' h1 h2)
theorem pyNext_long_end {it : Addr} {x left step : Int} {Q : Option Value → Shared → Prop} (hh : A.handled = none) (hit : IsLong s.heap it x left step) (hleft : left ≤ 0)
    (hQ : ∀ h', Heap.ExtBut it s.heap h' → Q none { s with heap := h' }) : wpAny (model prog w) A (pyNext (.ref it)) Q E s := by
  have hT : s.TypeIs (.ref it) "longrange_iterator" := ⟨_, hit, rfl⟩
  unfold pyNext
  refine wpAny_bind (wpAny_attempt (wpAny_callSpecial?_slot (name := Str.ofString "__next__") hT slot_lr_next
    (wpAny_call_entry slot_lr_next hT entry_lr_next ?_ (args_lr_next _))))
  unfold Builtin.«longrange_iterator.__next__»
  dsimp only
  wp_walk
  simp only [raiseNew]
  refine wpAny_bind (wpAny_handled ?_)
  rw [show A.in1.handled = none from hh]
  refine wpAny_bind (wpAny_pure (wpAny_throw ?_))
  refine wpAny_bind (wpAny_isInstance (T := "StopIteration") (b := true) ⟨_, Heap.get?_push_size _ rfl, rfl⟩ isSubtype_stop ?_)
  exact wpAny_pure (hQ _ (((Heap.ExtBut.refl it s.heap).push _).push _))
theorem pyIter_longiter {it : Addr} {x left step : Int} {Q : Value → Shared → Prop} (hit : IsLong s.heap it x left step) (h : Q (.ref it) s) : wpAny (model prog w) A (pyIter (.ref it)) Q E s := by
  have hT : s.TypeIs (.ref it) "longrange_iterator" := ⟨_, hit, rfl⟩
  refine wpAny_pyIter_slot hT slot_lr_iter (wpAny_call_entry slot_lr_iter hT entry_lr_iter ?_ (args_lr_iter _))
  show wpAny _ _ (ret (.ref it)) _ _ s
  exact wpAny_pure ⟨_, rfl, "longrange_iterator", _, hT, slot_lr_next.lookup, h⟩
end

theorem turn_long {P : Program} {w : World} {K : PySem.W.Frag} {tg : Expr} (it : Addr) (lo : Int) (n : Nat) : Turn P w K tg (Itr lo n) [it] it (fun i h => IsLong h it (lo + (i : Nat)) ((n : Int) - (i : Nat)) 1) where
  mem := by simp
  obj := fun i h st b hb => by
    have e : b = it := by simpa using hb
    subst e
    exact ⟨_, st, fun v z => by
      have z' : Data.fields _ = Data.cell v := z
      cases z'⟩
  keep := fun i h h' st k => k it (by simp) _ st
  item := by
    intro X hP hw hK hc i pins s σ H E I hf st hg
    subst hP hw hK
    obtain ⟨f0, f1, f2, f3, f4, f5⟩ := hf it (by simp)
    have hlt : i < n := hg
    refine pyNext_long_item st (by omega) fun h' st' sb => ?_
    have e1 : lo + (i : Int) + 1 = lo + ((i + 1 : Nat) : Int) := by omega
    have e2 : (n : Int) - (i : Int) - 1 = (n : Int) - ((i + 1 : Nat) : Int) := by omega
    rw [e1, e2] at st'
    have I1 : Inv X pins σ H { s with heap := h', toks := s.toks + 1 } := I.turned (fun b o hb e => (sb.2 b hb).trans e) f0 f1 f3 f4 f5
    exact ⟨_, rfl, go_of (s := { s with heap := h', toks := s.toks + 1 }) (n := "longrange_iterator") st' rfl rfl (by decide) ⟨.int (lo + i), H, I1, ⟨_, rfl⟩, ⟨rfl, rfl⟩, st', fun b hb => (hf b hb).1⟩⟩
  done := by
    intro X hP hw hK hc i pins s σ H E I hf st hg
    subst hP hw hK
    obtain ⟨f0, f1, f2, f3, f4, f5⟩ := hf it (by simp)
    exact pyNext_long_end (I.ok.hd hc) st (by have : n ≤ i := hg; omega) fun h' eb => ⟨rfl, I.turned (t' := s.toks) (fun b o hb e => eb b o hb e) f0 f1 f3 f4 f5⟩
  self := fun _ _ _ _ _ st h => pyIter_longiter st h
section
variable {X : Cx} {tg : Expr}
/-- a range object just made, walked, of any ints -/
theorem range_itA {pins : List (Addr × Obj)} {σ : St} {H : Hp} {s : Shared} {R : It → Hp → Prop} {E : Value → Shared → Prop} {lo hi : Int} {t u v : Tok} {tk : Nat} (I : Inv X pins σ H s)
    (q : R (Itr lo (hi - lo).toNat) H) : wpAny (model X.prog X.w) X.A (pyIter (.ref s.heap.objs.size)) (PIE X pins σ tg R) E { s with heap := s.heap.push { cls := .type "range", data := .fields #[.int lo t, .int hi u, .int 1 v] }, toks := tk } := by
  have e2 : (((hi - lo).toNat : Nat) : Int) = Builtin.Range.rangeSize lo hi 1 := by rw [rangeSize_one]; split <;> omega
  have I1 : Inv X pins σ H { s with heap := s.heap.push { cls := .type "range", data := .fields #[.int lo t, .int hi u, .int 1 v] }, toks := tk } := I.kept fun b o e => Heap.get?_push_of_some _ e
  cases hsm : Builtin.Range.small lo hi 1 with
  | true =>
    refine wpAny_pyIter_range (IsRange.new ..) hsm ?_
    refine ⟨(s.heap.push { cls := .type "range", data := .fields #[.int lo t, .int hi u, .int 1 v] }).objs.size, [(s.heap.push { cls := .type "range", data := .fields #[.int lo t, .int hi u, .int 1 v] }).objs.size], _, _, H, rfl,
      I1.kept (t' := tk) fun b o e => Heap.get?_push_of_some _ e, turn_range _ lo (hi - lo).toNat, ?_, fun b hb => ?_, q⟩
    · have e1 : lo + ((0 : Nat) : Int) * 1 = lo := by simp
      show IsRangeIter _ _ (lo + ((0 : Nat) : Int) * 1) ((((hi - lo).toNat : Nat) : Int) - ((0 : Nat) : Int)) 1
      rw [e1, e2, show Builtin.Range.rangeSize lo hi 1 - ((0 : Nat) : Int) = Builtin.Range.rangeSize lo hi 1 by simp]
      exact Heap.get?_push_size _ rfl
    · have e : b = (s.heap.push { cls := .type "range", data := .fields #[.int lo t, .int hi u, .int 1 v] }).objs.size := by simpa using hb
      subst e
      exact I1.fpOk (Nat.le_refl _) (I1.hok.fresh (Nat.le_refl _))
  | false =>
    refine pyIter_long (IsRange.new ..) hsm ?_
    refine ⟨(s.heap.push { cls := .type "range", data := .fields #[.int lo t, .int hi u, .int 1 v] }).objs.size, [(s.heap.push { cls := .type "range", data := .fields #[.int lo t, .int hi u, .int 1 v] }).objs.size], _, _, H, rfl,
      I1.kept (t' := tk) fun b o e => Heap.get?_push_of_some _ e, turn_long _ lo (hi - lo).toNat, ?_, fun b hb => ?_, q⟩
    · have e1 : lo + ((0 : Nat) : Int) = lo := by simp
      show IsLong _ _ (lo + ((0 : Nat) : Int)) ((((hi - lo).toNat : Nat) : Int) - ((0 : Nat) : Int)) 1
      rw [e1, e2, show Builtin.Range.rangeSize lo hi 1 - ((0 : Nat) : Int) = Builtin.Range.rangeSize lo hi 1 by simp]
      exact Heap.get?_push_size _ rfl
    · have e : b = (s.heap.push { cls := .type "range", data := .fields #[.int lo t, .int hi u, .int 1 v] }).objs.size := by simpa using hb
      subst e
      exact I1.fpOk (Nat.le_refl _) (I1.hok.fresh (Nat.le_refl _))
def iRngA (ta : TA) : TI := fun σ H R => ta σ H fun vs H1 => ∃ i j : Int, vs = [.int i, .int j] ∧ R (Itr i (j - i).toNat) H1
theorem pi_rangeA {a b : Expr} {ta : TA} {p pos : Pos} (hg : Gl X "range") (hm : X.mg "range" = none) (ha : PA X [a, b] ta) (hs : starEach [a, b] X.env = [(false, eval a X.env), (false, eval b X.env)] := by rfl) (hs2 : starEach [b] X.env = [(false, eval b X.env)] := by rfl) :
    PI X tg (.Call (.Name "range" p) [a, b] [] pos) (iRngA ta) := by
  intro pins s σ H R I h
  refine Call_ (ld_blt I hg hm boot_range (PyProof.Rows.callWith_type1 (thn (ha pos pins s σ H _ I h) fun us s1 ⟨vs, H1, I1, r1, q1⟩ => ?_) (by rw [hs, hs2]) (by rw [hs2]; rfl)))
  obtain ⟨i, j, e, q⟩ := q1
  subst e
  cases r1 with
  | cons r rr =>
    cases rr with
    | cons r' rr =>
      cases rr
      obtain ⟨t, rfl⟩ := r
      obtain ⟨t', rfl⟩ := r'
      exact call_range_2 (range_itA I1 q)
end
end L2

set_option Elab.async false
set_option linter.all false
set_option maxRecDepth 100000
namespace L2
open PySem PySem.Spec PyProof.Rows
section
variable {X : Cx} {tg : Expr}
theorem keys_vals {P : Program} {w : World} : ∀ {kvs : List (Key × V)} {vs : List (Key × Value)} {acc : List Value}, KV kvs vs → acc.length = vs.length → (∀ (j : Nat) (v : Value), acc[j]? = some v → ∃ (k : Key) (x : Value), vs[j]? = some (k, x) ∧ (mixKind P w).is k v = true) → Vals (kvs.map fun p => kV p.1) acc := by
  intro kvs vs acc r
  unfold KV at r
  induction r generalizing acc with
  | nil =>
    intro hl h
    cases acc with
    | nil => exact .nil
    | cons _ _ => simp at hl
  | @cons p q kvs vs r t ih =>
    intro hl h
    cases acc with
    | nil => simp at hl
    | cons u acc =>
      refine .cons ?_ (ih (by simpa using hl) fun j v e => by simpa using h (j + 1) v (by simpa using e))
      obtain ⟨k, x, e, hk⟩ := h 0 u (by simp)
      simp at e
      have ek : q.1 = k := by rw [e]
      show RelV (kV p.1) u
      rw [r.1, ek]
      rcases keyIs_shape (show keyIs k u = true from hk) with ⟨i, t', rfl, rfl⟩ | ⟨z, t', rfl, rfl⟩
      · exact ⟨t', rfl⟩
      · exact ⟨t', rfl⟩
end
theorem Un.laidN {fs ex : List Addr} {H : Hp} {h h' : Heap} {a : Addr} {o : HO} (k : ∀ b u, h.get? b = some u → h'.get? b = some u) (ha : h.get? a = none) (hn : H a = none) : Un fs ex H (upd H a o) h h' where
  keep := fun b u q _ _ _ => k b u q
  slot := fun b u q _ _ _ => ⟨u.slots, k b u q⟩
  free := fun b u q n _ => by
    have hb : b ≠ a := fun e => by rw [e, ha] at q; cases q
    rw [upd_ne hb]; exact n
  there := fun b u q _ => ⟨u, k b u q⟩
  tups := fun b xs q => upd_old q hn
  frzs := fun b u xs q => upd_old q hn
  tbls := fun b ps q => ⟨#[], by rw [upd_old q hn]; simp⟩
theorem Inv.laidN {X : Cx} {pins : List (Addr × Obj)} {σ : St} {H : Hp} {s : Shared} {h' : Heap} {a : Addr} {o : HO} {t' : Nat} (I : Inv X pins σ H s) (k : ∀ b u, s.heap.get? b = some u → h'.get? b = some u) (ha : s.heap.get? a = none)
    (new : ObjOk X.prog X.w (upd H a o) h' a o) : H a = none ∧ Inv X pins σ (upd H a o) { s with heap := h', toks := t' } := by
  have hn : H a = none := by
    cases q : H a with
    | none => rfl
    | some u =>
      obtain ⟨ob, e⟩ : ∃ ob, s.heap.get? a = some ob := by
        have x := I.hok a u q
        cases u with
        | lst xs => obtain ⟨_, _, _, _, e⟩ := x; exact ⟨_, e⟩
        | tup xs => obtain ⟨_, _, _, p⟩ := x; obtain ⟨_, e, _⟩ := p; exact ⟨_, e⟩
        | dK kvs => obtain ⟨_, _, _, _, o, _, _, e, _⟩ := x; exact ⟨_, e⟩
        | dT kvs => obtain ⟨_, _, _, _, o, _, _, e, _⟩ := x; exact ⟨_, e⟩
        | set S n => obtain ⟨o, _, _, _, e, _⟩ := x; exact ⟨_, e⟩
        | ins C dx fs => obtain ⟨_, _, _, e, _⟩ := x; exact ⟨_, e⟩
        | own y => exact x
        | xd fs => obtain ⟨_, ⟨_, _, _, e, _⟩, _⟩ := x; exact ⟨_, e⟩
        | rng lo hi => obtain ⟨_, _, _, e⟩ := x; exact ⟨_, e⟩
        | frz ob u => obtain ⟨e, _⟩ := x; exact ⟨_, e⟩
        | tbl ps => exact ⟨_, (show s.heap.get? a = some _ from x)⟩
        | met f y => exact ⟨_, (show s.heap.get? a = some _ from x)⟩
        | ext φ => obtain ⟨_, e, _⟩ := x; exact e
      rw [ha] at e; cases e
  refine ⟨hn, I.un (Un.laidN k ha hn) fun b u e => ?_⟩
  by_cases hb : b = a
  · subst hb; rw [upd_same] at e; cases e; exact new
  · rw [upd_ne hb] at e
    exact (I.hok b u e).stay (fun c v _ q => k c v q) (fun c q => upd_old q hn) fun c xs q => upd_old q hn
theorem sortedHeap_at {h : Heap} {a : Addr} {vs : List Value} {out : Array Value} {n : Nat} (ho : h.get? a = some (seqObj "list" vs.toArray n)) :
    (∃ e, (sortedHeap h a vs out).get? a = some (seqObj "list" out e)) ∧ ∀ b o, b ≠ a → h.get? b = some o → (sortedHeap h a vs out).get? b = some o := by
  have ha : a < h.objs.size := Heap.lt_size ho
  unfold sortedHeap
  obtain ⟨e1, ho1⟩ : ∃ e1, (h.update a (Obj.mapSeq fun _ => #[])).get? a = some (seqObj "list" #[] e1) := ⟨_, get?_update_seq ho (fun _ => #[])⟩
  have ho2 := Heap.get?_push_of_some (seqObj "list" #[] 0) (Heap.get?_push_of_some (seqObj "tuple" vs.toArray 0) ho1)
  refine ⟨⟨_, get?_update_seq ho2 (fun _ => out)⟩, fun b o hb e => ?_⟩
  rw [Heap.get?_update_other _ _ (Ne.symm hb)]
  refine Heap.get?_push_of_some _ (Heap.get?_push_of_some _ ?_)
  rw [Heap.get?_update_other _ _ (Ne.symm hb)]
  exact e
section
variable {prog : Program} {w : World} {A : Around} {E : Value → Shared → Prop} {s : Shared} {T : String} {r d : Addr} {n : Nat} {P : Nat → Value → Prop} {OK : Heap → Prop} {Q : Value → Shared → Prop}
theorem sorted_src (K : PySem.W.KdlSrc prog w T r d n P OK) (hh : A.handled = none) (hok : OK s.heap) (hn : n < 64) (hint : ∀ vs : List Value, vs.length = n → (∀ (j : Nat) (v : Value), vs[j]? = some v → P j v) → ∃ ns, IntsAre vs ns)
    (h : ∀ (D : Addr) (h' : Heap) (tk e : Nat) (vs : List Value) (ns ns' : List Int) (out : Array Value), (∀ b o, s.heap.get? b = some o → h'.get? b = some o) → s.heap.get? D = none → h'.get? D = some (seqObj "list" out e) →
      vs.length = n → (∀ (j : Nat) (v : Value), vs[j]? = some v → P j v) → IntsAre vs ns → IntsAre out.toList ns' → ns'.Perm ns → ns'.Pairwise (· ≤ ·) → Q (.ref D) { s with heap := h', toks := tk }) :
    wpAny (model prog w) A (call (.builtin "sorted") [.ref r]) Q E s := by
  refine Calls.call_function_entry PyProof.Rows.kind_sorted PyProof.Rows.plain_sorted PyProof.Rows.entry_sorted (PyProof.Rows.args_sorted1 _) ?_
  unfold Builtin.«sorted»
  refine wpAny_bind (m := checkCount "sorted" 1 1 _) (wpAny_pure (wpAny_bind ?_))
  refine PySem.W.kdu_collect (A := A.in1) K hh hok (by rw [sizeLine_eq]; omega) fun h1 tk acc hk hacc => ?_
  have hl : acc.toList.length = n := by rw [Array.length_toList]; exact hacc.1
  have hP : ∀ (j : Nat) (v : Value), acc.toList[j]? = some v → P j v := fun j v e => hacc.2 j v (by rw [← Array.getElem?_toList]; exact e)
  obtain ⟨ns, hI⟩ := hint acc.toList hl hP
  refine wpAny_bind (wpAny_newList ?_ (by rw [hl, sizeLine_eq]; omega))
  have hoL : (h1.push { cls := .type "list", data := .seq acc.toList.toArray }).get? h1.objs.size = some (seqObj "list" acc.toList.toArray 0) := Heap.get?_push_size _ rfl
  have hsz : s.heap.get? h1.objs.size = none := by
    cases q : s.heap.get? h1.objs.size with
    | none => rfl
    | some o => exact absurd (Heap.lt_size (hk _ _ q)) (Nat.lt_irrefl _)
  refine wpAny_bind (wpAny_holding (wpAny_call_entry slot_list_sort ⟨_, hoL, rfl⟩ entry_list_sort (list_sort_tree hoL hI (by rw [hl]; exact hn) fun out ns' i p st => ⟨_, rfl, ?_⟩) (args_list_sort _)))
  obtain ⟨⟨e, g1⟩, g2⟩ := sortedHeap_at (out := out) hoL
  refine wpAny_pure ⟨_, rfl, h _ _ _ e acc.toList ns ns' out (fun b o q => g2 b o ?_ (Heap.get?_push_of_some _ (hk b o q))) hsz g1 hl hP hI i p st⟩
  exact Nat.ne_of_lt (Heap.lt_size (hk b o q))
end

theorem intsAre_vals : ∀ {vs : List Value} {ns : List Int}, IntsAre vs ns → Vals (ns.map V.int) vs
  | _, _, .nil => .nil
  | _, _, .cons n t r => .cons ⟨t, rfl⟩ (intsAre_vals r)
theorem vals_ints_inj {vs : List Value} {ns ms : List Int} (a : Vals (ns.map V.int) vs) (b : IntsAre vs ms) : ns = ms := by
  have := a.inj (intsAre_vals b)
  exact (List.map_inj_right (fun x y e => by injection e)).mp this
section
variable {X : Cx}
/-- sorted(d), keys that are ints -/
theorem call_sorted_dict (hc : X.calm = true) : CallR X (.builtin "sorted") (fun xs H Q => ∃ d kvs ns, xs = [.ref d] ∧ H d = some (.dK kvs) ∧ kvs.map (·.1) = ns.map Sum.inl ∧ ns.length < 64 ∧
    ∀ (l : Addr) (ns' : List Int), H l = none → ns'.Perm ns → ns'.Pairwise (· ≤ ·) → Q (.ref l) (upd H l (.lst (ns'.map V.int)))) := by
  intro pins s σ H xs us Q I r h
  obtain ⟨d, kvs, ns, rfl, hd, hks, hlt, q⟩ := h
  obtain ⟨u, rfl, ru⟩ := vals1 r
  cases ru
  obtain ⟨hz, hS, vs, rk, m⟩ : kvs.length ≤ sizeLine ∧ (d == sysModules) = false ∧ ∃ vs, KV kvs vs ∧ s.heap.DictOf (mixKind X.prog X.w) d vs := I.hok d _ hd
  obtain ⟨ep, hat⟩ := m.dictAt
  have hlen : kvs.length = vs.length := Paired.length rk
  have hl2 : kvs.length = ns.length := by have := congrArg List.length hks; simpa using this
  have hkeys : ∀ acc : List Value, acc.length = vs.length → (∀ (j : Nat) (v : Value), acc[j]? = some v → ∃ k x, vs[j]? = some (k, x) ∧ (mixKind X.prog X.w).is k v = true) → Vals (ns.map V.int) acc := fun acc h1 h2 => by
    have := keys_vals (P := X.prog) (w := X.w) rk h1 h2
    have e : (kvs.map fun p => kV p.1) = ns.map V.int := by
      have : (kvs.map fun p => kV p.1) = (kvs.map (·.1)).map kV := by rw [List.map_map]; rfl
      rw [this, hks, List.map_map]; rfl
    rw [e] at this
    exact this
  refine sorted_src (PySem.W.kdl_dict (knd := mixKind X.prog X.w) (kvs := vs) (ep := ep) hS) (I.ok.hd hc) hat (by omega) (fun acc h1 h2 => ?_) fun D h' tk e acc ms ns' out hk hD ho h1 h2 hI hO hp hs => ?_
  · exact ⟨ns, intsAre_of (hkeys acc h1 h2)⟩
  · have em : ns = ms := vals_ints_inj (hkeys acc h1 h2) hI
    subst em
    have hz' : (ns'.map V.int).length ≤ sizeLine := by rw [List.length_map, hp.length_eq, sizeLine_eq]; omega
    obtain ⟨hn, I'⟩ := I.laidN (t' := tk) (o := .lst (ns'.map V.int)) hk hD ⟨hz', out.toList, e, intsAre_vals hO, by rw [Array.toArray_toList]; exact ho⟩
    exact ⟨.ref D, _, I', rfl, q D ns' hn hp hs⟩
end
end L2

set_option Elab.async false
set_option linter.all false
set_option maxRecDepth 100000
namespace L2
open PySem PySem.Spec PyProof.Rows
abbrev bmVE : List Value := [.type "ValueError", .type "Exception", .type "BaseException", .type "object"]
def XCls (K : PySem.W.Frag) (C : Addr) : Prop := PySem.W.excIn K C bmVE "ValueError.__new__" = true
theorem XCls.obj {K : PySem.W.Frag} {h : Heap} {C : Addr} (X : K.In h) (q : XCls K C) : ∃ bm N nm qn bs hdct sn sub ab col dd k0 k1 k2 k3 k5 mN,
    h.get? C = some (excClassObj nm qn C N bs bm hdct sn sub ab col dd k0 k1 k2 k3 k5 "ValueError.__new__") ∧ h.Ns N mN ∧ mN "__init__" = none ∧ OwnTail h bmVE bm := by
  have q : PySem.W.excIn K C bmVE "ValueError.__new__" = true := q
  unfold PySem.W.excIn at q
  split at q
  · rename_i dct cdt sls found
    split at q
    · rename_i own tailv s0 s1 s2 s3 ident s5 hmro hslots
      simp only [Bool.and_eq_true, beq_iff_eq, Bool.not_eq_true'] at q
      obtain ⟨⟨⟨⟨⟨e1, e2⟩, e3⟩, e4⟩, e5⟩, e6⟩ := q
      subst e1
      subst e2
      obtain ⟨c1, c2, c3, c4, c5, c6, c7, c8, c9, c10, c11⟩ := cdt
      dsimp only at hmro e3 e5 e6
      subst hmro
      subst e3
      have sl6 : sls = #[s0, s1, s2, s3, some (.builtin "ValueError.__new__"), s5] := by
        cases sls with
        | mk l => simp only at hslots; rw [hslots]
      subst sl6
      exact ⟨tailv, c4, c1, c5, c2, c6, c7, c8, c9, c10, dct, s0, s1, s2, s3, s5, _, X _ _ found, .of_isNs (PySem.W.isNs_of_in X e5), PySem.W.nsMap_none_of_in X e5 e6, PySem.W.tail_of_in X e4⟩
    · cases q
  · cases q
theorem HOk.obj {P : Program} {w : World} {H : Hp} {h : Heap} {a : Addr} {u : HO} (x : HOk P w H h) (q : H a = some u) : ∃ ob, h.get? a = some ob := by
  have x := x a u q
  cases u with
  | lst xs => obtain ⟨_, _, _, _, e⟩ := x; exact ⟨_, e⟩
  | tup xs => obtain ⟨_, _, _, p⟩ := x; obtain ⟨_, e, _⟩ := p; exact ⟨_, e⟩
  | dK kvs => obtain ⟨_, _, _, _, o, _, _, e, _⟩ := x; exact ⟨_, e⟩
  | dT kvs => obtain ⟨_, _, _, _, o, _, _, e, _⟩ := x; exact ⟨_, e⟩
  | set S n => obtain ⟨o, _, _, _, e, _⟩ := x; exact ⟨_, e⟩
  | ins C dx fs => obtain ⟨_, _, _, e, _⟩ := x; exact ⟨_, e⟩
  | own y => exact x
  | xd fs => obtain ⟨_, ⟨_, _, _, e, _⟩, _⟩ := x; exact ⟨_, e⟩
  | rng lo hi => obtain ⟨_, _, _, e⟩ := x; exact ⟨_, e⟩
  | frz ob u => obtain ⟨e, _⟩ := x; exact ⟨_, e⟩
  | tbl ps => exact ⟨_, (show h.get? a = some _ from x)⟩
  | met f y => exact ⟨_, (show h.get? a = some _ from x)⟩
  | ext φ => obtain ⟨_, e, _⟩ := x; exact e
theorem Un.slide {fs : List Addr} {H H' : Hp} {h0 h1 h2 : Heap} (u : Un fs [] H H' h0 h1) (k : ∀ b o, (∃ o', h0.get? b = some o') → h1.get? b = some o → b ∉ fs → h2.get? b = some o)
    (sl : ∀ b o, h1.get? b = some o → b ∈ fs → ∃ s, h2.get? b = some { o with slots := s }) : Un fs [] H H' h0 h2 where
  keep := fun b o q n hb hx => k b o ⟨o, q⟩ (u.keep b o q n hb hx) hb
  slot := fun b o q n hb hx => by
    obtain ⟨s1, e1⟩ := u.slot b o q n hb hx
    obtain ⟨s2, e2⟩ := sl b _ e1 hb
    exact ⟨s2, e2⟩
  free := u.free
  there := fun b o q hx => by
    obtain ⟨o1, e1⟩ := u.there b o q hx
    by_cases hb : b ∈ fs
    · obtain ⟨s2, e2⟩ := sl b _ e1 hb
      exact ⟨_, e2⟩
    · exact ⟨o1, k b o1 ⟨o, q⟩ e1 hb⟩
  tups := u.tups
  frzs := u.frzs
  tbls := u.tbls
/-- how an exception lies behind a call: it flies over B, which holds all that is tracked and all that was there, but the frames -/
def CX1 (P : Program) (w : World) : CXT := fun outer H s E e s' => ∃ (ea t C : Addr) (B : Heap) (H' : Hp), e = .ref ea ∧ s'.os = s.os ∧ AllBare s'.gens ∧ Un (frs outer) [] H H' s.heap s'.heap ∧ HOk P w H' s'.heap ∧
  Heap.FlyingW B outer ea (.ref C) (.ref t) s'.heap ∧ (∀ b o, s'.heap.get? b = some o → b ∉ frs outer → ((∃ u, H' b = some u) ∨ ∃ o', s.heap.get? b = some o') → B.get? b = some o) ∧ E (.ref C) none H'
theorem pass1 {X : Cx} {P : Program} {w : World} : Passes (CX1 P w) X E0 := fun _ _ _ _ _ _ _ h => by
  obtain ⟨_, _, _, _, _, _, _, _, _, _, _, _, z⟩ := h
  exact z.elim
section
variable {X : Cx} {pins : List (Addr × Obj)} {σ : St} {H H' : Hp} {s s' : Shared}
theorem Inv.frameData (I : Inv X pins σ H s) {b : Addr} (hb : b ∈ frs X.stack) : ∃ o, s.heap.get? b = some o ∧ ∀ vs, o.data ≠ .fields vs := (I.stack.mem hb).2
/-- the heap moves on under a flying exception: all but the frames is kept -/
theorem Inv.flown (I : Inv X pins σ H s) {B h' : Heap} (un : Un (frs X.stack) [] H H' s.heap s'.heap) (hok : HOk X.prog X.w H' s'.heap) (ho : s'.os = s.os) (hg : AllBare s'.gens)
    (hB : ∀ b o, s'.heap.get? b = some o → b ∉ frs X.stack → ((∃ u, H' b = some u) ∨ ∃ o', s.heap.get? b = some o') → B.get? b = some o) (st : B.StaysIn h') (up : s'.heap.UpToSlots h') :
    Inv X pins σ H' { s' with heap := h' } ∧ HOk X.prog X.w H' h' ∧ Un (frs X.stack) [] H H' s.heap h' := by
  have I' : Inv X pins σ H' s' := I.call' ho un hok hg (ch := []) (fun b z => absurd z (by simp))
  have hok' : HOk X.prog X.w H' h' := fun a u e => by
    have nf : ∀ c v, H' c = some v → c ∉ frs X.stack := fun c v q z => by rw [I'.stkFree c z] at q; cases q
    have kk : ∀ c o, (∃ v, H' c = some v) → s'.heap.get? c = some o → h'.get? c = some o := fun c o ⟨v, q⟩ g => st c o (hB c o g (nf c v q) (.inl ⟨v, q⟩))
    refine (hok a u e).stay (fun c v hc g => kk c v ?_ g) (fun _ q => q) fun _ _ q => q
    rcases hc with rfl | hc
    · exact ⟨_, e⟩
    · exact ⟨_, hc⟩
  have un' : Un (frs X.stack) [] H H' s.heap h' := un.slide (fun b o z g hb => st b o (hB b o g hb (.inr z))) fun b o g hb => by
    obtain ⟨o1, e1, d1⟩ := I'.frameData hb
    rw [e1] at g
    cases g
    exact up b o e1 d1
  exact ⟨I.call' (s' := { s' with heap := h' }) ho un' hok' hg (ch := []) (fun b z => absurd z (by simp)), hok', un'⟩
end
/-- what is wanted of an exception that is raised in the body itself -/
def Flies (X : Cx) (E : XK) : Prop := ∀ (pins : List (Addr × Obj)) (σ : St) (H : Hp) (s : Shared) (e C : Addr) (h' : Heap) (vs : List Value), Inv X pins σ H s → Heap.MadeExcOf s.heap h' e (.ref C) vs → E (.ref C) none H → X.xe (.ref e) { s with heap := h' }
section
variable {P : Program} {w : World} {K : PySem.W.Frag} {mg : Str → Option Value} {base : Heap} {N : List Str} {qual : Str} {scope : Scope} {f : Addr} {cd : Value} {A : Around} {outer : List Env} {s₀ : Shared} {H₀ : Hp} {E : XK}
/-- an exception leaves a def: it lies behind the call -/
theorem fly_out {pins : List (Addr × Obj)} {σ : St} {H : Hp} {s : Shared} {ea t C : Addr} {B h' : Heap} (I : Inv (cxOf (CX1 P w) P w K mg base N qual scope f cd A outer s₀ H₀ E) pins σ H s)
    (hB : ∀ b o, s.heap.get? b = some o → b ∉ frs (envOfC qual scope s₀.heap.objs.size f cd :: outer) → ((∃ u, H b = some u) ∨ ∃ o', s₀.heap.get? b = some o') → B.get? b = some o)
    (fl : Heap.FlyingW B outer ea (.ref C) (.ref t) h') (up : s.heap.UpToSlots h') {s1 : Shared} (ho : s1.os = s.os) (hg : s1.gens = s.gens) (hE : E (.ref C) none H) :
    CX1 P w outer H₀ s₀ E (.ref ea) { s1 with heap := h' } := by
  have nL : ∀ b o, s₀.heap.get? b = some o → b ∉ frs outer → b ∉ frs (envOfC qual scope s₀.heap.objs.size f cd :: outer) := fun b o e hb z => by
    rcases List.mem_cons.mp (I.stkSub b z) with q | q
    · exact absurd (Heap.lt_size e) (by rw [q]; exact Nat.lt_irrefl _)
    · exact hb q
  have hst : B.StaysIn h' := fl.1
  have nf : ∀ c v, H c = some v → c ∉ frs (envOfC qual scope s₀.heap.objs.size f cd :: outer) := fun c v q z => by
    have := I.stkFree c z
    rw [this] at q; cases q
  have kk : ∀ c o, (∃ v, H c = some v) → s.heap.get? c = some o → h'.get? c = some o := fun c o ⟨v, q⟩ g => hst c o (hB c o g (nf c v q) (.inl ⟨v, q⟩))
  have ub : Un (frs outer) [] H₀ H s₀.heap s.heap := I.base
  refine ⟨ea, t, C, B, H, rfl, ho.trans I.os, by show AllBare s1.gens; rw [hg]; exact I.bare, ub.slide (fun b o ⟨o', z⟩ g hb => hst b o (hB b o g (nL b o' z hb) (.inr ⟨o', z⟩))) (fun b o g hb => ?_), fun a u e => ?_, fl, fun b o g hb z => ?_, hE⟩
  · have hb' : b ∈ frs (envOfC qual scope s₀.heap.objs.size f cd :: outer) := by
      unfold frs
      rw [List.filterMap_cons]
      exact List.mem_cons_of_mem _ hb
    obtain ⟨o1, e1, d1⟩ := I.frameData hb'
    rw [e1] at g
    cases g
    exact up b o e1 d1
  · refine (I.hok a u e).stay (fun c v hc g => kk c v ?_ g) (fun _ q => q) fun _ _ q => q
    rcases hc with rfl | hc
    · exact ⟨_, e⟩
    · exact ⟨_, hc⟩
  · rcases z with ⟨v, q⟩ | ⟨o', q⟩
    · obtain ⟨o1, e1⟩ := HOk.obj I.hok q
      have b1 := hB b o1 e1 (nf b v q) (.inl ⟨v, q⟩)
      have := hst b o1 b1
      rw [show h'.get? b = some o from g] at this
      cases this
      exact b1
    · obtain ⟨o1, e1⟩ := ub.there b o' q (by simp)
      have b1 := hB b o1 e1 (nL b o' q hb) (.inr ⟨o', q⟩)
      have := hst b o1 b1
      rw [show h'.get? b = some o from g] at this
      cases this
      exact b1
theorem flies_cx : Flies (cxOf (CX1 P w) P w K mg base N qual scope f cd A outer s₀ H₀ E) E := by
  intro pins σ H s e C h' vs I hx hE
  have hin : ∀ env ∈ (envOfC qual scope s₀.heap.objs.size f cd :: outer), ∀ b, env.frame = some b → b ∈ frs (envOfC qual scope s₀.heap.objs.size f cd :: outer) := fun env he b hb => List.mem_filterMap.mpr ⟨env, he, hb⟩
  show wpAny (model P w) (A.deeper (envOfC qual scope s₀.heap.objs.size f cd)) (leaving (envOfC qual scope s₀.heap.objs.size f cd) (.ref e)) (fun _ s'' => CX1 P w outer H₀ s₀ E (.ref e) s'') (fun e' s'' => CX1 P w outer H₀ s₀ E e' s'') { s with heap := h' }
  refine wpAny_leaves_madeW (base := PySem.W.hideAll s.heap (frs (envOfC qual scope s₀.heap.objs.size f cd :: outer))) I.ok.frames rfl (fun b o q => PySem.W.of_hideAll _ q) (PySem.W.funFrames_hide I.stack hin) hx fun h2 t x1 x2 x3 x4 => ?_
  exact fly_out I (fun b o g hb _ => PySem.W.hideAll_get _ g hb) x1 (fun b o g d => x4 b o (hx.keeps b o g) d) rfl rfl hE
theorem passes_cx : Passes (CX1 P w) (cxOf (CX1 P w) P w K mg base N qual scope f cd A outer s₀ H₀ E) E := by
  intro pins σ H s e s' I hq
  obtain ⟨ea, t, C, B, H', rfl, os, bare, un, hok, fl, hB, hE⟩ := hq
  show wpAny (model P w) (A.deeper (envOfC qual scope s₀.heap.objs.size f cd)) (leaving (envOfC qual scope s₀.heap.objs.size f cd) (.ref ea)) (fun _ s'' => CX1 P w outer H₀ s₀ E (.ref ea) s'') (fun e' s'' => CX1 P w outer H₀ s₀ E e' s'') s'
  have I' : Inv (cxOf (CX1 P w) P w K mg base N qual scope f cd A outer s₀ H₀ E) pins σ H' s' := I.call' os un hok bare (ch := []) (fun b z => absurd z (by simp))
  refine wpAny_leaves_onW I.ok.frames rfl fl fun h2 x1 x2 => ?_
  refine fly_out I' (fun b o g hb z => hB b o g hb ?_) x1 x2 rfl rfl hE
  rcases z with z | ⟨o', z⟩
  · exact .inl z
  · exact .inr ((show Un (frs outer) [] H₀ H s₀.heap s.heap from I.base).there b o' z (by simp))
end
section
variable {X : Cx}
/-- raise C(e, ..) -/
def tRaise (C : Addr) (E : XK) (t : TA) : TS := fun _ σ H => t σ H fun vs H1 => vs.length ≤ sizeLine ∧ E (.ref C) none H1
theorem ps_raise {x : Str} {np cpos pos : Pos} {e0 : Expr} {rest : List Expr} {C : Addr} {t : TA} {E : XK} (hc : X.calm = true) (q : XCls X.K C) (hg : Gl X x) (hm : X.mg x = some (.ref C)) (hf : Flies X E) (ha : PA X (e0 :: rest) t)
    (hdb : (x == ("__debug__" : Str)) = false := by decide) (he : starEach (e0 :: rest) X.env = (false, eval e0 X.env) :: starEach rest X.env := by rfl) (hpl : (backTo cpos (starEach rest X.env)).any (·.1) = false := by rfl) :
    PS X (.Raise (some (.Call (.Name x np) (e0 :: rest) [] cpos)) none pos) (tRaise C E t) := by
  intro pins s σ H D I h
  obtain ⟨bm, Nn, nm, qn, bs, hdct, sn, sub, ab, col, dd, k0, k1, k2, k3, k5, mN, hC, hN, hni, T⟩ := XCls.obj I.ok.mod.kin q
  refine wpAny_Raise_call_subU (C := C) (nm := nm) (q := qn) (N := Nn) (bs := bs) (bm := bm) (hdct := hdct) (sn := sn) (sub := sub) (ab := ab) (col := col) (dd := dd) (k0 := k0) (k1 := k1) (k2 := k2) (k3 := k3) (k5 := k5)
    PySem.F.excBase_ValueError (by decide) PySem.F.excBase_ValueError (mN := mN) (T.hasType PySem.F.excBase_ValueError.hasBase) (I.ok.hd hc) ?_ hni (ld_glob I hg hm ⟨rfl, ?_⟩ hdb)
  · rw [he]
    show (false || (backTo cpos (starEach rest X.env)).any (·.1)) = false
    rw [hpl]; rfl
  · have h1 := ha cpos pins s σ H _ I h
    rw [he] at h1 ⊢
    exact Calls.evalArgs_plain (thn h1 fun us s1 ⟨vs, H1, I1, r, z, hE⟩ => ⟨rfl, by rw [← r.length]; exact z, I1.bk _ _ hC, hN.keeps I1.bk, T.keeps I1.bk, fun h' e hx => hf pins σ H1 s1 e C h' us I1 hx hE⟩)
end

abbrev Cx.tr (X : Cx) (pn : List (Addr × Obj)) (W : Value → Shared → Prop) : Cx := { X with pn := pn, xe := W }
abbrev Cx.hdl (X : Cx) (e : Value) : Cx := { X with A := X.A.mark (some e), calm := false, xe := fun _ _ => False }
def PassesE (P : Program) (w : World) (X : Cx) (E : St → XK) : Prop := ∀ (pins : List (Addr × Obj)) (σ : St) (H : Hp) (s : Shared) (e : Value) (s' : Shared), Inv X pins σ H s → CX1 P w X.stack H s (E σ) e s' → X.xe e s'
def EX (C : Addr) (R : St → Hp → Prop) : St → XK := fun σ cls _ H' => cls = .ref C ∧ R σ H'
section
variable {X : Cx} {pins : List (Addr × Obj)} {σ : St} {H : Hp} {s : Shared}
theorem Inv.tr (I : Inv X pins σ H s) (W : Value → Shared → Prop) : Inv (X.tr (X.pn ++ pins) W) [] σ H s :=
  ⟨⟨I.ok.mod, I.ok.kind, I.ok.glob, I.ok.blt, I.ok.above, I.ok.inj, I.ok.has, I.ok.cab, I.ok.hd, I.ok.frames, I.ok.stk, I.ok.exf, I.ok.bs, I.ok.bsz, I.ok.noex, I.ok.exfs, I.ok.funs, I.ok.frf⟩,
    I.os, I.bare, I.base, I.loc, I.cell, I.free, I.freeC, fun p hp => I.pin p (by simpa using hp), I.hok, I.len⟩
theorem Inv.untr {W : Value → Shared → Prop} {pins' : List (Addr × Obj)} (I : Inv (X.tr (X.pn ++ pins) W) pins' σ H s) : Inv X pins σ H s :=
  ⟨⟨I.ok.mod, I.ok.kind, I.ok.glob, I.ok.blt, I.ok.above, I.ok.inj, I.ok.has, I.ok.cab, I.ok.hd, I.ok.frames, I.ok.stk, I.ok.exf, I.ok.bs, I.ok.bsz, I.ok.noex, I.ok.exfs, I.ok.funs, I.ok.frf⟩,
    I.os, I.bare, I.base, I.loc, I.cell, I.free, I.freeC, fun p hp => I.pin p (List.mem_append_left _ hp), I.hok, I.len⟩
theorem Inv.hdl (I : Inv X pins σ H s) (e : Value) : Inv (X.hdl e) pins σ H s :=
  ⟨⟨I.ok.mod, I.ok.kind, I.ok.glob, I.ok.blt, I.ok.above, I.ok.inj, I.ok.has, I.ok.cab, (fun z => by cases z), I.ok.frames, I.ok.stk, I.ok.exf, I.ok.bs, I.ok.bsz, I.ok.noex, I.ok.exfs, I.ok.funs, I.ok.frf⟩,
    I.os, I.bare, I.base, I.loc, I.cell, I.free, I.freeC, I.pin, I.hok, I.len⟩
theorem Inv.unhdl {e : Value} (hd : X.calm = true → X.A.handled = none) (I : Inv (X.hdl e) pins σ H s) : Inv X pins σ H s :=
  ⟨⟨I.ok.mod, I.ok.kind, I.ok.glob, I.ok.blt, I.ok.above, I.ok.inj, I.ok.has, I.ok.cab, hd, I.ok.frames, I.ok.stk, I.ok.exf, I.ok.bs, I.ok.bsz, I.ok.noex, I.ok.exfs, I.ok.funs, I.ok.frf⟩,
    I.os, I.bare, I.base, I.loc, I.cell, I.free, I.freeC, I.pin, I.hok, I.len⟩
end
section
variable {X : Cx} {k : Nat} {f C : Addr} {fd : FuncData} {ps : List Str} {sp : Sp} {dvs : List V} {ds : List Value} {E : St → XK} {x m : Str} {p pos apos : Pos} {e o : Expr} {es : List Expr} {ta : TE} {t : TA}
def tMethE (C : Addr) (m : Str) (sp : Sp) (dvs : List V) (E : St → XK) (ta : TE) (t : TA) : TE := fun σ H Q => ta σ H fun x H1 => ∃ a dx fs, x = .ref a ∧ H1 a = some (.ins C dx fs) ∧ fs.lookup m = none ∧
  t σ H1 fun vs H2 => sp (x :: (vs ++ dvs)) H2 Q (E σ)
theorem run_fnE {pins : List (Addr × Obj)} {σ : St} {H : Hp} {s : Shared} {Q : VK} {us : List Value} {vs : List V} (F : FnOk X.prog X.w X.K X.mg X.base (CX1 X.prog X.w) k f fd ps sp) (hr : Room k X.A) (hb : Binds X.K fd ps ds) (hd : Vals dvs ds) (hx : PassesE X.prog X.w X E)
    (I : Inv X pins σ H s) (r : Vals vs us) (h : sp (vs ++ dvs) H Q (E σ)) : wpAny (model X.prog X.w) X.A (call (.ref f) us) (EP X pins σ Q) X.xe s := by
  have r2 : Vals (vs ++ dvs) (us ++ ds) := r.append hd
  have hl : (us ++ ds).length = ps.length := by rw [← r2.length]; exact F.len _ _ _ _ h
  refine wpAny_call (codeAny_mono (F.run X.A X.stack s H ⟨us, []⟩ (us ++ ds) (vs ++ dvs) Q (E σ) hr I.env0 (hb s us I.kIn hl) r2 h) fun r s' hq => ?_)
  cases r with
  | error e => exact hx pins σ H s e s' I hq
  | ok fl =>
    cases fl with
    | ret u => exact I.after hq
    | next => exact False.elim hq
    | brk => exact False.elim hq
    | cont => exact False.elim hq
theorem pe_methE {pl : Sem Bool} (he : PE X o ta) (c : Cls X.K C) (hm : Meth X.K C m f) (F : FnOk X.prog X.w X.K X.mg X.base (CX1 X.prog X.w) k f fd ps sp) (hr : Room k X.A) (hb : Binds X.K fd ps ds) (hd : Vals dvs ds) (hx : PassesE X.prog X.w X E) (ha : PA X (e :: es) t)
    (hst : starEach (e :: es) X.env = (false, eval e X.env) :: starEach es X.env := by rfl) (hpl : (backTo pos (starEach es X.env)).any (·.1) = false := by rfl)
    (ht : eval (.Call (.Attribute o m apos) (e :: es) [] pos) X.env = (do
      let ov ← eval o X.env
      standAt apos.atName
      let (f, first) ← holding [ov] (getMethod ov m pl)
      callWith pos f first (backTo pos (starEach (e :: es) X.env)) (backToKw pos (keywordEach [] X.env))) := by rfl) :
    PE X (.Call (.Attribute o m apos) (e :: es) [] pos) (tMethE C m sp dvs E ta t) := by
  intro pins s σ H Q I h
  refine PySem.W.methodCall_KW (pl := pl) (thn (he pins s σ H _ I h) fun u s1 ⟨x, H1, I1, rx, a, dx, fs, ex, ea, l, q⟩ => ?_) ht
  subst ex
  obtain rfl : u = Value.ref a := rx
  refine getmeth_ok I1 ea c hm l ?_
  refine PySem.W.callWith_K (first := [.ref a]) (h₀ := X.base) I.ok.mod.kin hm.kp (thn (ha pos pins s1 σ H1 _ I1 q) fun us s2 ⟨vs, H2, I2, r, q2⟩ => ⟨I2.kIn, ?_⟩) hst hpl
  exact run_fnE (us := .ref a :: us) (vs := .ref a :: vs) F hr hb hd hx I2 (.cons rfl r) q2
end
section
variable {X : Cx}
end
section
variable {P : Program} {w : World} {K : PySem.W.Frag} {mg : Str → Option Value} {base : Heap}
/-- a def that lets an exception out -/
theorem Fun.okX {x qual : Str} {st : Stmt} {f : Addr} {fd : FuncData} {N ps : List Str} {k : Nat} {sp : Sp} (F : Fun K x qual st f fd) (S : FnScope N ps (defScope st)) (len : ∀ vs H Q E, sp vs H Q E → vs.length = ps.length)
    (hbody : ∀ (cdv : Value) (A : Around) (outer : List Env) (s : Shared) (H : Hp) (vs : List V) (Q : VK) (E : XK), Room k (A.deeper (envOfC qual (defScope st) s.heap.objs.size f cdv)) → sp vs H Q E →
      ∃ t, PSs (cxOf (CX1 P w) P w K mg base N qual (defScope st) f cdv A outer s H E) (defBody st) t ∧ t { nx := fun _ H' => Q .non H', rt := Q } (start N vs) H) : FnOk P w K mg base (CX1 P w) (k + 1) f fd ps sp := by
  obtain ⟨oc, od, kV, doc, pm, an, cdv, ct, osl, rfl, lk, hcd⟩ := F.ex
  exact fn_of lk hcd S len fun A outer s H vs Q E hr hsp => hbody cdv A outer s H vs Q E hr hsp
/-- a def that lets none out -/
theorem Fun.okC {CX : CXT} {x qual : Str} {st : Stmt} {f : Addr} {fd : FuncData} {N ps : List Str} {k : Nat} {sp : Sp} (F : Fun K x qual st f fd) (S : FnScope N ps (defScope st)) (len : ∀ vs H Q E, sp vs H Q E → vs.length = ps.length)
    (hbody : ∀ (cdv : Value) (A : Around) (outer : List Env) (s : Shared) (H : Hp) (vs : List V) (Q : VK) (E : XK), Room k (A.deeper (envOfC qual (defScope st) s.heap.objs.size f cdv)) → sp vs H Q E →
      ∃ t, PSs (cxOf CX P w K mg base N qual (defScope st) f cdv A outer s H E).nox (defBody st) t ∧ t { nx := fun _ H' => Q .non H', rt := Q } (start N vs) H) : FnOk P w K mg base CX (k + 1) f fd ps sp := by
  obtain ⟨oc, od, kV, doc, pm, an, cdv, ct, osl, rfl, lk, hcd⟩ := F.ex
  refine fn_of lk hcd S len fun A outer s H vs Q E hr hsp => ?_
  obtain ⟨t, h, q⟩ := hbody cdv A outer s H vs Q E hr hsp
  exact ⟨t, h.nox, q⟩
end
end L2

set_option Elab.async false
set_option linter.all false
set_option maxRecDepth 100000
namespace L2
open PySem PySem.Spec PyProof.Rows
section
variable {X : Cx}
/-- f'text{int}' -/
def tFstr (te : TE) : TE := fun σ H Q => te σ H fun x H1 => ∃ i, x = .int i ∧ i.natAbs.log2 < 1920 ∧ ∀ z, Q (.str z) H1
theorem pe_fstr {a : Str} {j : Nat} {p1 p2 pos : Pos} {e : Expr} {te : TE} (ha : a.length ≤ 1000) (he : PE X e te) : PE X (.JoinedStr [.Constant (.str a) j p1, .FormattedValue e (-1) none p2] pos) (tFstr te) := by
  intro pins s σ H Q I h
  refine JoinedStr_many (joinParts_cons (Calls.Constant_str ⟨?_, joinParts_cons (FormattedValue_plain ?_)⟩))
  · rw [strLen_append, sizeLine_eq]
    show Str.empty.length + a.length ≤ _
    have : Str.empty.length = 0 := rfl
    omega
  · refine thn (he pins _ σ H _ (I.tok _) h) fun v s1 ⟨x, H1, I1, r1, i, e1, hl, q⟩ => ?_
    subst e1
    obtain ⟨t, rfl⟩ := r1
    refine formatField_int_small hl ?_
    have h2 := int_text_len_1921 hl
    have h0 : Str.empty.length = 0 := rfl
    refine ⟨?_, joinParts_nil ⟨.str _, H1, (I1.tok _).tok _, ⟨_, rfl⟩, q _⟩ ?_⟩
    · rw [strLen_append, strLen_append, sizeLine_eq]
      show _ + (Str.ofString (toString i)).length ≤ _
      omega
    · rw [strLen_append, strLen_append, sizeLine_eq]
      show _ + (Str.ofString (toString i)).length ≤ _
      omega
end

theorem Inv.turnedL {X : Cx} {pins : List (Addr × Obj)} {σ : St} {H : Hp} {s : Shared} {h' : Heap} {t' : Nat} {ch : List Addr} (I : Inv X pins σ H s) (k : ∀ b o, b ∉ ch → s.heap.get? b = some o → h'.get? b = some o) (hf : ∀ b ∈ ch, FpOk X pins H b) :
    Inv X pins σ H { s with heap := h', toks := t' } := by
  have nit : ∀ b u, H b = some u → b ∉ ch := fun b u e z => by rw [(hf b z).1] at e; cases e
  have hL : X.env.locals ∉ ch := fun z => (hf _ z).2.1 rfl
  refine I.step (g' := s.gens) (d' := s.drawn) (ch := ch) (fun b hb => ⟨(hf b hb).2.2.2.1, (hf b hb).2.1, (hf b hb).2.2.2.2.1, (hf b hb).2.2.2.2.2⟩) (fun b o _ _ hc e _ => k b o hc e) (fun b o _ _ hc e _ => ⟨o.slots, k b o hc e⟩) (fun _ _ _ _ n => n)
    (fun b o hc e => ⟨o, k b o hc e⟩) (fun _ _ e => e) (fun _ _ _ e => e) (fun b ps e => ⟨#[], by rw [e]; simp⟩) (fun m hm => ?_) (fun b u e => ?_) I.bare
  · obtain ⟨o, es, ep, ho, r⟩ := hm
    exact ⟨o, es, ep, k _ o hL ho, r⟩
  · refine (I.hok b u e).stay (fun c v hc q => k c v ?_ q) (fun _ q => q) fun _ _ q => q
    rcases hc with z | z
    · rw [z]; exact nit b u e
    · exact nit c _ z
def Itz (K : PySem.W.Frag) (l1 l2 : Addr) : It :=
  ⟨fun i H => ∃ xs ys x y, SqL K H l1 xs ∧ SqL K H l2 ys ∧ xs[i]? = some x ∧ ys[i]? = some y,
   fun i H v H' => ∃ p x y, v = .ref p ∧ H p = none ∧ H' = upd H p (.tup [x, y]) ∧ (∀ xs, SqL K H l1 xs → xs[i]? = some x) ∧ ∀ ys, SqL K H l2 ys → ys[i]? = some y,
   fun i H => ∃ xs ys, SqL K H l1 xs ∧ SqL K H l2 ys ∧ (xs.length ≤ i ∨ ys.length ≤ i)⟩
structure ZipSt (z TI TO i1 i2 l1 l2 : Addr) (i : Nat) (h : Heap) : Prop where
  z : IsZip h z TI TO .none
  ti : IsPair h TI (.ref i1) (.ref i2)
  to : ∃ a b, IsPair h TO a b
  h1 : h.IsListIter i1 l1 i
  h2 : h.IsListIter i2 l2 i
theorem turn_zip {P : Program} {w : World} {K : PySem.W.Frag} {es : List Expr} {tk : Nat} {tpos : Pos} (z TI TO i1 i2 l1 l2 : Addr) (D : ZipApart z TI TO i1 i2 l1 l2) : Turn P w K (.Tuple es tk tpos) (Itz K l1 l2) [z, TI, TO, i1, i2] z (ZipSt z TI TO i1 i2 l1 l2) where
  mem := by simp
  obj := fun i h st b hb => by
    simp only [List.mem_cons, List.not_mem_nil, or_false] at hb
    rcases hb with rfl | rfl | rfl | rfl | rfl
    · exact ⟨_, st.z, fun v e => by cases (show Data.fields _ = Data.cell v from e)⟩
    · exact ⟨_, st.ti, fun v e => by cases (show Data.seq _ _ = Data.cell v from e)⟩
    · obtain ⟨a, b, e⟩ := st.to
      exact ⟨_, e, fun v e => by cases (show Data.seq _ _ = Data.cell v from e)⟩
    · obtain ⟨o, e, _, d⟩ := st.h1
      exact ⟨o, e, fun v z => by rw [d] at z; cases z⟩
    · obtain ⟨o, e, _, d⟩ := st.h2
      exact ⟨o, e, fun v z => by rw [d] at z; cases z⟩
  keep := fun i h h' st k => by
    obtain ⟨a, b, e⟩ := st.to
    exact ⟨k z (by simp) _ st.z, k TI (by simp) _ st.ti, ⟨a, b, k TO (by simp) _ e⟩, st.h1.at fun o e => k i1 (by simp) o e, st.h2.at fun o e => k i2 (by simp) o e⟩
  item := by
    intro X hP hw hK hc i pins s σ H E I hf st hg
    subst hP hw hK
    obtain ⟨xs, ys, x, y, hq1, hq2, hx, hy⟩ := hg
    obtain ⟨us, r1, p1, z1⟩ := I.list hq1
    obtain ⟨vs, r2, p2, z2⟩ := I.list hq2
    obtain ⟨u, eu, ru⟩ := r1.get hx
    obtain ⟨v, ev, rv⟩ := r2.get hy
    obtain ⟨a, b, eTO⟩ := st.to
    refine wpAny_pyNext_zip_item D st.z st.ti eTO st.h1 st.h2 p1.isList p2.isList (x := u) (y := v) (by simpa using eu) (by simpa using ev) fun h' a1 a2 a3 a4 a5 a6 a7 => ?_
    refine ⟨_, rfl, wpAny_letOwnedTupleGo_zip a1 fun h2 b1 b2 => ?_⟩
    have hlt : ∀ c ∈ [z, TI, TO, i1, i2], c < s.heap.objs.size := fun c hc => by
      simp only [List.mem_cons, List.not_mem_nil, or_false] at hc
      rcases hc with rfl | rfl | rfl | rfl | rfl
      · exact Heap.lt_size st.z
      · exact Heap.lt_size st.ti
      · exact Heap.lt_size eTO
      · obtain ⟨o, e, _⟩ := st.h1; exact Heap.lt_size e
      · obtain ⟨o, e, _⟩ := st.h2; exact Heap.lt_size e
    have kk : ∀ b o, b ∉ [z, TI, TO, i1, i2] → s.heap.get? b = some o → h2.get? b = some o := fun b o hb e => by
      simp only [List.mem_cons, List.not_mem_nil, or_false, not_or] at hb
      obtain ⟨c1, c2, c3, c4, c5⟩ := hb
      exact b2.extBut b o c1 (a7 b o c1 c3 c4 c5 e)
    have np : s.heap.objs.size ≠ z := Nat.ne_of_gt (hlt z (by simp))
    have gp : IsPair h2 s.heap.objs.size u v := b2.extBut _ _ np a5
    have I1 : Inv X pins σ H { s with heap := h2 } := I.turnedL (t' := s.toks) kk hf
    have hn : H s.heap.objs.size = none := I.hok.fresh (Nat.le_refl _)
    have nit : ∀ b u, H b = some u → b ∉ [z, TI, TO, i1, i2] := fun b u e w => by rw [(hf b w).1] at e; cases e
    have hL : X.env.locals ∉ [z, TI, TO, i1, i2] := fun w => (hf _ w).2.1 rfl
    have I2 : Inv X pins σ (upd H s.heap.objs.size (.tup [x, y])) { s with heap := h2 } := by
      refine I.step (g' := s.gens) (d' := s.drawn) (t' := s.toks) (ch := [z, TI, TO, i1, i2]) (fun b hb => ⟨(hf b hb).2.2.2.1, (hf b hb).2.1, (hf b hb).2.2.2.2.1, (hf b hb).2.2.2.2.2⟩) (fun b o _ _ hc e _ => kk b o hc e) (fun b o _ _ hc e _ => ⟨o.slots, kk b o hc e⟩)
        (fun b o _ e n => by rw [upd_ne (Nat.ne_of_lt (Heap.lt_size e))]; exact n) (fun b o hc e => ⟨o, kk b o hc e⟩) (fun _ _ e => upd_old e hn) (fun _ _ _ e => upd_old e hn) (fun b ps e => ⟨#[], by rw [upd_old e hn]; simp⟩) (fun m hm => ?_) (fun b w e => ?_) I.bare
      · obtain ⟨o, es, ep, ho, r⟩ := hm
        exact ⟨o, es, ep, kk _ o hL ho, r⟩
      · by_cases hb : b = s.heap.objs.size
        · subst hb
          rw [upd_same] at e
          cases e
          exact ⟨by rw [sizeLine_eq]; show 2 ≤ 16777216; decide, [u, v], .cons ru (.cons rv .nil), ⟨_, gp, rfl, _, rfl⟩⟩
        · rw [upd_ne hb] at e
          refine (I.hok b w e).stay (fun c v hc q => kk c v ?_ q) (fun _ q => upd_old q hn) fun _ _ q => upd_old q hn
          rcases hc with t | t
          · rw [t]; exact nit b w e
          · exact nit c _ t
    refine ⟨.ref s.heap.objs.size, _, I2, rfl, ⟨_, x, y, rfl, hn, rfl, fun zs hz => by rw [I.list_inj hz hq1]; exact hx, fun zs hz => by rw [I.list_inj hz hq2]; exact hy⟩, ⟨b1, b2.extBut _ _ D.TIz (a7 _ _ D.TIz D.TITO D.TIi1 D.TIi2 st.ti), ⟨u, v, b2.extBut _ _ D.TOz a2⟩, a3.extBut b2.extBut D.i1z, a4.extBut b2.extBut D.i2z⟩, fun b hb => ?_⟩
    rw [upd_ne (Nat.ne_of_lt (hlt b hb))]
    exact (hf b hb).1
  done := by
    intro X hP hw hK hc i pins s σ H E I hf st hg
    subst hP hw hK
    obtain ⟨xs, ys, hq1, hq2, hor⟩ := hg
    obtain ⟨us, r1, p1, z1⟩ := I.list hq1
    obtain ⟨vs, r2, p2, z2⟩ := I.list hq2
    obtain ⟨a, b, eTO⟩ := st.to
    have l1' := r1.length
    have l2' := r2.length
    refine wpAny_pyNext_zip_end (I.ok.hd hc) D st.z st.ti eTO st.h1 st.h2 p1.isList p2.isList (by
      rcases hor with h | h
      · exact .inl (by simp; omega)
      · exact .inr (by simp; omega)) fun h' kk => ⟨rfl, I.turnedL (t' := s.toks) (ch := [z, TI, TO, i1, i2]) (fun b o hb e => ?_) hf⟩
    simp only [List.mem_cons, List.not_mem_nil, or_false, not_or] at hb
    exact kk b o hb.1 hb.2.2.1 hb.2.2.2.1 hb.2.2.2.2 e
  self := fun _ _ _ _ _ st h => wpAny_pyIter_zip st.z h

theorem zap (n a b : Nat) (h1 : a < n) (h2 : b < n) : ZipApart (n + 4) (n + 2) (n + 3) n (n + 1) a b :=
  ⟨by show @Ne Nat _ _; omega, by show @Ne Nat _ _; omega, by show @Ne Nat _ _; omega, by show @Ne Nat _ _; omega, by show @Ne Nat _ _; omega, by show @Ne Nat _ _; omega, by show @Ne Nat _ _; omega, by show @Ne Nat _ _; omega, by show @Ne Nat _ _; omega, by show @Ne Nat _ _; omega, by show @Ne Nat _ _; omega, by show @Ne Nat _ _; omega, by show @Ne Nat _ _; omega, by show @Ne Nat _ _; omega, by show @Ne Nat _ _; omega, by show @Ne Nat _ _; omega, by show @Ne Nat _ _; omega, by show @Ne Nat _ _; omega⟩
theorem preSum_ns (ns : List Int) : preSum (fun i => ns.getD i 0) ns.length = ns.sum := by
  have key : ∀ k, k ≤ ns.length → preSum (fun i => ns.getD i 0) k = (ns.take k).sum := by
    intro k
    induction k with
    | zero => intro _; rfl
    | succ k ih =>
      intro hk
      show preSum _ k + ns.getD k 0 = _
      have hk' : k < ns.length := by omega
      have e : ns.take (k + 1) = ns.take k ++ [ns[k]] := by rw [List.take_succ, List.getElem?_eq_getElem hk']; rfl
      rw [ih (by omega), e, List.sum_append, List.getD_eq_getElem?_getD, List.getElem?_eq_getElem hk']
      simp
  rw [key _ (Nat.le_refl _), List.take_length]
section
variable {X : Cx}
def iZip (K : PySem.W.Frag) (ta : TA) : TI := fun σ H R => ta σ H fun vs H1 => ∃ l1 l2, vs = [.ref l1, .ref l2] ∧ (∃ xs, SqL K H1 l1 xs) ∧ (∃ ys, SqL K H1 l2 ys) ∧ R (Itz K l1 l2) H1
theorem pi_zip2 {es : List Expr} {tk : Nat} {tpos : Pos} {a b : Expr} {ta : TA} {p pos : Pos} (hg : Gl X "zip") (hm : X.mg "zip" = none) (ha : PA X [a, b] ta) (hs : starEach [a, b] X.env = [(false, eval a X.env), (false, eval b X.env)] := by rfl) (hs2 : starEach [b] X.env = [(false, eval b X.env)] := by rfl) :
    PI X (.Tuple es tk tpos) (.Call (.Name "zip" p) [a, b] [] pos) (iZip X.K ta) := by
  intro pins s σ H R I h
  refine Call_ (ld_blt I hg hm boot_zip (PyProof.Rows.callWith_type1 (thn (ha pos pins s σ H _ I h) fun us s1 ⟨vs, H1, I1, r1, q1⟩ => ?_) (by rw [hs, hs2]) (by rw [hs2]; rfl)))
  obtain ⟨l1, l2, e, ⟨xs, hq1⟩, ⟨ys, hq2⟩, q⟩ := q1
  subst e
  obtain ⟨u1, u2, rfl, ru1, ru2⟩ := Vals.two r1
  cases ru1
  cases ru2
  obtain ⟨us, rv1, p1, z1⟩ := I1.list hq1
  obtain ⟨vs, rv2, p2, z2⟩ := I1.list hq2
  have hlt1 : l1 < s1.heap.objs.size := by obtain ⟨o, e, _⟩ := p1.isList; exact Heap.lt_size e
  have hlt2 : l2 < s1.heap.objs.size := by obtain ⟨o, e, _⟩ := p2.isList; exact Heap.lt_size e
  refine call_zip_2 p1.isList p2.isList fun h' g1 g2 g3 g4 g5 g6 g7 => ?_
  refine wpAny_pyIter_zip g1 ?_
  refine ⟨_, [s1.heap.objs.size + 4, s1.heap.objs.size + 2, s1.heap.objs.size + 3, s1.heap.objs.size, s1.heap.objs.size + 1], _, _, H1, rfl, I1.kept (t' := s1.toks) g7, turn_zip _ _ _ _ _ l1 l2 ?_, ⟨g1, g2, ⟨_, _, g3⟩, g4, g5⟩, fun b hb => ?_, q⟩
  · exact zap _ _ _ hlt1 hlt2
  · have hb2 : s1.heap.objs.size ≤ b := by
      simp only [List.mem_cons, List.not_mem_nil, or_false] at hb
      rcases hb with rfl | rfl | rfl | rfl | rfl <;> first | exact Nat.le_refl _ | exact Nat.le_add_right _ _
    exact I1.fpOk hb2 (I1.hok.fresh hb2)
/-- sum of a list of ints -/
theorem call_sum (hc : X.calm = true) : CallR X (.builtin "sum") (fun xs H Q => ∃ (l : Addr) (ns : List Int), xs = [.ref l] ∧ seqV H l = some (ns.map V.int) ∧ kindV H l = some true ∧ Q (.int ns.sum) H) := by
  intro pins s σ H xs us Q I r h
  obtain ⟨l, ns, rfl, hl, hk, q⟩ := h
  obtain ⟨u, rfl, ru⟩ := vals1 r
  cases ru
  obtain ⟨its, rv, pl, hz⟩ := I.list (kindV_l hl hk)
  have hI := intsAre_of rv
  have hlt : l < s.heap.objs.size := by obtain ⟨o, e, _⟩ := pl.isList; exact Heap.lt_size e
  refine call_sum_walkAnyS (wpAny_pyIter_list pl.isList ?_)
  have hlen : its.toArray.size = ns.length := by rw [List.size_toArray, ← rv.length, List.length_map]
  refine ⟨s.heap.objs.size, _, _, _, _, _, _, fun i => ns.getD i 0, rfl, (Walks.list (A := X.A.in1) (show X.A.in1.handled = none from I.ok.hd hc) s.heap.objs.size l (Nat.ne_of_lt hlt) its.toArray).toS, ?_, ?_, ?_, ?_⟩
  · exact ⟨⟨_, Heap.get?_push_size _ rfl, rfl, rfl⟩, pl.isList.push _⟩
  · intro b hb
    show b < (s.heap.push _).objs.size
    rw [Heap.size_push]
    rcases List.mem_cons.mp hb with rfl | hb
    · exact Nat.lt_succ_self _
    · rw [List.mem_singleton.mp hb]; exact Nat.lt_succ_of_lt hlt
  · intro i v hv
    exact IntsAre.int_at hI i v (by simpa using hv)
  · intro s' t' hm
    obtain ⟨h', g', d', k', o'⟩ := s'
    obtain rfl : g' = s.gens := hm.gens
    obtain rfl : d' = s.drawn := hm.drawn
    obtain rfl : o' = s.os := hm.os
    have kk : ∀ b o, s.heap.get? b = some o → h'.get? b = some o := fun b o e => hm.heap b o (fun z => absurd (Heap.lt_size e) (by rw [List.mem_singleton.mp z]; exact Nat.lt_irrefl _)) (Heap.get?_push_of_some _ e)
    refine ⟨.int ns.sum, H, I.kept (t' := k') kk, ⟨t', ?_⟩, q⟩
    rw [hlen, preSum_ns]
end
end L2

set_option Elab.async false
set_option linter.all false
set_option maxRecDepth 100000
namespace L2
open PySem PySem.Spec PyProof.Rows
def keyOf : V → Option Key
  | .int i => some (.inl i)
  | .str z => some (.inr z)
  | _ => none
theorem keyOf_int {i : Int} : keyOf (.int i) = some (.inl i) := rfl
theorem keyOf_str {i : Str} : keyOf (.str i) = some (.inr i) := rfl
theorem keyOf_of {y : V} {k : Key} (h : keyOf y = some k) : y = kV k := by
  cases y <;> first | (cases h; rfl) | (cases h)
def tDGetF (td ty : TE) : TE := fun σ H Q => td σ H fun x H1 => ty σ H1 fun y H2 => ∃ d k kvs v, x = .ref d ∧ keyOf y = some k ∧ H2 d = some (.dK kvs) ∧ valV kvs k = some v ∧ Q v H2
def tDInF (ty td : TE) : TE := fun σ H Q => ty σ H fun y H1 => td σ H1 fun x H2 => ∃ d k kvs, x = .ref d ∧ keyOf y = some k ∧ H2 d = some (.dK kvs) ∧ Q (.bl (valV kvs k).isSome) H2
def tDNotInF (ty td : TE) : TE := fun σ H Q => ty σ H fun y H1 => td σ H1 fun x H2 => ∃ d k kvs, x = .ref d ∧ keyOf y = some k ∧ H2 d = some (.dK kvs) ∧ Q (.bl (!(valV kvs k).isSome)) H2
def sDPutF (td ty tv : TE) : TS := fun D σ H => tv σ H fun v H1 => td σ H1 fun x H2 => ty σ H2 fun y H3 => ∃ d k kvs, x = .ref d ∧ keyOf y = some k ∧ H3 d = some (.dK kvs) ∧ kvs.length < sizeLine ∧ D.nx σ (upd H3 d (.dK (putK kvs k v)))
section
variable {X : Cx} {o i e value : Expr} {pos pos' tpos : Pos} {td ty tv : TE}
theorem pe_dgetF (hu : X.A.units + 1 < cLine) (ho : PE X o td) (hi : PE X i ty) (hs : NoSl i) : PE X (.Subscript o i pos) (tDGetF td ty) := by
  intro pins s σ H Q I h
  refine subD_of PySem.F.slot_dict_getitem.lookup hs (thn (ho pins s σ H _ I h) fun u s1 ⟨x, H1, I1, rx, q1⟩ => thn (hi pins s1 σ H1 _ I1 q1) fun iv s2 ⟨y, H2, I2, ry, d, k, kvs, v, ex, ek, hd, hv, q2⟩ => ?_)
  subst ex
  cases keyOf_of ek
  obtain rfl : u = Value.ref d := rx
  have g : DGet H2 d (kV k) (some v) := by rw [← hv]; exact DGet.k hd
  exact ⟨dict_typeIs I2 g, d_getItem hu I2 g ry fun w' s3 I3 rw' => ⟨v, H2, I3, rw', q2⟩⟩
theorem pc_dinF (hu : X.A.units + 1 < cLine) (hi : PE X i ty) (ho : PE X o td) : PC X .In i o (tDInF ty td) := by
  intro pins s σ H Q I h
  refine thn (hi pins s σ H _ I h) fun iv s1 ⟨y, H1, I1, ry, q1⟩ => thn (ho pins s1 σ H1 _ I1 q1) fun u s2 ⟨x, H2, I2, rx, d, k, kvs, ex, ek, hd, q2⟩ => ?_
  subst ex
  cases keyOf_of ek
  obtain rfl : u = Value.ref d := rx
  exact d_in hu I2 (DGet.k hd) ry fun s3 I3 => ⟨.bl _, H2, I3, rfl, q2⟩
theorem pc_dnotinF (hu : X.A.units + 1 < cLine) (hi : PE X i ty) (ho : PE X o td) : PC X .NotIn i o (tDNotInF ty td) := by
  intro pins s σ H Q I h
  refine thn (hi pins s σ H _ I h) fun iv s1 ⟨y, H1, I1, ry, q1⟩ => thn (ho pins s1 σ H1 _ I1 q1) fun u s2 ⟨x, H2, I2, rx, d, k, kvs, ex, ek, hd, q2⟩ => ?_
  subst ex
  cases keyOf_of ek
  obtain rfl : u = Value.ref d := rx
  exact d_notIn hu I2 (DGet.k hd) ry fun s3 I3 => ⟨.bl _, H2, I3, rfl, q2⟩
theorem ps_dputF (hu : X.A.units + 1 < cLine) (ho : PE X o td) (hi : PE X i ty) (hv : PE X value tv) (hs : swapsWith value (some (.Subscript o i pos')) pos.line X.env = pure false) :
    PS X (.Assign [.Subscript o i pos'] value pos) (sDPutF td ty tv) := by
  intro pins s σ H D I h
  refine wpAny_Assign_Subscript (thn (hv pins s σ H _ I h) fun r s1 ⟨v, H1, I1, rv, q1⟩ => thn (ho pins s1 σ H1 _ I1 q1) fun u s2 ⟨x, H2, I2, rx, q2⟩ => thn (hi pins s2 σ H2 _ I2 q2) fun iv s3 ⟨y, H3, I3, ry, d, k, kvs, ex, ek, hd, hl, q3⟩ => ?_) hs
  subst ex
  cases keyOf_of ek
  obtain rfl : u = Value.ref d := rx
  exact d_setItem hu I3 (DPut.k hd hl) ry rv fun s4 I4 => ⟨σ, _, I4, q3⟩
end
theorem valV_put' {kvs : List (Key × V)} {k k' : Key} {v : V} : valV (putK kvs k v) k' = if k' = k then some v else valV kvs k' := by
  first | exact valV_put kvs k v k' | (rw [valV_put])
end L2

set_option Elab.async false
set_option linter.all false
set_option maxRecDepth 100000
namespace L2
open PySem PySem.Spec PyProof.Rows
theorem cxOf_K {CX : CXT} {P : Program} {w : World} {K : PySem.W.Frag} {mg : Str → Option Value} {base : Heap} {N : List Str} {qual : Str} {scope : Scope} {f : Addr} {cd : Value} {A : Around} {outer : List Env} {s₀ : Shared} {H₀ : Hp} {E : XK} :
    (cxOf CX P w K mg base N qual scope f cd A outer s₀ H₀ E).K = K := rfl
theorem pe_fldK {X : Cx} {e : Expr} {f : Str} {pos : Pos} {ta : TE} {K : PySem.W.Frag} (hk : X.K = K) (he : PE X e ta) (hb : attributeBase e f X.env (eval e X.env) = eval e X.env) : PE X (.Attribute e f pos) (tFld K ta f) := by
  subst hk
  exact pe_fld he hb
structure Fr (M : Addr → Prop) (H H' : Hp) : Prop where
  keep : ∀ q o, H q = some o → ¬ M q → H' q = some o
  tups : ∀ q xs, H q = some (.tup xs) → H' q = some (.tup xs)
theorem Fr.refl {M : Addr → Prop} {H : Hp} : Fr M H H := ⟨fun _ _ h _ => h, fun _ _ h => h⟩
theorem Fr.trans {M : Addr → Prop} {H H1 H2 : Hp} (x : Fr M H H1) (y : Fr M H1 H2) : Fr M H H2 := ⟨fun q o h n => y.keep q o (x.keep q o h n) n, fun q xs h => y.tups q xs (x.tups q xs h)⟩
theorem Fr.of_same {M : Addr → Prop} {H H' : Hp} (s : Same H H') : Fr M H H' := ⟨fun q o h _ => s q o h, fun q xs h => s q _ h⟩
theorem Fr.laid {M : Addr → Prop} {H : Hp} {p : Addr} {u : HO} (hp : H p = none) : Fr M H (upd H p u) := .of_same (.laid hp)
theorem Fr.put {M : Addr → Prop} {H : Hp} {p : Addr} {u : HO} (hm : M p) (ht : ∀ xs, H p ≠ some (.tup xs)) : Fr M H (upd H p u) :=
  ⟨fun q o h n => by rw [upd_ne (fun e => n (by rw [e]; exact hm))]; exact h, fun q xs h => by rw [upd_ne (fun e => ht xs (by rw [← e]; exact h))]; exact h⟩
theorem Fr.mono {M M' : Addr → Prop} {H H' : Hp} (x : Fr M H H') (h : ∀ q, M q → M' q) : Fr M' H H' := ⟨fun q o e n => x.keep q o e (fun m => n (h q m)), x.tups⟩
theorem forA {ta : TA} {g : TG} {tb : TS} {D : Ends} {σ : St} {H H1 : Hp} (lo hi : Int) (hr : ∀ Q, Q [.int lo, .int hi] H1 → ta σ H Q) (Pv : Nat → St → Hp → Prop) (h0 : Pv 0 σ H1)
    (hs : ∀ i σ H, i < (hi - lo).toNat → Pv i σ H → g (.int (lo + i)) σ H fun σ2 H2 => tb { D with nx := Pv (i + 1), ct := Pv (i + 1), bk := D.nx } σ2 H2) (hd : ∀ σ H, Pv (hi - lo).toNat σ H → D.nx σ H) :
    tFor (iRngA ta) g tb D σ H := hr _ ⟨lo, hi, rfl, for_range Pv h0 hs hd⟩
theorem for1 {ta : TA} {g : TG} {tb : TS} {D : Ends} {σ : St} {H H1 : Hp} (n : Int) (hr : ∀ Q, Q [.int n] H1 → ta σ H Q) (n0 : -(2 ^ 62) ≤ n) (n1 : n < 2 ^ 62) (Pv : Nat → St → Hp → Prop) (h0 : Pv 0 σ H1)
    (hs : ∀ i σ H, i < n.toNat → Pv i σ H → g (.int (0 + i)) σ H fun σ2 H2 => tb { D with nx := Pv (i + 1), ct := Pv (i + 1), bk := D.nx } σ2 H2) (hd : ∀ σ H, Pv n.toNat σ H → D.nx σ H) :
    tFor (iRng1 ta) g tb D σ H := hr _ ⟨n, rfl, n0, n1, for_range Pv h0 hs hd⟩
theorem forL {K : PySem.W.Frag} {tl : TE} {g : TG} {tb : TS} {D : Ends} {σ : St} {H H1 : Hp} (a : Addr) (xs : List V) (hr : ∀ Q, Q (.ref a) H1 → tl σ H Q) (Pv : Nat → St → Hp → Prop) (h0 : Pv 0 σ H1) (hl : ∀ i σ H, i ≤ xs.length → Pv i σ H → SqL K H a xs)
    (hs : ∀ i x σ H, xs[i]? = some x → Pv i σ H → g x σ H fun σ2 H2 => tb { D with nx := Pv (i + 1), ct := Pv (i + 1), bk := D.nx } σ2 H2) (hd : ∀ σ H, Pv xs.length σ H → D.nx σ H) :
    tFor (iList K tl) g tb D σ H := hr _ ⟨a, rfl, ⟨xs, hl 0 σ H1 (Nat.zero_le _) h0⟩, for_list Pv h0 hl hs hd⟩
/-- the pair's tuple is new at each turn -/
theorem forZ {K : PySem.W.Frag} {ta : TA} {g : TG} {tb : TS} {D : Ends} {σ : St} {H H1 : Hp} (l1 l2 : Addr) (xs ys : List V) (hr : ∀ Q, Q [.ref l1, .ref l2] H1 → ta σ H Q) (Pv : Nat → St → Hp → Prop) (h0 : Pv 0 σ H1) (hn : xs.length = ys.length) (hl : ∀ i σ H, i ≤ xs.length → Pv i σ H → SqL K H l1 xs ∧ SqL K H l2 ys)
    (hs : ∀ i x y p σ H, xs[i]? = some x → ys[i]? = some y → Pv i σ H → H p = none → g (.ref p) σ (upd H p (.tup [x, y])) fun σ2 H2 => tb { D with nx := Pv (i + 1), ct := Pv (i + 1), bk := D.nx } σ2 H2) (hd : ∀ σ H, Pv xs.length σ H → D.nx σ H) :
    tFor (iZip K ta) g tb D σ H := by
  refine hr _ ⟨l1, l2, rfl, ⟨xs, (hl 0 σ H1 (Nat.zero_le _) h0).1⟩, ⟨ys, (hl 0 σ H1 (Nat.zero_le _) h0).2⟩, fun i m σ H => m = xs.length - i ∧ i ≤ xs.length ∧ Pv i σ H, ⟨xs.length, by simp, Nat.zero_le _, h0⟩, ?_⟩
  rintro i m σ H ⟨rfl, hi, p⟩
  obtain ⟨q1, q2⟩ := hl i σ H hi p
  by_cases hlt : i < xs.length
  · refine .inr ⟨⟨xs, ys, xs[i], ys[i], q1, q2, by simp [hlt], by simp [hn ▸ hlt]⟩, Pv (i + 1), fun σ' H' p' => ⟨xs.length - (i + 1), by omega, rfl, hlt, p'⟩, fun v H' y => ?_⟩
    obtain ⟨b, x, y, rfl, hb, rfl, e1, e2⟩ := y
    exact hs i x y b σ _ (e1 _ q1) (e2 _ q2) p hb
  · have e : i = xs.length := by omega
    subst e
    exact .inl ⟨⟨xs, ys, q1, q2, .inl (Nat.le_refl _)⟩, hd σ H p⟩
theorem compA {cap : List (Option Nat)} {ta : TA} {g : TG} {tt : TT} {te : TE} {σ : St} {H H1 : Hp} {Q : VK} (lo hi : Int) (hr : ∀ Q, Q [.int lo, .int hi] H1 → ta σ H Q) (Pv : Addr → Nat → List V → Hp → Prop) (h0 : ∀ D, H1 D = none → Pv D 0 [] (upd H1 D (.lst [])))
    (hl : ∀ D, H1 D = none → ∀ i ys H, i ≤ (hi - lo).toNat → Pv D i ys H → H D = some (.lst ys) ∧ ys.length ≤ i) (hz : (hi - lo).toNat ≤ sizeLine)
    (hs : ∀ D, H1 D = none → ∀ i ys H, i < (hi - lo).toNat → Pv D i ys H → g (.int (lo + i)) (capSt cap σ) H fun σ4 H4 => tt σ4 H4 fun b H5 => if b = true then te σ4 H5 fun y H6 => H6 D = some (.lst ys) ∧ Pv D (i + 1) (ys ++ [y]) (upd H6 D (.lst (ys ++ [y]))) else Pv D (i + 1) ys H5)
    (hd : ∀ D, H1 D = none → ∀ ys H, Pv D (hi - lo).toNat ys H → Q (.ref D) H) : tComp cap (iRngA ta) g tt te σ H Q := hr _ ⟨lo, hi, rfl, fun D hD => comp_range (R := fun H => Q (.ref D) H) (Pv D) (h0 D hD) (hl D hD) hz (hs D hD) (hd D hD)⟩
theorem comp1 {cap : List (Option Nat)} {ta : TA} {g : TG} {tt : TT} {te : TE} {σ : St} {H H1 : Hp} {Q : VK} (n : Int) (hr : ∀ Q, Q [.int n] H1 → ta σ H Q) (n0 : -(2 ^ 62) ≤ n) (n1 : n < 2 ^ 62) (Pv : Addr → Nat → List V → Hp → Prop) (h0 : ∀ D, H1 D = none → Pv D 0 [] (upd H1 D (.lst [])))
    (hl : ∀ D, H1 D = none → ∀ i ys H, i ≤ n.toNat → Pv D i ys H → H D = some (.lst ys) ∧ ys.length ≤ i) (hz : n.toNat ≤ sizeLine)
    (hs : ∀ D, H1 D = none → ∀ i ys H, i < n.toNat → Pv D i ys H → g (.int (0 + i)) (capSt cap σ) H fun σ4 H4 => tt σ4 H4 fun b H5 => if b = true then te σ4 H5 fun y H6 => H6 D = some (.lst ys) ∧ Pv D (i + 1) (ys ++ [y]) (upd H6 D (.lst (ys ++ [y]))) else Pv D (i + 1) ys H5)
    (hd : ∀ D, H1 D = none → ∀ ys H, Pv D n.toNat ys H → Q (.ref D) H) : tComp cap (iRng1 ta) g tt te σ H Q := hr _ ⟨n, rfl, n0, n1, fun D hD => comp_range (R := fun H => Q (.ref D) H) (Pv D) (h0 D hD) (hl D hD) hz (hs D hD) (hd D hD)⟩
theorem compL {K : PySem.W.Frag} {cap : List (Option Nat)} {tl : TE} {g : TG} {tt : TT} {te : TE} {σ : St} {H H1 : Hp} {Q : VK} (a : Addr) (xs : List V) (hr : ∀ Q, Q (.ref a) H1 → tl σ H Q) (hq : SqL K H1 a xs) (Pv : Addr → Nat → List V → Hp → Prop) (h0 : ∀ D, H1 D = none → Pv D 0 [] (upd H1 D (.lst [])))
    (hl : ∀ D, H1 D = none → ∀ i ys H, i ≤ xs.length → Pv D i ys H → SqL K H a xs ∧ H D = some (.lst ys) ∧ ys.length ≤ i) (hz : xs.length ≤ sizeLine)
    (hs : ∀ D, H1 D = none → ∀ i x ys H, xs[i]? = some x → Pv D i ys H → g x (capSt cap σ) H fun σ4 H4 => tt σ4 H4 fun b H5 => if b = true then te σ4 H5 fun y H6 => H6 D = some (.lst ys) ∧ Pv D (i + 1) (ys ++ [y]) (upd H6 D (.lst (ys ++ [y]))) else Pv D (i + 1) ys H5)
    (hd : ∀ D, H1 D = none → ∀ ys H, Pv D xs.length ys H → Q (.ref D) H) : tComp cap (iList K tl) g tt te σ H Q := hr _ ⟨a, rfl, ⟨xs, hq⟩, fun D hD => comp_list (R := fun H => Q (.ref D) H) (Pv D) (h0 D hD) (hl D hD) hz (hs D hD) (hd D hD)⟩
theorem compT {K : PySem.W.Frag} {cap : List (Option Nat)} {tl : TE} {g : TG} {tt : TT} {te : TE} {σ : St} {H H1 : Hp} {Q : VK} (a : Addr) (xs : List V) (hr : ∀ Q, Q (.ref a) H1 → tl σ H Q) (hq : SqT K H1 a xs) (Pv : Addr → Nat → List V → Hp → Prop) (h0 : ∀ D, H1 D = none → Pv D 0 [] (upd H1 D (.lst [])))
    (hl : ∀ D, H1 D = none → ∀ i ys H, i ≤ xs.length → Pv D i ys H → SqT K H a xs ∧ H D = some (.lst ys) ∧ ys.length ≤ i) (hz : xs.length ≤ sizeLine)
    (hs : ∀ D, H1 D = none → ∀ i x ys H, xs[i]? = some x → Pv D i ys H → g x (capSt cap σ) H fun σ4 H4 => tt σ4 H4 fun b H5 => if b = true then te σ4 H5 fun y H6 => H6 D = some (.lst ys) ∧ Pv D (i + 1) (ys ++ [y]) (upd H6 D (.lst (ys ++ [y]))) else Pv D (i + 1) ys H5)
    (hd : ∀ D, H1 D = none → ∀ ys H, Pv D xs.length ys H → Q (.ref D) H) : tComp cap (iTup K tl) g tt te σ H Q := hr _ ⟨a, rfl, ⟨xs, hq⟩, fun D hD => comp_tup (R := fun H => Q (.ref D) H) (Pv D) (h0 D hD) (hl D hD) hz (hs D hD) (hd D hD)⟩
theorem compL_ {K : PySem.W.Frag} {cap : List (Option Nat)} {tl : TE} {g : TG} {tt : TT} {te : TE} {σ : St} {H : Hp} {Q : VK} (Pre : Addr → Hp → Prop) (hr : ∀ Q, (∀ a H1, Pre a H1 → Q (.ref a) H1) → tl σ H Q)
    (h : ∀ a H1, Pre a H1 → tComp cap (iList K (tC (.ref a))) g tt te σ H1 Q) : tComp cap (iList K tl) g tt te σ H Q := hr _ fun a H1 p => h a H1 p
theorem compT_ {K : PySem.W.Frag} {cap : List (Option Nat)} {tl : TE} {g : TG} {tt : TT} {te : TE} {σ : St} {H : Hp} {Q : VK} (Pre : Addr → Hp → Prop) (hr : ∀ Q, (∀ a H1, Pre a H1 → Q (.ref a) H1) → tl σ H Q)
    (h : ∀ a H1, Pre a H1 → tComp cap (iTup K (tC (.ref a))) g tt te σ H1 Q) : tComp cap (iTup K tl) g tt te σ H Q := hr _ fun a H1 p => h a H1 p
theorem forL_ {K : PySem.W.Frag} {tl : TE} {g : TG} {tb : TS} {D : Ends} {σ : St} {H : Hp} (Pre : Addr → Hp → Prop) (hr : ∀ Q, (∀ a H1, Pre a H1 → Q (.ref a) H1) → tl σ H Q)
    (h : ∀ a H1, Pre a H1 → tFor (iList K (tC (.ref a))) g tb D σ H1) : tFor (iList K tl) g tb D σ H := hr _ fun a H1 p => h a H1 p
theorem for1_ {ta : TA} {g : TG} {tb : TS} {D : Ends} {σ : St} {H : Hp} (Pre : Int → Hp → Prop) (hr : ∀ Q, (∀ n H1, Pre n H1 → Q [.int n] H1) → ta σ H Q)
    (h : ∀ n H1, Pre n H1 → tFor (iRng1 (tCons (tC (.int n)) tNil)) g tb D σ H1) : tFor (iRng1 ta) g tb D σ H := hr _ fun a H1 p => h a H1 p
theorem gTup_of {K : PySem.W.Frag} {n : Nat} {t : TGs} {a : Addr} {xs : List V} {σ : St} {H : Hp} {Q : St → Hp → Prop} (h : H a = some (.tup xs)) (hl : xs.length = n) (q : t xs σ H Q) : gTup K n t (.ref a) σ H Q := ⟨a, xs, rfl, .of h, hl, q⟩
abbrev Th := Int × List Int × List Int
def thW (t : Th) : List Int := (16 * (t.2.1.length : Int) + t.2.2.length) :: (t.2.1 ++ t.2.2)
def thSz (t : Th) : Int := 1 + t.2.1.length + t.2.2.length
def thWord (t : Th) (z : Int) : Option Int := if z < t.1 then none else (thW t)[(z - t.1).toNat]?
def wordAt (ts : List Th) (z : Int) : Option Int := ts.findSome? fun t => thWord t z
def thTri (t : Th) : Int × Int × Int := (t.1, (t.2.1.length : Int), (t.2.2.length : Int))
def Lay : Int → List Th → Int → Prop
  | s, [], f => f = s
  | s, t :: r, f => t.1 = s ∧ Lay (s + thSz t) r f
theorem thSz_pos (t : Th) : 1 ≤ thSz t := by unfold thSz; omega
theorem thW_len (t : Th) : ((thW t).length : Int) = thSz t := by unfold thW thSz; simp; omega
theorem thWord_none {t : Th} {z : Int} : thWord t z = none ↔ z < t.1 ∨ t.1 + thSz t ≤ z := by
  unfold thWord
  have h := thW_len t
  by_cases c : z < t.1
  · simp [c]
  · simp only [if_neg c, List.getElem?_eq_none_iff]
    omega
theorem thWord_head {t : Th} : thWord t t.1 = some (16 * (t.2.1.length : Int) + t.2.2.length) := by
  unfold thWord thW; simp
theorem wordAt_cons {t : Th} {r : List Th} {z : Int} : wordAt (t :: r) z = (thWord t z).or (wordAt r z) := by
  unfold wordAt; rw [List.findSome?_cons]; cases thWord t z <;> rfl
theorem wordAt_append {a b : List Th} {z : Int} : wordAt (a ++ b) z = (wordAt a z).or (wordAt b z) := by
  unfold wordAt; rw [List.findSome?_append]
theorem wordAt_take {ts : List Th} {k : Nat} {t : Th} {z x : Int} (h : wordAt (ts.take k) z = none) (hk : ts[k]? = some t) (hx : thWord t z = some x) : wordAt ts z = some x := by
  have e : ts = ts.take k ++ (t :: ts.drop (k + 1)) := by
    have hl := (List.getElem?_eq_some_iff.mp hk).1
    have e2 := (List.getElem?_eq_some_iff.mp hk).2
    rw [← e2, ← List.drop_eq_getElem_cons hl, List.take_append_drop]
  rw [e, wordAt_append, h, wordAt_cons, hx]; rfl
theorem wordAt_set {ts : List Th} {k : Nat} {t t' : Th} {z : Int} (h : wordAt (ts.take k) z = none) (hk : ts[k]? = some t) (hx : (thWord t' z).isSome) : wordAt (ts.set k t') z = thWord t' z := by
  obtain ⟨x, e⟩ := Option.isSome_iff_exists.mp hx
  have hl := (List.getElem?_eq_some_iff.mp hk).1
  rw [e]
  refine wordAt_take (k := k) (t := t') ?_ (by rw [List.getElem?_set_self hl]) e
  rw [List.take_set]
  rw [List.set_eq_of_length_le (by simp; omega)]
  exact h
theorem wordAt_same : ∀ {ts : List Th} {k : Nat} {t t' : Th} {z : Int}, ts[k]? = some t → thWord t' z = thWord t z → wordAt (ts.set k t') z = wordAt ts z
  | [], k, t, t', z, hk, _ => by simp at hk
  | u :: r, 0, t, t', z, hk, e => by
    simp at hk; subst hk
    rw [List.set_cons_zero, wordAt_cons, wordAt_cons, e]
  | u :: r, k + 1, t, t', z, hk, e => by
    rw [List.getElem?_cons_succ] at hk
    rw [List.set_cons_succ, wordAt_cons, wordAt_cons, wordAt_same hk e]
theorem Lay.snoc : ∀ {ts : List Th} {s f : Int} {t : Th}, Lay s ts f → t.1 = f → Lay s (ts ++ [t]) (f + thSz t)
  | [], s, f, t, h, e => by
    cases (show f = s from h)
    exact ⟨e, rfl⟩
  | u :: r, s, f, t, ⟨h1, h2⟩, e => ⟨h1, Lay.snoc h2 e⟩
theorem Lay.le : ∀ {ts : List Th} {s f : Int}, Lay s ts f → s ≤ f
  | [], s, f, h => by cases (show f = s from h); exact Int.le_refl _
  | u :: r, s, f, ⟨h1, h2⟩ => by have := Lay.le h2; have := thSz_pos u; omega
theorem Lay.mem : ∀ {ts : List Th} {s f : Int} {t : Th}, Lay s ts f → t ∈ ts → s ≤ t.1 ∧ t.1 + thSz t ≤ f
  | [], s, f, t, h, m => by cases m
  | u :: r, s, f, t, ⟨h1, h2⟩, m => by
    have p := thSz_pos u
    rcases List.mem_cons.mp m with e | m
    · subst e; have := Lay.le h2; omega
    · have := Lay.mem h2 m; omega
theorem Lay.apart : ∀ {ts : List Th} {s f : Int} {t t' : Th}, Lay s ts f → t ∈ ts → t' ∈ ts → t.1 < t'.1 → t.1 + thSz t ≤ t'.1
  | [], s, f, t, t', h, m, _, _ => by cases m
  | u :: r, s, f, t, t', ⟨h1, h2⟩, m, m', lt => by
    rcases List.mem_cons.mp m with e | n <;> rcases List.mem_cons.mp m' with e' | n'
    · subst e; subst e'; omega
    · subst e; have := Lay.mem h2 n'; omega
    · subst e'; have := Lay.mem h2 n; have := thSz_pos t'; omega
    · exact Lay.apart h2 n n' lt
theorem Lay.rising : ∀ {ts : List Th} {s f : Int}, Lay s ts f → (ts.map (·.1)).Pairwise (· < ·)
  | [], s, f, h => .nil
  | u :: r, s, f, ⟨h1, h2⟩ => by
    rw [List.map_cons]
    refine List.Pairwise.cons (fun x hx => ?_) (Lay.rising h2)
    obtain ⟨t, ht, rfl⟩ := List.mem_map.mp hx
    have := Lay.mem h2 ht; have := thSz_pos u; omega
theorem Lay.inj {ts : List Th} {s f : Int} {t t' : Th} (h : Lay s ts f) (m : t ∈ ts) (m' : t' ∈ ts) (e : t.1 = t'.1) : t = t' := by
  have p := Lay.rising h
  rw [List.pairwise_map] at p
  rcases List.getElem_of_mem m with ⟨i, hi, rfl⟩
  rcases List.getElem_of_mem m' with ⟨j, hj, rfl⟩
  rcases Nat.lt_trichotomy i j with c | c | c
  · have := (List.pairwise_iff_getElem.mp p) i j hi hj c; omega
  · subst c; rfl
  · have := (List.pairwise_iff_getElem.mp p) j i hj hi c; omega
theorem Lay.word : ∀ {ts : List Th} {s f : Int} {t : Th} {z : Int}, Lay s ts f → t ∈ ts → t.1 ≤ z → z < t.1 + thSz t → wordAt ts z = thWord t z
  | [], s, f, t, z, h, m, _, _ => by cases m
  | u :: r, s, f, t, z, ⟨h1, h2⟩, m, a, b => by
    rw [wordAt_cons]
    rcases List.mem_cons.mp m with e | m
    · subst e
      cases e : thWord t z with
      | none => rcases thWord_none.mp e with c | c <;> omega
      | some x => rfl
    · have q := Lay.mem h2 m
      rw [thWord_none.mpr (.inr (by omega)), Lay.word h2 m a b]; rfl
theorem Lay.noWord : ∀ {ts : List Th} {s f : Int} {z : Int}, Lay s ts f → z < s ∨ f ≤ z → wordAt ts z = none
  | [], s, f, z, h, c => rfl
  | u :: r, s, f, z, ⟨h1, h2⟩, c => by
    have p := thSz_pos u
    have l := Lay.le h2
    rw [wordAt_cons, thWord_none.mpr (by omega), Lay.noWord h2 (by omega)]; rfl
theorem Lay.sum : ∀ {ts : List Th} {s f : Int}, Lay s ts f → f = s + (ts.map thSz).sum
  | [], s, f, h => by cases (show f = s from h); simp
  | u :: r, s, f, ⟨h1, h2⟩ => by have := Lay.sum h2; rw [List.map_cons, List.sum_cons]; omega
theorem Lay.set : ∀ {ts : List Th} {s f : Int} {k : Nat} {t t' : Th}, Lay s ts f → ts[k]? = some t → t'.1 = t.1 → thSz t' = thSz t → Lay s (ts.set k t') f
  | [], s, f, k, t, t', h, hk, _, _ => by simp at hk
  | u :: r, s, f, 0, t, t', ⟨h1, h2⟩, hk, e1, e2 => by
    simp at hk; subst hk
    rw [List.set_cons_zero]
    exact ⟨by omega, by rw [e2]; exact h2⟩
  | u :: r, s, f, k + 1, t, t', ⟨h1, h2⟩, hk, e1, e2 => by
    rw [List.getElem?_cons_succ] at hk
    rw [List.set_cons_succ]
    exact ⟨h1, Lay.set h2 hk e1 e2⟩
theorem Lay.newWord {ts : List Th} {s f : Int} {h m : Nat} (l : Lay s ts f) (z : Int) :
    wordAt (ts ++ [(f, List.replicate h 0, List.replicate m 0)]) z = if z = f then some (16 * (h : Int) + m) else if f < z ∧ z < f + 1 + h + m then some 0 else wordAt ts z := by
  rw [wordAt_append]
  have e1 : wordAt [((f, List.replicate h 0, List.replicate m 0) : Th)] z = thWord (f, List.replicate h 0, List.replicate m 0) z := by
    rw [wordAt_cons]; cases thWord (f, List.replicate h 0, List.replicate m 0) z <;> rfl
  rw [e1]
  by_cases c1 : z = f
  · subst c1
    rw [if_pos rfl, Lay.noWord l (.inr (Int.le_refl _))]
    have := thWord_head (t := (z, List.replicate h 0, List.replicate m 0))
    rw [List.length_replicate, List.length_replicate] at this
    exact this
  · rw [if_neg c1]
    by_cases c2 : f < z ∧ z < f + 1 + h + m
    · rw [if_pos c2, Lay.noWord l (.inr (by omega))]
      show thWord _ z = some 0
      unfold thWord thW
      rw [if_neg (by show ¬ z < f; omega)]
      show ((_ :: (List.replicate h (0 : Int) ++ List.replicate m 0)) : List Int)[(z - f).toNat]? = some 0
      rw [List.replicate_append_replicate, show (z - f).toNat = ((z - f).toNat - 1) + 1 by omega, List.getElem?_cons_succ, List.getElem?_replicate, if_pos (by omega)]
    · rw [if_neg c2]
      have : thWord ((f, List.replicate h 0, List.replicate m 0) : Th) z = none := thWord_none.mpr (by
        show z < f ∨ f + thSz (f, List.replicate h 0, List.replicate m 0) ≤ z
        unfold thSz; simp; omega)
      rw [this, Option.or_none]
structure Yd where
  p : Addr
  dx : Addr
  dw : Addr
  ds : Addr
def yF (y : Yd) (free : Int) : List (Str × V) := [("free", .int free), ("words", .ref y.dw), ("sizes", .ref y.ds)]
theorem putF_0 {v : V} : putF "free" v [] = [(("free" : Str), v)] := by rfl
theorem putF_w {x v : V} : putF "words" v [(("free" : Str), x)] = [(("free" : Str), x), (("words" : Str), v)] := by rfl
theorem putF_s {x z v : V} : putF "sizes" v [(("free" : Str), x), (("words" : Str), z)] = [(("free" : Str), x), (("words" : Str), z), (("sizes" : Str), v)] := by rfl
theorem putF_f {y : Yd} {f f' : Int} : putF "free" (.int f') (yF y f) = yF y f' := by rfl
theorem yF_len {y : Yd} {f : Int} : (yF y f).length = 3 := rfl
theorem yF_free {y : Yd} {f : Int} : List.lookup ("free" : Str) (yF y f) = some (V.int f) := by rfl
theorem yF_words {y : Yd} {f : Int} : List.lookup ("words" : Str) (yF y f) = some (V.ref y.dw) := by rfl
theorem yF_sizes {y : Yd} {f : Int} : List.lookup ("sizes" : Str) (yF y f) = some (V.ref y.ds) := by rfl
theorem yF_meth {y : Yd} {f : Int} : List.lookup ("make" : Str) (yF y f) = none ∧ List.lookup ("is_thing" : Str) (yF y f) = none ∧ List.lookup ("size_of" : Str) (yF y f) = none ∧ List.lookup ("word" : Str) (yF y f) = none ∧ List.lookup ("set_word" : Str) (yF y f) = none ∧ List.lookup ("words_from" : Str) (yF y f) = none ∧ List.lookup ("holds_of" : Str) (yF y f) = none ∧ List.lookup ("numbers_of" : Str) (yF y f) = none ∧ List.lookup ("told" : Str) (yF y f) = none := ⟨by rfl, by rfl, by rfl, by rfl, by rfl, by rfl, by rfl, by rfl, by rfl⟩
theorem notTup_ins {H : Hp} {p : Addr} {C dx : Addr} {fs : List (Str × V)} (h : H p = some (.ins C dx fs)) : ∀ xs, H p ≠ some (.tup xs) := fun xs e => by rw [h] at e; cases e
theorem notTup_dK {H : Hp} {p : Addr} {kvs : List (Key × V)} (h : H p = some (.dK kvs)) : ∀ xs, H p ≠ some (.tup xs) := fun xs e => by rw [h] at e; cases e
theorem notTup_lst {H : Hp} {p : Addr} {ys : List V} (h : H p = some (.lst ys)) : ∀ xs, H p ≠ some (.tup xs) := fun xs e => by rw [h] at e; cases e
structure YardAt (C : Addr) (H : Hp) (y : Yd) (W : Int → Option Int) (S : List (Int × Int × Int)) (free : Int) : Prop where
  ins : H y.p = some (.ins C y.dx (yF y free))
  words : ∃ kw, H y.dw = some (.dK kw) ∧ (∀ z, valV kw (.inl z) = (W z).map V.int) ∧ kw.length ≤ 19 * S.length
  sizes : ∃ ks, H y.ds = some (.dK ks) ∧ ks.map (·.1) = S.map (fun t => Sum.inl t.1) ∧ (∀ t ∈ S, ∃ q, valV ks (.inl t.1) = some (.ref q) ∧ H q = some (.tup [.int t.2.1, .int t.2.2])) ∧ (∀ z, (∀ t ∈ S, t.1 ≠ z) → valV ks (.inl z) = none)
  ne : y.dw ≠ y.ds
theorem YardAt.fr {C : Addr} {H H' : Hp} {y : Yd} {W : Int → Option Int} {S : List (Int × Int × Int)} {free : Int} {M : Addr → Prop} (x : YardAt C H y W S free) (f : Fr M H H') (h1 : ¬ M y.p) (h2 : ¬ M y.dw) (h3 : ¬ M y.ds) : YardAt C H' y W S free := by
  obtain ⟨a, ⟨kw, b1, b2, b3⟩, ⟨ks, c1, c2, c3, c4⟩, d⟩ := x
  refine ⟨f.keep _ _ a h1, ⟨kw, f.keep _ _ b1 h2, b2, b3⟩, ⟨ks, f.keep _ _ c1 h3, c2, fun t ht => ?_, c4⟩, d⟩
  obtain ⟨q, e1, e2⟩ := c3 t ht
  exact ⟨q, e1, f.tups _ _ e2⟩
theorem YardAt.same {C : Addr} {H H' : Hp} {y : Yd} {W : Int → Option Int} {S : List (Int × Int × Int)} {free : Int} (x : YardAt C H y W S free) (s : Same H H') : YardAt C H' y W S free :=
  x.fr (M := fun _ => False) (.of_same s) id id id
def YM (y : Yd) : Addr → Prop := fun q => q = y.p ∨ q = y.dw ∨ q = y.ds
theorem length_putK_there {kvs : List (Key × V)} {k : Key} {v x : V} (h : valV kvs k = some x) : (putK kvs k v).length = kvs.length := by
  unfold putK
  rw [valV_any, h, if_pos (by rfl), List.length_map]
structure RowsAt (mk : List V → HO) (H : Hp) (l : Addr) (as : List (Addr × Addr × Addr)) (ts : List Th) : Prop where
  top : H l = some (.lst (as.map fun a => V.ref a.1))
  len : as.length = ts.length
  row : ∀ (k : Nat) (a : Addr × Addr × Addr) (t : Th), as[k]? = some a → ts[k]? = some t → H a.1 = some (.tup [.int t.1, .ref a.2.1, .ref a.2.2]) ∧ H a.2.1 = some (mk (t.2.1.map V.int)) ∧ H a.2.2 = some (mk (t.2.2.map V.int))
theorem RowsAt.at_ {mk : List V → HO} {H : Hp} {l : Addr} {as : List (Addr × Addr × Addr)} {ts : List Th} (x : RowsAt mk H l as ts) {k : Nat} {t : Th} (hk : ts[k]? = some t) :
    ∃ a, as[k]? = some a ∧ H a.1 = some (.tup [.int t.1, .ref a.2.1, .ref a.2.2]) ∧ H a.2.1 = some (mk (t.2.1.map V.int)) ∧ H a.2.2 = some (mk (t.2.2.map V.int)) := by
  have hl := (List.getElem?_eq_some_iff.mp hk).1
  have hl' : k < as.length := by rw [x.len]; exact hl
  exact ⟨as[k], List.getElem?_eq_getElem hl', x.row k _ t (List.getElem?_eq_getElem hl') hk⟩
theorem RowsAt.same {mk : List V → HO} {H H' : Hp} {l : Addr} {as : List (Addr × Addr × Addr)} {ts : List Th} (x : RowsAt mk H l as ts) (s : Same H H') : RowsAt mk H' l as ts :=
  ⟨s _ _ x.top, x.len, fun k a t h1 h2 => by obtain ⟨e1, e2, e3⟩ := x.row k a t h1 h2; exact ⟨s _ _ e1, s _ _ e2, s _ _ e3⟩⟩
abbrev Tag := Nat × Nat × Nat
def Tagged (g : Addr → Tag) (y : Nat) (as : List (Addr × Addr × Addr)) : Prop := ∀ (k : Nat) (a : Addr × Addr × Addr), as[k]? = some a → g a.2.1 = (2 + y, k, 1) ∧ g a.2.2 = (2 + y, k, 2)
theorem RowsAt.fr {H H' : Hp} {l : Addr} {as : List (Addr × Addr × Addr)} {ts : List Th} {M : Addr → Prop} {g : Addr → Tag} {y : Nat} (x : RowsAt HO.lst H l as ts) (f : Fr M H H') (tg : Tagged g y as) (h1 : ¬ M l) (h2 : ∀ q, (g q).1 = 2 + y → ¬ M q) : RowsAt HO.lst H' l as ts :=
  ⟨f.keep _ _ x.top h1, x.len, fun k a t ha ht => by
    obtain ⟨e1, e2, e3⟩ := x.row k a t ha ht
    obtain ⟨g1, g2⟩ := tg k a ha
    exact ⟨f.tups _ _ e1, f.keep _ _ e2 (h2 _ (by rw [g1])), f.keep _ _ e3 (h2 _ (by rw [g2]))⟩⟩
def gset (g : Addr → Tag) (p : Addr) (t : Tag) : Addr → Tag := fun q => if q = p then t else g q
theorem gset_same {g : Addr → Tag} {p : Addr} {t : Tag} : gset g p t p = t := if_pos rfl
theorem gset_ne {g : Addr → Tag} {p q : Addr} {t : Tag} (h : q ≠ p) : gset g p t q = g q := if_neg h
theorem RowsAt.retag {H : Hp} {l p : Addr} {as : List (Addr × Addr × Addr)} {ts : List Th} {g : Addr → Tag} {y : Nat} {t : Tag} (x : RowsAt HO.lst H l as ts) (tg : Tagged g y as) (hp : H p = none) : Tagged (gset g p t) y as := fun k a ha => by
  have hl : k < ts.length := by rw [← x.len]; exact (List.getElem?_eq_some_iff.mp ha).1
  obtain ⟨e1, e2, e3⟩ := x.row k a _ ha (List.getElem?_eq_getElem hl)
  rw [gset_ne (ne_of_none e2 hp), gset_ne (ne_of_none e3 hp)]
  exact tg k a ha
theorem perm_rising {ms ns : List Int} (hp : ms.Perm ns) (hs : ms.Pairwise (· ≤ ·)) (hr : ns.Pairwise (· < ·)) : ms = ns :=
  List.Perm.eq_of_pairwise (le := (· ≤ ·)) (fun a b _ _ h1 h2 => Int.le_antisymm h1 h2) hs (hr.imp fun h => Int.le_of_lt h) hp
end L2

set_option Elab.async false
set_option linter.all false
set_option maxRecDepth 100000
namespace L2
open PySem PySem.Spec PyProof.Rows
def rEqE (neg : Bool) : R2 := fun x y H Q => ∃ l b xs, x = .ref l ∧ y = .ref b ∧ seqV H l = some xs ∧ kindV H l = some true ∧ seqV H b = some [] ∧ kindV H b = some true ∧ Q (.bl (if neg then !xs.isEmpty else xs.isEmpty)) H
theorem none_eqAt {A : Around} {s : Shared} {us : List Value} (h : us.length = 0) (ws : List Value) :
    ∀ j (h1 : j < us.toArray.size) (h2 : j < ws.toArray.size), SeqAt.EqAt A s us.toArray[j] ws.toArray[j] ((fun _ => true) j) := by
  intro j h1 h2
  simp only [List.size_toArray] at h1
  omega
section
variable {X : Cx}
theorem op_eqE (hu : X.A.units + 1 < cLine) : OpR X (compareOp .Eq) (rEqE false) := by
  intro pins s σ H x y v u Q I rx ry h
  obtain ⟨l, b, xs, rfl, rfl, h1, k1, h2, k2, q⟩ := h
  cases rx
  cases ry
  obtain ⟨us, r1, p1, z1⟩ := I.list (kindV_l (K := X.K) h1 k1)
  obtain ⟨ws, r2, p2, z2⟩ := I.list (kindV_l (K := X.K) h2 k2)
  have l1 := r1.length
  have l2 := r2.length
  cases xs with
  | nil =>
    refine SeqAt.eq_listAt p1.isList p2.isList (by simp at l1 l2 ⊢; omega) (by omega) (none_eqAt (by simpa using l1.symm) ws) ⟨.bl _, H, I, rfl, ?_⟩
    have e : (List.range us.toArray.size).all (fun _ => true) = true := by simp
    rw [e]
    exact q
  | cons x xs =>
    refine SeqAt.eq_list_lengthsAt p1.isList p2.isList (by simp at l1 l2 ⊢; omega) (by omega) ⟨.bl _, H, I, rfl, ?_⟩
    exact q
theorem op_neE (hu : X.A.units + 1 < cLine) : OpR X (compareOp .NotEq) (rEqE true) := by
  intro pins s σ H x y v u Q I rx ry h
  obtain ⟨l, b, xs, rfl, rfl, h1, k1, h2, k2, q⟩ := h
  cases rx
  cases ry
  obtain ⟨us, r1, p1, z1⟩ := I.list (kindV_l (K := X.K) h1 k1)
  obtain ⟨ws, r2, p2, z2⟩ := I.list (kindV_l (K := X.K) h2 k2)
  have l1 := r1.length
  have l2 := r2.length
  cases xs with
  | nil =>
    refine SeqAt.RcNeAt.lists p1.isList p2.isList (by simp at l1 l2 ⊢; omega) (by omega) (none_eqAt (by simpa using l1.symm) ws) _ _ _ _ ⟨.bl _, H, I, rfl, ?_⟩
    have e : (List.range us.toArray.size).all (fun _ => true) = true := by simp
    rw [e]
    exact q
  | cons x xs =>
    refine SeqAt.RcNeAt.lists_lengths p1.isList p2.isList (by simp at l1 l2 ⊢; omega) (by omega) _ _ _ _ ⟨.bl _, H, I, rfl, ?_⟩
    exact q
end
end L2

set_option Elab.async false
set_option linter.all false
set_option maxRecDepth 100000
namespace L2
open PySem PySem.Spec PyProof.Rows
section
variable {prog : Program} {w : World} {K : Type} [DecidableEq K] {knd : KeyKind prog w K} {A : Around} {E : Value → Shared → Prop} {s : Shared}
end
end L2

set_option Elab.async false
set_option linter.all false
set_option maxRecDepth 100000
namespace L2
open PySem PySem.Spec PyProof.Rows
section
variable {prog : Program} {w : World} {A : Around} {E : Value → Shared → Prop} {s : Shared} {a₀ : Array Keyed}
theorem count_up {st : SortSt} {n : Nat} {Q : Option Nat → SortSt → Prop} (h0 : IntKeys a₀) (hn : n ≤ a₀.size) (h1 : 1 ≤ n) (B : SBase a₀ st) (up : SortedTo (arrOf st) n) (q : Q (some n) st) : wpS (model prog w) A E s (countRun' 0 n) Q st := by
  rw [countRun0_eq]
  refine wpS_bind (wpS_ascLoop h0 hn (Nat.le_refl 1) h1 B (fun i j e1 e2 => by obtain rfl : i = j := (by omega); exact Int.le_refl _) fun m m1 m2 sm or => ?_)
  have em : m = n := by
    rcases or with e | e
    · exact e
    · rcases Nat.lt_or_ge m n with c | c
      · have := up (m - 1) m (by omega) c
        omega
      · omega
  subst em
  dsimp only
  rw [if_pos (by simp)]
  exact wpS_pure q
theorem minrun_le {n : Nat} (h : n ≤ 1000) : minRun' n n 0 ≤ n := by
  have key : (List.range 1001).all (fun n => decide (minRun' n n 0 ≤ n)) = true := by decide +kernel
  exact of_decide_eq_true (List.all_eq_true.mp key n (List.mem_range.mpr (by omega)))
theorem runs_up {st : SortSt} {Q : Unit → SortSt → Prop} (h0 : IntKeys a₀) (B : SBase a₀ st) (l2 : 2 ≤ a₀.size) (l1 : a₀.size ≤ 1000) (up : SortedTo (arrOf st) a₀.size)
    (q : ∀ st', arrOf st' = arrOf st → failedOf st' = none → Q () st') : wpS (model prog w) A E s sortRuns' Q st := by
  rw [sortRuns'_eq]
  refine wpS_bind (wpS_get ?_)
  dsimp only
  have mr := minrun_le l1
  simp only [B.size]
  revert mr
  generalize minRun' a₀.size a₀.size 0 = mn
  intro mr
  refine wpS_bind (wpS_mono (wpS_forRange
    (I := fun x c st2 => (x = 0 ∧ c = (none, 0) ∧ st2 = st) ∨ (1 ≤ x ∧ c = (none, a₀.size) ∧ st2 = setPending st ((pendingOf st).push (0, a₀.size, 0))))
    (Q := fun c st2 => c = (none, a₀.size) ∧ st2 = setPending st ((pendingOf st).push (0, a₀.size, 0))) ?turn ?last (.inl ⟨rfl, rfl, rfl⟩)) ?rest)
  case last =>
    rintro c st2 (⟨z, _, _⟩ | ⟨_, e1, e2⟩)
    · omega
    · exact ⟨e1, e2⟩
  case turn =>
    rintro x c st2 _ hx (⟨rfl, rfl, rfl⟩ | ⟨x1, rfl, rfl⟩)
    · dsimp only
      rw [if_neg (by omega)]
      simp only [Nat.sub_zero, Nat.zero_add]
      refine wpS_bind (count_up h0 (Nat.le_refl _) (by omega) B up ?_)
      dsimp only
      rw [if_neg (by omega)]
      refine wpS_bind (wpS_get ?_)
      have nb : (pendingOf st2).back? = none := by rw [B.pend]; rfl
      rw [nb]
      dsimp only
      exact wpS_bind (wpS_modify (wpS_pure (.inr ⟨by omega, rfl, rfl⟩)))
    · dsimp only
      rw [if_pos (Nat.le_refl _)]
      exact wpS_pure ⟨rfl, rfl⟩
  case rest =>
    rintro c st2 ⟨rfl, rfl⟩
    dsimp only
    refine wpS_bind (wpS_mono (wpS_forRange (I := fun _ c st3 => st3 = setPending st ((pendingOf st).push (0, a₀.size, 0)) ∧ c = (none, ())) (Q := fun c st3 => st3 = setPending st ((pendingOf st).push (0, a₀.size, 0)) ∧ c = (none, ())) ?_ (fun _ _ y => y) ⟨rfl, rfl⟩) ?_)
    · rintro x c st3 _ _ ⟨rfl, rfl⟩
      refine wpS_bind (wpS_get ?_)
      have one : (pendingOf (setPending st ((pendingOf st).push (0, a₀.size, 0)))).size ≤ 1 := by
        show ((pendingOf st).push (0, a₀.size, 0)).size ≤ 1
        rw [B.pend]; exact Nat.le_refl 1
      rw [if_pos one]
      exact wpS_pure ⟨rfl, rfl⟩
    · rintro c st3 ⟨rfl, rfl⟩
      exact wpS_pure (q _ rfl B.failed)
theorem zip_self (vs : List Value) : vs.toArray.zip vs.toArray = (vs.map fun v => (v, v)).toArray := by
  apply Array.toList_inj.mp
  rw [Array.toList_zip]
  show vs.zip vs = vs.map fun v => (v, v)
  induction vs with
  | nil => rfl
  | cons v r ih => rw [List.zip_cons_cons, List.map_cons, ih]
theorem K_self {vs : List Value} {ns : List Int} (hI : IntsAre vs ns) (i : Nat) (hi : i < vs.length) : K (vs.toArray.zip vs.toArray) i = ns.getD i 0 := by
  have e : (vs.toArray.zip vs.toArray)[i]? = some (vs[i], vs[i]) := by
    rw [zip_self, List.getElem?_toArray, List.getElem?_map, List.getElem?_eq_getElem hi]
    rfl
  obtain ⟨t, et⟩ := IntsAre.int_at hI i _ (List.getElem?_eq_getElem hi)
  unfold K
  rw [e]
  show numOf vs[i] = _
  rw [et]
  rfl
theorem ints_len : ∀ {vs : List Value} {ns : List Int}, IntsAre vs ns → vs.length = ns.length
  | _, _, .nil => rfl
  | _, _, .cons n t r => by rw [List.length_cons, List.length_cons, ints_len r]
theorem self_up {vs : List Value} {ns : List Int} (hI : IntsAre vs ns) (up : ns.Pairwise (· ≤ ·)) : SortedTo (vs.toArray.zip vs.toArray) vs.length := by
  intro i j hij hj
  have ln := ints_len hI
  rw [K_self hI i (by omega), K_self hI j hj]
  by_cases c : i = j
  · rw [c]; exact Int.le_refl _
  · have := List.pairwise_iff_getElem.mp up i j (by omega) (by omega) (by omega)
    rw [List.getD_eq_getElem?_getD, List.getD_eq_getElem?_getD, List.getElem?_eq_getElem (by omega), List.getElem?_eq_getElem (by omega)]
    exact this
theorem sort_up {a : Addr} {vs : List Value} {ns : List Int} {n : Nat} {R : Fin → Shared → Prop} (ho : s.heap.get? a = some (seqObj "list" vs.toArray n)) (hI : IntsAre vs ns) (l2 : 2 ≤ vs.length) (l1 : vs.length ≤ 1000) (up : ns.Pairwise (· ≤ ·))
    (q : R (.done (.ret .none)) { s with heap := sortedHeap s.heap a vs vs.toArray }) : wpAny (model prog w) A (Builtin.«list.sort» ⟨[.ref a], []⟩) R E s := by
  rw [list_sort_plain]
  have la : a < s.heap.objs.size := Heap.lt_size ho
  refine wpAny_bind (listItems_at ho rfl (wpAny_bind (listUpdate_at ho rfl ?_)))
  obtain ⟨e1, g1⟩ : ∃ e1, (s.heap.update a (Obj.mapSeq fun _ => #[])).get? a = some (seqObj "list" #[] e1) := ⟨_, get?_update_seq ho (fun _ => (#[] : Array Value))⟩
  refine wpAny_bind (seqEpoch_at g1 rfl (wpAny_bind (wpAny_newTuple (wpAny_bind (wpAny_newList (wpAny_holding ?_))))))
  have g2 : (((s.heap.update a (Obj.mapSeq fun _ => #[])).push (seqObj "tuple" vs.toArray 0)).push (seqObj "list" #[] 0)).get? a = some (seqObj "list" #[] e1) := Heap.get?_push_of_some _ (Heap.get?_push_of_some _ g1)
  show wpAny (model prog w) A _ R E { s with heap := ((s.heap.update a (Obj.mapSeq fun _ => #[])).push (seqObj "tuple" vs.toArray 0)).push (seqObj "list" #[] 0) }
  dsimp only
  have n2 : ¬ vs.toArray.size < 2 := by simp; omega
  rw [if_neg n2, if_neg n2]
  match vs, l2, hI, l1 with
  | v1 :: v2 :: r, _, hI, l1 =>
    rw [keyKind_ints hI, pure_bind]
    have sz : (pairsOf (v1 :: v2 :: r)).size = (v1 :: v2 :: r).length := pairsOf_size _
    have sorted : SortedTo (arrOf (SortSt.mk' oneType' ((v1 :: v2 :: r).toArray.zip (v1 :: v2 :: r).toArray) #[] 7 none)) (pairsOf (v1 :: v2 :: r)).size := by
      rw [sz]
      exact self_up hI up
    refine wpAny_bind (wpAny_mono (runs_up (a₀ := pairsOf (v1 :: v2 :: r)) (st := SortSt.mk' oneType' ((v1 :: v2 :: r).toArray.zip (v1 :: v2 :: r).toArray) #[] 7 none) (Q := fun _ st2 => arrOf st2 = (v1 :: v2 :: r).toArray.zip (v1 :: v2 :: r).toArray ∧ failedOf st2 = none)
      hI.intKeys ⟨Array.Perm.refl _, rfl, rfl, rfl⟩ (by rw [sz]; simp) (by rw [sz]; exact l1) sorted fun st2 b1 b2 => ⟨b1, b2⟩) ?_ fun _ _ y => y)
    rintro ⟨⟨⟩, st2⟩ s2 ⟨rfl, b1, b2⟩
    dsimp only
    have outs : (arrOf st2).map (·.2) = (v1 :: v2 :: r).toArray := by
      rw [b1, zip_self]
      simp [Function.comp_def]
    rw [outs, b2]
    refine wpAny_bind (seqEpoch_at g2 rfl (wpAny_bind (listUpdate_at g2 rfl ?_ (hsz2 := by rw [List.size_toArray, sizeLine_eq]; omega))))
    simp only [bne_self_eq_false, Bool.false_eq_true, if_false]
    exact wpAny_pure q
end
section
variable {prog : Program} {w : World} {A : Around} {E : Value → Shared → Prop} {s : Shared} {T : String} {r d : Addr} {n : Nat} {P : Nat → Value → Prop} {OK : Heap → Prop} {Q : Value → Shared → Prop}
theorem sorted_src_up (S : PySem.W.KdlSrc prog w T r d n P OK) (hh : A.handled = none) (hok : OK s.heap) (l2 : 2 ≤ n) (l1 : n ≤ 1000) (ns : List Int) (up : ns.Pairwise (· ≤ ·)) (hint : ∀ vs : List Value, vs.length = n → (∀ (j : Nat) (v : Value), vs[j]? = some v → P j v) → IntsAre vs ns)
    (h : ∀ (D : Addr) (h2 : Heap) (tk e : Nat) (out : Array Value), (∀ b o, s.heap.get? b = some o → h2.get? b = some o) → s.heap.get? D = none → h2.get? D = some (seqObj "list" out e) → IntsAre out.toList ns → Q (.ref D) { s with heap := h2, toks := tk }) :
    wpAny (model prog w) A (call (.builtin "sorted") [.ref r]) Q E s := by
  refine Calls.call_function_entry kind_sorted plain_sorted entry_sorted (args_sorted1 _) ?_
  unfold Builtin.«sorted»
  refine wpAny_bind (m := checkCount "sorted" 1 1 _) (wpAny_pure (wpAny_bind (PySem.W.kdu_collect (A := A.in1) S hh hok (by rw [sizeLine_eq]; omega) fun h1 tk acc hk hacc => ?_)))
  have ln : acc.toList.length = n := by rw [Array.length_toList]; exact hacc.1
  have hI := hint acc.toList ln fun j v e => hacc.2 j v (by rw [← Array.getElem?_toList]; exact e)
  refine wpAny_bind (wpAny_newList ?_ (by rw [ln, sizeLine_eq]; omega))
  have gL : (h1.push { cls := .type "list", data := .seq acc.toList.toArray }).get? h1.objs.size = some (seqObj "list" acc.toList.toArray 0) := Heap.get?_push_size _ rfl
  have fr : s.heap.get? h1.objs.size = none := by
    cases c : s.heap.get? h1.objs.size with
    | none => rfl
    | some o => exact absurd (Heap.lt_size (hk _ _ c)) (Nat.lt_irrefl _)
  refine wpAny_bind (wpAny_holding (wpAny_call_entry slot_list_sort ⟨_, gL, rfl⟩ entry_list_sort (sort_up gL hI (by rw [ln]; exact l2) (by rw [ln]; exact l1) up ⟨_, rfl, ?_⟩) (args_list_sort _)))
  obtain ⟨⟨e, g1⟩, g2⟩ := sortedHeap_at (out := acc.toList.toArray) gL
  exact wpAny_pure ⟨_, rfl, h _ _ _ e _ (fun b o c => g2 b o (Nat.ne_of_lt (Heap.lt_size (hk b o c))) (Heap.get?_push_of_some _ (hk b o c))) fr g1 (by simpa using hI)⟩
end
section
variable {X : Cx}
/-- sorted(d), int keys that rise, up to 1000 of them -/
theorem call_sorted_rise (hc : X.calm = true) : CallR X (.builtin "sorted") (fun xs H Q => ∃ (d : Addr) (kvs : List (Key × V)) (ns : List Int), xs = [.ref d] ∧ H d = some (.dK kvs) ∧ kvs.map (·.1) = ns.map Sum.inl ∧ ns.length ≤ 1000 ∧ ns.Pairwise (· < ·) ∧
    ∀ l, H l = none → Q (.ref l) (upd H l (.lst (ns.map V.int)))) := by
  intro pins s σ H xs us Q I r h
  obtain ⟨d, kvs, ns, e0, hd, hks, hlt, up, q⟩ := h
  by_cases c : ns.length < 64
  · exact call_sorted_dict hc pins s σ H xs us Q I r ⟨d, kvs, ns, e0, hd, hks, c, fun l ns2 hl pm ps => by
      have e := perm_rising pm ps up
      rw [e]
      exact q l hl⟩
  · subst e0
    obtain ⟨u, rfl, ru⟩ := vals1 r
    cases ru
    obtain ⟨hz, hS, vs, rk, m⟩ : kvs.length ≤ sizeLine ∧ (d == sysModules) = false ∧ ∃ vs, KV kvs vs ∧ s.heap.DictOf (mixKind X.prog X.w) d vs := I.hok d _ hd
    obtain ⟨ep, hat⟩ := m.dictAt
    have hlen : kvs.length = vs.length := Paired.length rk
    have hl2 : kvs.length = ns.length := by have := congrArg List.length hks; simpa using this
    refine sorted_src_up (PySem.W.kdl_dict (knd := mixKind X.prog X.w) (kvs := vs) (ep := ep) hS) (I.ok.hd hc) hat (by omega) (by omega) ns (up.imp fun y => Int.le_of_lt y) (fun acc h1 h2 => ?_) fun D h2 tk e out hk hD ho hI => ?_
    · have kv := keys_vals (P := X.prog) (w := X.w) rk h1 h2
      have e : (kvs.map fun p => kV p.1) = ns.map V.int := by
        have y : (kvs.map fun p => kV p.1) = (kvs.map (·.1)).map kV := by rw [List.map_map]; rfl
        rw [y, hks, List.map_map]; rfl
      rw [e] at kv
      exact intsAre_of kv
    · obtain ⟨hn, I2⟩ := I.laidN (t' := tk) (o := .lst (ns.map V.int)) hk hD ⟨by rw [List.length_map, sizeLine_eq]; omega, out.toList, e, intsAre_vals hI, by rw [Array.toArray_toList]; exact ho⟩
      exact ⟨.ref D, _, I2, rfl, q D hn⟩
end
end L2

set_option Elab.async false
set_option linter.all false
set_option maxRecDepth 100000
namespace L2
open PySem PySem.Spec PyProof.Rows
def iSeq (K : PySem.W.Frag) (tl : TE) : TI := fun σ H R => tl σ H fun x H1 => ∃ a, x = .ref a ∧ (((∃ xs, SqL K H1 a xs) ∧ R (Itl K a) H1) ∨ ((∃ xs, SqT K H1 a xs) ∧ R (Itt K a) H1))
theorem pi_seq {X : Cx} {tg l : Expr} {tl : TE} (hl : PE X l tl) : PI X tg l (iSeq X.K tl) := by
  intro pins s σ H R I h
  refine thn (hl pins s σ H _ I h) fun v s1 ⟨x, H1, I1, r1, q1⟩ => ?_
  obtain ⟨a, rfl, q1⟩ := q1
  cases r1
  have fp : ∀ b ∈ [s1.heap.objs.size], FpOk X pins H1 b := fun b hb => by
    obtain rfl : b = s1.heap.objs.size := by simpa using hb
    exact I1.fpOk (Nat.le_refl _) (I1.hok.fresh (Nat.le_refl _))
  rcases q1 with ⟨⟨xs, hq⟩, q⟩ | ⟨⟨xs, hq⟩, q⟩
  · obtain ⟨its, rv, p, hz⟩ := I1.list hq
    exact wpAny_pyIter_list p.isList ⟨s1.heap.objs.size, [s1.heap.objs.size], _, _, H1, rfl, I1.kept (t' := s1.toks) fun b o e => Heap.get?_push_of_some _ e, turn_list a _, ⟨_, Heap.get?_push_size _ rfl, rfl, rfl⟩, fp, q⟩
  · obtain ⟨its, rv, p, hz⟩ := I1.tuple hq
    exact wpAny_pyIter_tuple (show s1.heap.IsTuple a its.toArray from p) ⟨s1.heap.objs.size, [s1.heap.objs.size], _, _, H1, rfl, I1.kept (t' := s1.toks) fun b o e => Heap.get?_push_of_some _ e, turn_tuple a _, ⟨_, Heap.get?_push_size _ rfl, rfl, rfl⟩, fp, q⟩
theorem forQ {K : PySem.W.Frag} {tl : TE} {g : TG} {tb : TS} {D : Ends} {σ : St} {H H1 : Hp} (a : Addr) (xs : List V) (hr : ∀ Q, Q (.ref a) H1 → tl σ H Q) (Pv : Nat → St → Hp → Prop) (h0 : Pv 0 σ H1)
    (hl : (∀ i σ H, i ≤ xs.length → Pv i σ H → SqL K H a xs) ∨ (∀ i σ H, i ≤ xs.length → Pv i σ H → SqT K H a xs))
    (hs : ∀ i x σ H, xs[i]? = some x → Pv i σ H → g x σ H fun σ2 H2 => tb { D with nx := Pv (i + 1), ct := Pv (i + 1), bk := D.nx } σ2 H2) (hd : ∀ σ H, Pv xs.length σ H → D.nx σ H) : tFor (iSeq K tl) g tb D σ H := by
  refine hr _ ⟨a, rfl, ?_⟩
  rcases hl with hl | hl
  · exact .inl ⟨⟨xs, hl 0 σ H1 (Nat.zero_le _) h0⟩, for_list Pv h0 hl hs hd⟩
  · exact .inr ⟨⟨xs, hl 0 σ H1 (Nat.zero_le _) h0⟩, for_tup Pv h0 hl hs hd⟩
def stepO (ord : List Int) (h : Int) : List Int := if h = 0 ∨ h ∈ ord then ord else ord ++ [h]
def layO (ord hs : List Int) : List Int := hs.foldl stepO ord
theorem layO_nil {ord : List Int} : layO ord [] = ord := rfl
theorem layO_cons {ord hs : List Int} {h : Int} : layO ord (h :: hs) = layO (stepO ord h) hs := rfl
theorem layO_app {ord a b : List Int} : layO ord (a ++ b) = layO (layO ord a) b := List.foldl_append
theorem layO_snoc {ord a : List Int} {h : Int} : layO ord (a ++ [h]) = stepO (layO ord a) h := by rw [layO_app]; rfl
theorem stepO_pre {ord : List Int} {h : Int} : ord <+: stepO ord h := by
  unfold stepO
  split
  · exact List.prefix_refl _
  · exact List.prefix_append _ _
theorem layO_pre : ∀ {hs ord : List Int}, ord <+: layO ord hs
  | [], _ => List.prefix_refl _
  | h :: hs, ord => stepO_pre.trans (layO_pre (hs := hs))
theorem layO_mono {a b : List Int} (h : a <+: b) : layO [] a <+: layO [] b := by
  obtain ⟨c, rfl⟩ := h
  rw [layO_app]
  exact layO_pre
theorem mem_stepO {ord : List Int} {h x : Int} : x ∈ stepO ord h ↔ x ∈ ord ∨ (x = h ∧ h ≠ 0) := by
  unfold stepO
  split
  · rename_i c
    constructor
    · exact .inl
    · rintro (y | ⟨rfl, y⟩)
      · exact y
      · rcases c with c | c
        · exact absurd c y
        · exact c
  · rename_i c
    rw [List.mem_append, List.mem_singleton]
    constructor
    · rintro (y | y)
      · exact .inl y
      · exact .inr ⟨y, fun z => c (.inl z)⟩
    · rintro (y | ⟨y, _⟩)
      · exact .inl y
      · exact .inr y
theorem mem_layO : ∀ {hs ord : List Int} {x : Int}, x ∈ layO ord hs ↔ x ∈ ord ∨ (x ∈ hs ∧ x ≠ 0)
  | [], ord, x => by rw [layO_nil]; simp
  | h :: hs, ord, x => by
    rw [layO_cons, mem_layO, mem_stepO, List.mem_cons]
    constructor
    · rintro ((y | ⟨rfl, y⟩) | ⟨y, z⟩)
      · exact .inl y
      · exact .inr ⟨.inl rfl, y⟩
      · exact .inr ⟨.inr y, z⟩
    · rintro (y | ⟨rfl | y, z⟩)
      · exact .inl (.inl y)
      · exact .inl (.inr ⟨rfl, z⟩)
      · exact .inr ⟨y, z⟩
def thAt (ts : List Th) (z : Int) : Th := (ts.find? fun t => t.1 == z).getD (0, [], [])
def holdsAt (ts : List Th) (z : Int) : List Int := (thAt ts z).2.1
def stream (ts : List Th) (roots ord : List Int) : List Int := roots ++ ord.flatMap (holdsAt ts)
theorem stream_pre {ts : List Th} {roots a b : List Int} (h : a <+: b) : stream ts roots a <+: stream ts roots b := by
  obtain ⟨c, rfl⟩ := h
  unfold stream
  rw [List.flatMap_append, ← List.append_assoc]
  exact List.prefix_append _ _
structure Cart (ts : List Th) (roots ord : List Int) : Prop where
  fix : layO [] (stream ts roots ord) = ord
  led : ∀ n, n < ord.length → ord.take (n + 1) <+: layO [] (stream ts roots (ord.take n))
theorem Cart.one {ts : List Th} {roots o1 o2 : List Int} (c1 : Cart ts roots o1) (c2 : Cart ts roots o2) : ∀ n, n ≤ o1.length → o1.take n = o2.take n ∧ n ≤ o2.length
  | 0, _ => ⟨rfl, Nat.zero_le _⟩
  | n + 1, h => by
    obtain ⟨e, l⟩ := Cart.one c1 c2 n (by omega)
    have p1 := c1.led n (by omega)
    rw [e] at p1
    have p2 : layO [] (stream ts roots (o2.take n)) <+: o2 := by
      have := layO_mono (stream_pre (ts := ts) (roots := roots) (List.take_prefix n o2))
      rw [c2.fix] at this
      exact this
    have p := p1.trans p2
    have len : (o1.take (n + 1)).length = n + 1 := by rw [List.length_take]; omega
    have e2 := List.prefix_iff_eq_take.mp p
    rw [len] at e2
    exact ⟨e2, by have := p.length_le; omega⟩
theorem Cart.uniq {ts : List Th} {roots o1 o2 : List Int} (c1 : Cart ts roots o1) (c2 : Cart ts roots o2) : o1 = o2 := by
  obtain ⟨e1, l1⟩ := Cart.one c1 c2 _ (Nat.le_refl _)
  obtain ⟨e2, l2⟩ := Cart.one c2 c1 _ (Nat.le_refl _)
  rw [List.take_length] at e1
  have : o1.length = o2.length := by omega
  rw [this, List.take_length] at e1
  exact e1
/-- a step of either loop: what is laid is led to -/
structure Going (ts : List Th) (roots done ord : List Int) : Prop where
  is : layO [] done = ord
  pre : done <+: stream ts roots ord
  led : ∀ n, n < ord.length → ord.take (n + 1) <+: layO [] (stream ts roots (ord.take n))
theorem Going.nil {ts : List Th} {roots : List Int} : Going ts roots [] [] := ⟨rfl, List.nil_prefix, fun n h => by simp at h⟩
theorem Going.step {ts : List Th} {roots done ord : List Int} (g : Going ts roots done ord) {h : Int} (hp : done ++ [h] <+: stream ts roots ord) : Going ts roots (done ++ [h]) (stepO ord h) := by
  have e : layO [] (done ++ [h]) = stepO ord h := by rw [layO_snoc, g.is]
  refine ⟨e, hp.trans (stream_pre stepO_pre), fun n hn => ?_⟩
  unfold stepO at hn ⊢
  split at hn
  · rename_i c
    rw [if_pos c]
    exact g.led n hn
  · rename_i c
    rw [if_neg c]
    rw [List.length_append, List.length_singleton] at hn
    by_cases d : n < ord.length
    · rw [List.take_append_of_le_length (by omega), List.take_append_of_le_length (by omega)]
      exact g.led n d
    · have en : n = ord.length := by omega
      rw [en, List.take_of_length_le (by rw [List.length_append]; simp), List.take_append_of_le_length (Nat.le_refl _), List.take_length]
      have := layO_mono hp
      rw [e] at this
      unfold stepO at this
      rw [if_neg c] at this
      exact this
theorem Going.done {ts : List Th} {roots ord : List Int} (g : Going ts roots (stream ts roots ord) ord) : Cart ts roots ord := ⟨g.is, g.led⟩
end L2

set_option Elab.async false
set_option linter.all false
set_option maxRecDepth 100000
namespace L2
open PySem PySem.Spec PyProof.Rows
def Ite (K : PySem.W.Frag) (l : Addr) : It :=
  ⟨fun i H => ∃ xs x, SqL K H l xs ∧ xs[i]? = some x,
   fun i H v H' => ∃ p x, v = .ref p ∧ H p = none ∧ H' = upd H p (.tup [.int i, x]) ∧ ∀ xs, SqL K H l xs → xs[i]? = some x,
   fun i H => ∃ xs, SqL K H l xs ∧ xs.length ≤ i⟩
structure EnSt (e it l : Addr) (i : Nat) (h : Heap) : Prop where
  e : ∃ old, IsEnum h e it i old
  h1 : h.IsListIter it l i
theorem turn_enum {P : Program} {w : World} {K : PySem.W.Frag} {es : List Expr} {tk : Nat} {tpos : Pos} (e it l : Addr) (ne : e ≠ it) : Turn P w K (.Tuple es tk tpos) (Ite K l) [e, it] e (EnSt e it l) where
  mem := by simp
  obj := fun i h st b hb => by
    simp only [List.mem_cons, List.not_mem_nil, or_false] at hb
    rcases hb with rfl | rfl
    · obtain ⟨old, g⟩ := st.e
      exact ⟨_, g, fun v z => by cases (show Data.fields _ = Data.cell v from z)⟩
    · obtain ⟨o, g, _, d⟩ := st.h1
      exact ⟨o, g, fun v z => by rw [d] at z; cases z⟩
  keep := fun i h h' st k => by
    obtain ⟨old, g⟩ := st.e
    exact ⟨⟨old, k e (by simp) _ g⟩, st.h1.at fun o g => k it (by simp) o g⟩
  item := by
    intro X hP hw hK hc i pins s σ H E I hf st hg
    subst hP hw hK
    obtain ⟨xs, x, hq, hx⟩ := hg
    obtain ⟨us, r1, p1, z1⟩ := I.list hq
    obtain ⟨u, eu, ru⟩ := r1.get hx
    obtain ⟨old, ge⟩ := st.e
    refine wpAny_pyNext_enum_item ge st.h1 p1.isList (x := u) (by simpa using eu) ne fun h' a1 a2 a3 a4 a5 => ?_
    refine ⟨_, rfl, wpAny_letOwnedTupleGo_enum a1 fun h2 b1 b2 => ?_⟩
    have lt1 : e < s.heap.objs.size := Heap.lt_size ge
    have lt2 : it < s.heap.objs.size := by obtain ⟨o, g, _⟩ := st.h1; exact Heap.lt_size g
    have hlt : ∀ c ∈ [e, it], c < s.heap.objs.size := fun c hc => by
      simp only [List.mem_cons, List.not_mem_nil, or_false] at hc
      rcases hc with rfl | rfl
      · exact lt1
      · exact lt2
    have kk : ∀ b o, b ∉ [e, it] → s.heap.get? b = some o → h2.get? b = some o := fun b o hb g => by
      simp only [List.mem_cons, List.not_mem_nil, or_false, not_or] at hb
      exact b2.extBut b o hb.1 (a5 b o hb.1 hb.2 g)
    have gp := b2.extBut _ _ (Nat.ne_of_gt lt1) a3
    have hn : H s.heap.objs.size = none := I.hok.fresh (Nat.le_refl _)
    have nit : ∀ b u, H b = some u → b ∉ [e, it] := fun b u g w => by rw [(hf b w).1] at g; cases g
    have hL : X.env.locals ∉ [e, it] := fun w => (hf _ w).2.1 rfl
    have I2 : Inv X pins σ (upd H s.heap.objs.size (.tup [.int i, x])) { s with heap := h2, toks := s.toks + 1 } := by
      refine I.step (g' := s.gens) (d' := s.drawn) (t' := s.toks + 1) (ch := [e, it]) (fun b hb => ⟨(hf b hb).2.2.2.1, (hf b hb).2.1, (hf b hb).2.2.2.2.1, (hf b hb).2.2.2.2.2⟩) (fun b o _ _ hc g _ => kk b o hc g) (fun b o _ _ hc g _ => ⟨o.slots, kk b o hc g⟩)
        (fun b o _ g n => by rw [upd_ne (Nat.ne_of_lt (Heap.lt_size g))]; exact n) (fun b o hc g => ⟨o, kk b o hc g⟩) (fun _ _ g => upd_old g hn) (fun _ _ _ g => upd_old g hn) (fun b ps g => ⟨#[], by rw [upd_old g hn]; simp⟩) (fun m hm => ?_) (fun b w g => ?_) I.bare
      · obtain ⟨o, es, ep, ho, r⟩ := hm
        exact ⟨o, es, ep, kk _ o hL ho, r⟩
      · by_cases hb : b = s.heap.objs.size
        · subst hb
          rw [upd_same] at g
          cases g
          exact ⟨by rw [sizeLine_eq]; show 2 ≤ 16777216; decide, [.int i s.toks, u], .cons ⟨_, rfl⟩ (.cons ru .nil), ⟨_, gp, rfl, _, rfl⟩⟩
        · rw [upd_ne hb] at g
          refine (I.hok b w g).stay (fun c v hc q => kk c v ?_ q) (fun _ q => upd_old q hn) fun _ _ q => upd_old q hn
          rcases hc with t | t
          · rw [t]; exact nit b w g
          · exact nit c _ t
    refine ⟨.ref s.heap.objs.size, _, I2, rfl, ⟨_, x, rfl, hn, rfl, fun zs hz => by rw [I.list_inj hz hq]; exact hx⟩, ⟨⟨u, by have := b1; simpa using this⟩, a2.extBut b2.extBut ne.symm⟩, fun b hb => ?_⟩
    rw [upd_ne (Nat.ne_of_lt (hlt b hb))]
    exact (hf b hb).1
  done := by
    intro X hP hw hK hc i pins s σ H E I hf st hg
    subst hP hw hK
    obtain ⟨xs, hq, hor⟩ := hg
    obtain ⟨us, r1, p1, z1⟩ := I.list hq
    obtain ⟨old, ge⟩ := st.e
    have ln := r1.length
    refine wpAny_pyNext_enum_end (I.ok.hd hc) ge st.h1 p1.isList (by simp; omega) fun h' kk => ⟨rfl, I.turnedL (t' := s.toks) (ch := [e, it]) (fun b o hb g => ?_) hf⟩
    simp only [List.mem_cons, List.not_mem_nil, or_false, not_or] at hb
    exact kk b o hb.2 g
  self := fun _ _ _ _ _ st h => by
    obtain ⟨old, ge⟩ := st.e
    exact wpAny_pyIter_enum ge h
section
variable {X : Cx}
def iEnum (K : PySem.W.Frag) (ta : TA) : TI := fun σ H R => ta σ H fun vs H1 => ∃ l, vs = [.ref l] ∧ (∃ xs, SqL K H1 l xs) ∧ R (Ite K l) H1
theorem pi_enum {es : List Expr} {tk : Nat} {tpos : Pos} {a : Expr} {ta : TA} {p pos : Pos} (hg : Gl X "enumerate") (hm : X.mg "enumerate" = none) (ha : PA X [a] ta) (hs : starEach [a] X.env = [(false, eval a X.env)] := by rfl) (hs2 : starEach [] X.env = [] := by rfl) :
    PI X (.Tuple es tk tpos) (.Call (.Name "enumerate" p) [a] [] pos) (iEnum X.K ta) := by
  intro pins s σ H R I h
  refine Call_ (ld_blt I hg hm boot_enumerate (PyProof.Rows.callWith_type1 (thn (ha pos pins s σ H _ I h) fun us s1 ⟨vs, H1, I1, r1, q1⟩ => ?_) (by rw [hs, hs2]) (by rw [hs2]; rfl)))
  obtain ⟨l, rfl, ⟨xs, hq⟩, q⟩ := q1
  obtain ⟨u1, rfl, ru1⟩ := vals1 r1
  cases ru1
  obtain ⟨us, rv, p1, z1⟩ := I1.list hq
  refine call_enumerate_list p1.isList fun h2 g1 g2 g3 g4 => wpAny_pyIter_enum g1 ?_
  refine ⟨_, [s1.heap.objs.size + 1, s1.heap.objs.size], _, _, H1, rfl, I1.kept (t' := s1.toks) g4, turn_enum _ _ l (Nat.ne_of_gt (Nat.lt_succ_self _)), ⟨⟨_, g1⟩, g2⟩, fun b hb => ?_, q⟩
  have hb2 : s1.heap.objs.size ≤ b := by
    simp only [List.mem_cons, List.not_mem_nil, or_false] at hb
    rcases hb with rfl | rfl
    · exact Nat.le_add_right _ _
    · exact Nat.le_refl _
  exact I1.fpOk hb2 (I1.hok.fresh hb2)
end
theorem forE {K : PySem.W.Frag} {ta : TA} {g : TG} {tb : TS} {D : Ends} {σ : St} {H H1 : Hp} (l : Addr) (xs : List V) (hr : ∀ Q, Q [.ref l] H1 → ta σ H Q) (Pv : Nat → St → Hp → Prop) (h0 : Pv 0 σ H1) (hl : ∀ i σ H, i ≤ xs.length → Pv i σ H → SqL K H l xs)
    (hs : ∀ i x p σ H, xs[i]? = some x → Pv i σ H → H p = none → g (.ref p) σ (upd H p (.tup [.int i, x])) fun σ2 H2 => tb { D with nx := Pv (i + 1), ct := Pv (i + 1), bk := D.nx } σ2 H2) (hd : ∀ σ H, Pv xs.length σ H → D.nx σ H) : tFor (iEnum K ta) g tb D σ H := by
  refine hr _ ⟨l, rfl, ⟨xs, hl 0 σ H1 (Nat.zero_le _) h0⟩, fun i m σ H => m = xs.length - i ∧ i ≤ xs.length ∧ Pv i σ H, ⟨xs.length, by simp, Nat.zero_le _, h0⟩, ?_⟩
  rintro i m σ H ⟨rfl, hi, p⟩
  have q := hl i σ H hi p
  by_cases c : i < xs.length
  · refine .inr ⟨⟨xs, xs[i], q, List.getElem?_eq_getElem c⟩, Pv (i + 1), fun σ' H' p' => ⟨xs.length - (i + 1), by omega, rfl, c, p'⟩, fun x H' y => ?_⟩
    obtain ⟨pp, x', rfl, hn, rfl, hx⟩ := y
    exact hs i x' pp σ H (hx xs q) p hn
  · have e : i = xs.length := by omega
    subst e
    exact .inl ⟨⟨xs, q, Nat.le_refl _⟩, hd _ _ p⟩
end L2

set_option Elab.async false
set_option linter.all false
set_option maxRecDepth 100000
namespace PySem
namespace F
end F
/-- what a walk of a set finds at its place i, and where it stands then -/
structure SetWalked (w : World) (a : Addr) (es : Array (Int × Value)) (ep : Nat) (t : SetTable) : Prop where
  fits : t.fits es.size = true
  plain : t.plain = true
  led : t.led = !w.params.followText "set-order"
  rise : ∀ i j, i < j → j < es.size → t.place.getD i 0 < t.place.getD j 0
end PySem
namespace PySem
section
variable {prog : Program} {w : World} {A : Around} {E : Value → Shared → Prop} {s : Shared}
end
end PySem
namespace PySem
end PySem
namespace PySem
section
variable {prog : Program} {w : World} {A : Around} {E : Value → Shared → Prop} {s : Shared}
end
end PySem
namespace PySem
section
variable {prog : Program} {w : World} {A : Around} {R : Result → Shared → Prop} {I : Addr} {fp wr : List Addr} {G : Array GenState → Array GenState → Prop} {n : Nat} {P : Nat → Value → Prop} {St : Nat → Shared → Prop}
end
section
variable {prog : Program} {w : World} {A : Around} {E : Value → Shared → Prop} {s : Shared}
end
end PySem

namespace PySem.W
section
variable {prog : Program} {w : World} {A : Around} {E : Value → Shared → Prop} {s : Shared} {r : Addr} {Q : Bool → Shared → Prop}
end
end PySem.W

set_option Elab.async false
set_option linter.all false
set_option maxRecDepth 100000
namespace L2
open PySem PySem.Spec PyProof.Rows
/-- a set of ints at a that holds just ns -/
def SetO (w : World) (a : Addr) (ns : List Int) : HO := .ext fun h => ∃ es ep t ms, h.get? a = some { cls := .type "set", data := .set es ep t } ∧ SetWalked w a es ep t ∧ IntsAre (es.toList.map (·.2)) ms ∧ ms.Perm ns
section
variable {X : Cx}
end
end L2

set_option Elab.async false
set_option linter.all false
set_option maxRecDepth 100000
namespace L2
open PySem PySem.Spec PyProof.Rows
inductive RepD (H : Hp) : V → PyData → Prop
  | non : RepD H .non .none
  | bl (b : Bool) : RepD H (.bl b) (.bool b)
  | int (i : Int) : RepD H (.int i) (.int i)
  | str (x : Str) : RepD H (.str x) (.str x)
  | lst {p : Addr} {vs : List V} {ds : List PyData} : H p = some (.lst vs) → vs.length = ds.length → (∀ (i : Nat) (v : V) (d : PyData), vs[i]? = some v → ds[i]? = some d → RepD H v d) → RepD H (.ref p) (.list ds)
  | tup {p : Addr} {vs : List V} {ds : List PyData} : H p = some (.tup vs) → vs.length = ds.length → (∀ (i : Nat) (v : V) (d : PyData), vs[i]? = some v → ds[i]? = some d → RepD H v d) → RepD H (.ref p) (.tuple ds)
theorem readsAll {h : Heap} : ∀ {vs : List V} {its : List Value} {ds : List PyData}, Vals vs its → vs.length = ds.length → (∀ (i : Nat) (v : V) (d : PyData) (u : Value), vs[i]? = some v → ds[i]? = some d → RelV v u → ∃ as, Reads h u d as) → ∃ as, ReadsAll h its ds as
  | [], _, [], .nil, _, _ => ⟨_, .nil⟩
  | [], _, _ :: _, .nil, l, _ => by simp at l
  | v :: vs, u :: its, [], .cons _ _, l, _ => by simp at l
  | v :: vs, u :: its, d :: ds, .cons r t, l, k => by
    obtain ⟨as, h1⟩ := k 0 v d u rfl rfl r
    obtain ⟨bs, h2⟩ := readsAll t (by simpa using l) fun i v d u a b c => k (i + 1) v d u (by simpa using a) (by simpa using b) c
    exact ⟨_, .cons h1 h2⟩
theorem RepD.reads {P : Program} {w : World} {H : Hp} {h : Heap} (hok : HOk P w H h) {v : V} {d : PyData} (r : RepD H v d) : ∀ {u : Value}, RelV v u → ∃ as, Reads h u d as := by
  induction r with
  | non => intro u e; cases e; exact ⟨_, .none⟩
  | bl b => intro u e; cases e; exact ⟨_, .bool b⟩
  | int i => intro u e; obtain ⟨t, rfl⟩ := e; exact ⟨_, .int i t⟩
  | str x => intro u e; obtain ⟨t, rfl⟩ := e; exact ⟨_, .str x t⟩
  | @lst p vs ds hp l _ ih =>
    intro u e
    cases e
    obtain ⟨_, its, n, rv, g⟩ := hok p _ hp
    obtain ⟨as, ra⟩ := readsAll (h := h) rv l fun i v d u a b c => ih i v d a b c
    exact ⟨_, .list g rfl rfl ra⟩
  | @tup p vs ds hp l _ ih =>
    intro u e
    cases e
    obtain ⟨_, its, rv, g⟩ := hok p _ hp
    obtain ⟨o, g1, g2, n, g3⟩ := g
    obtain ⟨as, ra⟩ := readsAll (h := h) rv l fun i v d u a b c => ih i v d a b c
    exact ⟨_, .tuple g1 g2 g3 ra⟩
def rEqP (neg : Bool) : R2 := fun x y H Q => ∃ dx dy, RepD H x dx ∧ RepD H y dy ∧ SeqAt.shaped dx = true ∧ SeqAt.shaped dy = true ∧ Q (.bl (if neg then !PyData.eqv dx dy else PyData.eqv dx dy)) H
section
variable {X : Cx}
theorem op_neP (hu : X.A.units + 64 < cLine) : OpR X (compareOp .NotEq) (rEqP true) := by
  intro pins s σ H x y v u Q I rx ry h
  obtain ⟨dx, dy, r1, r2, s1, s2, q⟩ := h
  obtain ⟨as, q1⟩ := r1.reads I.hok rx
  obtain ⟨bs, q2⟩ := r2.reads I.hok ry
  exact SeqAt.compareNe_shaped q1 q2 s1 s2 hu ⟨.bl _, H, I, rfl, q⟩
end
section
variable {X : Cx} {K : PySem.W.Frag}
theorem pi_listK {tg l : Expr} {tl : TE} (hk : X.K = K) (hl : PE X l tl) : PI X tg l (iList K tl) := by subst hk; exact pi_list hl
theorem call_list_ofK (hk : X.K = K) : CallR X (.type "list") (fun xs H Q => ∃ p ys, xs = [.ref p] ∧ (SqL K H p ys ∨ SqT K H p ys) ∧ ∀ l, H l = none → Q (.ref l) (upd H l (.lst ys))) := by subst hk; exact call_list_of
end
end L2

set_option Elab.async false
set_option linter.all false
set_option maxRecDepth 100000
namespace L2
open PySem PySem.Spec PyProof.Rows
section
variable {prog : Program} {w : World} {A : Around} {E : Value → Shared → Prop} {s : Shared} {a : Addr} {D : List (Str × V)} {k : Str} {tk : Tok}
end
section
variable {X : Cx} {o i e : Expr} {pos apos cpos : Pos} {td ty : TE} {K : PySem.W.Frag}
end
end L2

set_option Elab.async false
set_option linter.all false
set_option maxRecDepth 100000
namespace L2
open PySem PySem.Spec PyProof.Rows
section
variable {X : Cx}
end
end L2

set_option Elab.async false
set_option linter.all false
set_option maxRecDepth 100000
namespace L2
open PySem PySem.Spec PyProof.Rows
section
variable {X : Cx}
end
end L2

set_option Elab.async false
set_option linter.all false
set_option maxRecDepth 100000
namespace L2
open PySem PySem.Spec PyProof.Rows
section
variable {X : Cx} {es : List Expr} {t te : TA} {s : Str} {i : Int} {j : Nat} {p : Pos}
end
section
variable {X : Cx} {e : Expr} {te : TE} {p p1 p2 pos cpos : Pos} {j : Nat} {K : PySem.W.Frag}
end
end L2

set_option Elab.async false
set_option linter.all false
set_option maxRecDepth 100000
namespace L2
open PySem PySem.Spec PyProof.Rows
section
variable {prog : Program} {w : World} {A : Around}
end
section
variable {X : Cx} {e : Expr} {te : TE} {p p1 p2 p3 p4 pos : Pos} {j : Nat} {K : PySem.W.Frag}
end
section
variable {X : Cx}
end
end L2

set_option Elab.async false
set_option linter.all false
set_option maxRecDepth 100000
namespace L2
open PySem PySem.Spec PyProof.Rows
section
variable {prog : Program} {w : World} {A : Around}
end
end L2

set_option Elab.async false
set_option linter.all false
set_option maxRecDepth 100000
namespace L2
open PySem PySem.Spec PyProof.Rows
section
variable {X : Cx} {e1 e2 : Expr} {ta : TA} {p p1 pos pos1 : Pos} {K : PySem.W.Frag}
end
end L2

set_option Elab.async false
set_option linter.all false
namespace L2
open PySem
section
variable {X : Cx}
end
end L2

set_option Elab.async false
set_option linter.all false
set_option maxRecDepth 100000
namespace L2
open PySem PySem.Spec PyProof.Rows
section
variable {prog : Program} {w : World} {A : Around}
end
section
variable {X : Cx}
end
end L2

set_option Elab.async false
set_option linter.all false
set_option maxRecDepth 100000
namespace HT
open PySem PySem.Spec PyProof.Rows
section
variable {prog : Program} {w : World} {A : Around} {E : Value → Shared → Prop} {s : Shared}
end
end HT
namespace L2
open PySem PySem.Spec PyProof.Rows
section
variable {X : Cx}
end
inductive All2 {α β : Type} (R : α → β → Prop) : List α → List β → Prop
  | nil : All2 R [] []
  | cons {a b as bs} (h : R a b) (t : All2 R as bs) : All2 R (a :: as) (b :: bs)
namespace All2
variable {α β : Type} {R S : α → β → Prop}
theorem len {as : List α} {bs : List β} (h : All2 R as bs) : as.length = bs.length := by
  induction h with
  | nil => rfl
  | cons _ _ ih => simp [ih]
theorem imp (f : ∀ a b, R a b → S a b) {as : List α} {bs : List β} (h : All2 R as bs) : All2 S as bs := by
  induction h with
  | nil => exact .nil
  | cons h _ ih => exact .cons (f _ _ h) ih
theorem append {as as' : List α} {bs bs' : List β} (h : All2 R as bs) (h' : All2 R as' bs') : All2 R (as ++ as') (bs ++ bs') := by
  induction h with
  | nil => exact h'
  | cons h _ ih => exact .cons h ih
theorem take {as : List α} {bs : List β} (h : All2 R as bs) : ∀ n, All2 R (as.take n) (bs.take n) := by
  induction h with
  | nil => intro n; simp; exact .nil
  | cons h _ ih =>
    intro n
    cases n with
    | zero => exact .nil
    | succ n => exact .cons h (ih n)
theorem drop {as : List α} {bs : List β} (h : All2 R as bs) : ∀ n, All2 R (as.drop n) (bs.drop n) := by
  induction h with
  | nil => intro n; simp; exact .nil
  | cons h t ih =>
    intro n
    cases n with
    | zero => exact .cons h t
    | succ n => exact ih n
theorem get {as : List α} {bs : List β} (h : All2 R as bs) : ∀ (i : Nat) (a : α) (b : β), as[i]? = some a → bs[i]? = some b → R a b := by
  induction h with
  | nil => intro i a b e; simp at e
  | cons h _ ih =>
    intro i a b e1 e2
    cases i with
    | zero => cases e1; cases e2; exact h
    | succ i => exact ih i a b e1 e2
theorem rep {a : α} {b : β} (h : R a b) : ∀ n, All2 R (List.replicate n a) (List.replicate n b)
  | 0 => .nil
  | n + 1 => .cons h (rep h n)
theorem mem {as : List α} {bs : List β} (h : All2 R as bs) {a : α} (m : a ∈ as) : ∃ b ∈ bs, R a b := by
  induction h with
  | nil => cases m
  | cons h _ ih =>
    rcases List.mem_cons.mp m with rfl | m
    · exact ⟨_, List.mem_cons_self, h⟩
    · obtain ⟨b, mb, r⟩ := ih m
      exact ⟨b, List.mem_cons_of_mem _ mb, r⟩
end All2
end L2

set_option Elab.async false
set_option linter.all false
set_option maxRecDepth 100000
namespace L2
open PySem PySem.Spec PyProof.Rows
section
variable {X : Cx} {CX : CXT} {k : Nat} {E : XK} {p pos spos : Pos} {e i o : Expr} {es : List Expr} {tk : TE} {t : TA} {g : Addr}
end
end L2

set_option Elab.async false
set_option linter.all false
set_option maxRecDepth 100000
namespace HT
open PySem PySem.Spec PyProof.Rows
end HT
namespace L2
open PySem PySem.Spec PyProof.Rows
section
variable {X : Cx}
end
end L2

set_option Elab.async false
set_option linter.all false
set_option maxRecDepth 100000
namespace HT
open PySem PySem.Spec PyProof.Rows PySem.W
section
variable {prog : Program} {w : World} {A : Around} {E : Value → Shared → Prop} {h : Heap} {g : Array GenState} {d : Drawn} {t : Nat} {os : OsState} {a C : Addr} {o : Obj} {K : Frag}
/-- what an exception's class is, by K -/
def xcOk (K : Frag) (C : Addr) : Bool := findIn K (.ref C) "__getattribute__" == some (some (.builtin "BaseException.__getattribute__")) && findIn K (.ref C) "__getattr__" == some none && findIn K (.ref C) "__class__" == some (some (.builtin "object.__class__")) &&
  mroIn K C (.type "object") == some true && mroIn K C (.type "BaseException") == some true && (clsIn K C).isSome && typeIn K (.ref C) == some (.type "type") && instIn K (.ref C) (.type "type") == some true
structure XcOk (K : Frag) (C : Addr) : Prop where
  ga : findIn K (.ref C) "__getattribute__" = some (some (.builtin "BaseException.__getattribute__"))
  gn : findIn K (.ref C) "__getattr__" = some none
  cl : findIn K (.ref C) "__class__" = some (some (.builtin "object.__class__"))
  ob : mroIn K C (.type "object") = some true
  be : mroIn K C (.type "BaseException") = some true
  cd : (clsIn K C).isSome = true
  ty : typeIn K (.ref C) = some (.type "type")
  tt : instIn K (.ref C) (.type "type") = some true
theorem xcOk_of (e : xcOk K C = true) : XcOk K C := by
  unfold xcOk at e
  simp only [Bool.and_eq_true, beq_iff_eq] at e
  obtain ⟨⟨⟨⟨⟨⟨⟨e1, e2⟩, e3⟩, e4⟩, e5⟩, e6⟩, e7⟩, e8⟩ := e
  exact ⟨e1, e2, e3, e4, e5, e6, e7, e8⟩
theorem exc_type {M : Model} (hx : h.get? a = some o) (hc : o.cls = .ref C) : Looks M h (typeOf (.ref a)) (.ref C) := hc ▸ (Looks.ld hx).andThen .now
theorem xclass_get {R : Result → Shared → Prop} {tp : Value} (X : K.In h) (k : XcOk K C) (hx : h.get? a = some o) (hc : o.cls = .ref C) (hq : R (.ok (.ret (.ref C))) ⟨h, g, d, t, os⟩) :
    codeAny (model prog w) A (.call (.builtin "getset_descriptor.__get__") ⟨[.builtin "object.__class__", .ref a, tp], []⟩) R ⟨h, g, d, t, os⟩ := by
  have L0 := exc_type (M := model prog w) hx hc
  have L1 : Looks (model prog w) h (isSubtype (.ref C) (.type (".".intercalate ("object.__class__".cutAt '.').dropLast))) true := by rw [F.owner_object_class]; exact looks_mroIn (M := model prog w) X k.ob
  have hT5 : (⟨h, g, d, t, os⟩ : Shared).TypeIs (.builtin "object.__class__") "getset_descriptor" := F.typeOf_object_class
  refine codeAny_call_builtin F.slot_gs_get.plain F.entry_gs_get (F.slot_gs_get.check _ _ _ _ _ _ _ _ hT5 (F.args_gs_get _ _ _) ?_)
  repeat (any_goals (first | assumption | (with_reducible refine L0.at ?_) | (with_reducible refine L1.at ?_) | (with_reducible refine wpAny_loadPart_at hx ?_; rw [hc]) | wp_step))
  refine ⟨Code.quiet_builtin _ (by decide +kernel), codeAny_builtin F.entry_object_class ?_⟩
  repeat (any_goals (first | assumption | (with_reducible refine L0.at ?_) | (with_reducible refine wpAny_loadPart_at hx ?_; rw [hc]) | wp_step))
theorem xclass_entry {tk : Tok} {Q : Fin → Shared → Prop} (X : K.In h) (k : XcOk K C) (hx : h.get? a = some o) (hc : o.cls = .ref C) (hq : Q (.done (.ret (.ref C))) ⟨h, g, d, t, os⟩) :
    wpAny (model prog w) A (Builtin.«object.__getattribute__» ⟨[.ref a, .str "__class__" tk], []⟩) Q E ⟨h, g, d, t, os⟩ := by
  have L0 := exc_type (M := model prog w) hx hc
  have L1 := looks_findIn (M := model prog w) X k.cl
  have f5 := F.typeOf_object_class
  have f6 := F.slot_gs_get.lookup
  have f7 := F.slot_gs_set.lookup
  repeat (any_goals (first | assumption | (with_reducible refine L0.at ?_) | (with_reducible refine L1.at ?_) | (with_reducible refine wpAny_loadPart_at hx ?_; rw [hc]) | wp_step))
  refine xclass_get X k hx hc ?_
  repeat (any_goals (first | assumption | wp_step))
theorem xclass_call {tk : Tok} {R : Result → Shared → Prop} (X : K.In h) (k : XcOk K C) (hx : h.get? a = some o) (hc : o.cls = .ref C) (hq : R (.ok (.ret (.ref C))) ⟨h, g, d, t, os⟩) :
    codeAny (model prog w) A (.call (.builtin "BaseException.__getattribute__") ⟨[.ref a, .str "__class__" tk], []⟩) R ⟨h, g, d, t, os⟩ := by
  have hk : builtinKind "BaseException.__getattribute__" = some .slot := by decide +kernel
  have hsplit : splitId "BaseException.__getattribute__" = some ("BaseException", "__getattribute__") := by decide +kernel
  have ha := F.args_bexc_ga (.ref a) (.str "__class__" tk)
  have L0 := exc_type (M := model prog w) hx hc
  have L1 := looks_mroIn (M := model prog w) X k.be
  refine codeAny_call_builtin (by decide +kernel) F.entry_bexc_ga ?_
  simp only [checkBuiltinCall, hk, hsplit]
  refine wpAny_bind ?_
  unfold isInstance
  repeat (any_goals (first | (with_reducible exact xclass_entry X k hx hc hq) | (with_reducible refine L0.at ?_) | (with_reducible refine L1.at ?_) | (with_reducible refine wpAny_loadPart_at hx ?_; rw [hc]) | wp_step))
theorem xga_bind (self : Value) : bindSpecial (.builtin "BaseException.__getattribute__") self = pure (.builtin "BaseException.__getattribute__", [self]) := by
  have hop : withoutEnding? "BaseException.__getattribute__" "#opaque" = none := by decide +kernel
  have hdat : withoutEnding? "BaseException.__getattribute__" "#data" = none := by decide +kernel
  have hk : builtinKind "BaseException.__getattribute__" = some .slot := by decide +kernel
  simp only [bindSpecial, typeOf, builtinType, hop, hdat, hk]; rfl
theorem xclass_by {tk : Tok} {Q : Value → Shared → Prop} (X : K.In h) (k : XcOk K C) (hx : h.get? a = some o) (hc : o.cls = .ref C) (hq : Q (.ref C) ⟨h, g, d, t, os⟩) :
    wpAny (model prog w) A (getAttrBy (.ref a) (.str "__class__" tk) false) Q E ⟨h, g, d, t, os⟩ := by
  have L0 := exc_type (M := model prog w) hx hc
  have L1 := looks_findIn (M := model prog w) X k.ga
  have L2 := looks_findIn (M := model prog w) X k.gn
  have hx2 : (Value.builtin "BaseException.__getattribute__" == Value.builtin "object.__getattribute__") = false := by decide +kernel
  have hx1 : (onTheHeap (Value.ref C) && Value.builtin "BaseException.__getattribute__" == Value.builtin "object.__getattribute__") = false := by rw [hx2]; rfl
  have f3 := xga_bind (.ref a)
  have hx0 : (false && onTheHeap (Value.builtin "BaseException.__getattribute__")) = false := rfl
  repeat (any_goals (first | assumption | (with_reducible refine L0.at ?_) | (with_reducible refine L1.at ?_) | (with_reducible refine L2.at ?_) | (with_reducible refine wpAny_loadPart_at hx ?_; rw [hc]) | wp_step))
  refine xclass_call X k hx hc ?_
  repeat (any_goals (first | assumption | wp_step))
theorem xclass_attr {Q : Option Value → Shared → Prop} (X : K.In h) (k : XcOk K C) (hx : h.get? a = some o) (hc : o.cls = .ref C) (hq : Q (some (.ref C)) ⟨h, g, d, t + 1, os⟩) : wpAny (model prog w) A (getAttr? (.ref a) "__class__") Q E ⟨h, g, d, t, os⟩ := by
  unfold getAttr? getAttrBy?
  repeat (any_goals (first | assumption | with_reducible apply xclass_by X k hx hc | wp_step))
/-- what isinstance says of an exception -/
theorem kitx_exc (k : XcOk K C) : KitX K (.ref a) (.ref C) (fun h => ∃ o, h.get? a = some o ∧ o.cls = .ref C) where
  ty := fun _ _ _ ⟨_, h1, h2⟩ => exc_type h1 h2
  it := fun _ _ X _ => by
    have := k.cd
    unfold clsIn at this
    split at this
    · rename_i c' d' cd' sl' ho
      intro A' Q' E' s' k q
      unfold isType loadHead
      exact wpAny_bind (wpAny_loadPart (k _ _ (X _ _ ho)) (wpAny_pure q))
    · cases this
  ne := fun h tp dd its n sl X htp => by
    refine Bool.eq_false_iff.mpr fun q => ?_
    have e : C = tp := Value.ref.inj (beq_iff_eq.mp q)
    subst e
    have := k.cd
    unfold clsIn at this
    split at this
    · rename_i ho
      have := X _ _ ho
      rw [htp] at this
      cases this
    · cases this
  ca := fun {prog w A E Q s} X p q => by
    obtain ⟨h, g, d, t, os⟩ := s
    obtain ⟨o, h1, h2⟩ := p
    exact xclass_attr X k h1 h2 q
/-- the law's classes of exceptions, one above the others -/
def xTab (K : Frag) (root : Addr) (cs : List Addr) : Bool := decide cs.Nodup && cs.all fun c => xcOk K c && kitOne K (.ref c) (.type "ValueError") == some true && exmOne K (.ref c) (.ref root) == some true && cs.all fun d => kitOne K (.ref c) (.ref d) == some (decide (c = d ∨ d = root))
structure XTab (K : Frag) (root : Addr) (cs : List Addr) : Prop where
  nd : cs.Nodup
  ok : ∀ c ∈ cs, XcOk K c
  ve : ∀ c ∈ cs, kitOne K (.ref c) (.type "ValueError") = some true
  mt : ∀ c ∈ cs, exmOne K (.ref c) (.ref root) = some true
  is : ∀ c ∈ cs, ∀ d ∈ cs, kitOne K (.ref c) (.ref d) = some (decide (c = d ∨ d = root))
theorem xTab_of {root : Addr} {cs : List Addr} (e : xTab K root cs = true) : XTab K root cs := by
  unfold xTab at e
  rw [Bool.and_eq_true] at e
  obtain ⟨e1, e2⟩ := e
  rw [List.all_eq_true] at e2
  have key : ∀ c ∈ cs, xcOk K c = true ∧ kitOne K (.ref c) (.type "ValueError") = some true ∧ exmOne K (.ref c) (.ref root) = some true ∧ ∀ d ∈ cs, kitOne K (.ref c) (.ref d) = some (decide (c = d ∨ d = root)) := fun c hc => by
    have := e2 c hc
    rw [Bool.and_eq_true, Bool.and_eq_true, Bool.and_eq_true] at this
    obtain ⟨⟨⟨a1, a2⟩, a3⟩, a4⟩ := this
    rw [List.all_eq_true] at a4
    exact ⟨a1, beq_iff_eq.mp a2, beq_iff_eq.mp a3, fun d hd => beq_iff_eq.mp (a4 d hd)⟩
  exact ⟨of_decide_eq_true e1, fun c hc => xcOk_of (key c hc).1, fun c hc => (key c hc).2.1, fun c hc => (key c hc).2.2.1, fun c hc => (key c hc).2.2.2⟩
end
end HT
namespace L2
open PySem PySem.Spec PyProof.Rows
/-- an exception of class C, while it is handled -/
def excO (C ea : Addr) : HO := .ext fun h => ∃ o, h.get? ea = some o ∧ o.cls = .ref C
section
variable {X : Cx} {pins : List (Addr × Obj)} {σ : St} {H : Hp} {s : Shared}
theorem Inv.exc {ea C : Addr} {oe : Obj} {vs : Array Value} (I : Inv X pins σ H s) (he : s.heap.get? ea = some oe) (hc : oe.cls = .ref C) (hd : oe.data = .fields vs) (n0 : X.s₀.heap.get? ea = none) (hn : H ea = none) (np : ∀ p ∈ X.pn ++ pins, p.1 ≠ ea) : Inv X pins σ (upd H ea (excO C ea)) s := by
  have ne : ∀ b o, H b = some o → b ≠ ea := fun b o e z => by rw [z, hn] at e; cases e
  refine ⟨I.ok, I.os, I.bare, ⟨I.base.keep, I.base.slot, fun b o e n hx => ?_, I.base.there, fun b xs e => ?_, fun b o u e => ?_, fun b ps e => ?_⟩, I.loc, I.cell, ?_, fun x c e => ?_, fun p hp => ?_, fun b u e => ?_, I.len⟩
  · rw [upd_ne (fun z => by rw [z, n0] at e; cases e)]
    exact I.base.free b o e n hx
  · have := I.base.tups b xs e
    rw [upd_ne (ne _ _ this)]; exact this
  · have := I.base.frzs b o u e
    rw [upd_ne (ne _ _ this)]; exact this
  · obtain ⟨more, this⟩ := I.base.tbls b ps e
    exact ⟨more, by rw [upd_ne (ne _ _ this)]; exact this⟩
  · rw [upd_ne (fun z => ?_)]
    · exact I.free
    · obtain ⟨m, ⟨o, es, ep, e1, e2, _⟩, _⟩ := I.loc
      rw [z, he] at e1
      cases e1
      rw [hd] at e2; cases e2
  · rw [upd_ne (fun z => ?_)]
    · exact I.freeC x c e
    · obtain ⟨v, o, e1, e2⟩ := I.cell x c e
      rw [z, he] at e1
      cases e1
      rw [hd] at e2; cases e2
  · obtain ⟨p1, p2, p3⟩ := I.pin p hp
    exact ⟨p1, by rw [upd_ne (np p hp)]; exact p2, p3⟩
  · by_cases hb : b = ea
    · subst hb
      rw [upd_same] at e
      cases e
      exact ⟨⟨oe, he, hc⟩, ⟨oe, he⟩, fun h1 h2 ⟨o, z1, z2⟩ k => ⟨o, k o z1, z2⟩⟩
    · rw [upd_ne hb] at e
      exact (I.hok b u e).stay (fun c v _ q => q) (fun c q => by rw [upd_ne (ne _ _ q)]; exact q) fun c xs q => by rw [upd_ne (ne _ _ q)]; exact q
/-- a name goes -/
theorem gone_ok {M : Model} {A : Around} {E : Value → Shared → Prop} {i : Nat} {x : Str} {pos : Pos} {Q : Unit → Shared → Prop} (I : Inv X pins σ H s) (hN : X.N.Nodup) (hi : X.N[i]? = some x) (hk : X.env.scope.names.lookup x = some .local)
    (h : ∀ s', Inv X pins (σ.set i none) H s' → Q () s') : wpAny M A (do bindName X.env x .none; unbindBehindTheSuite X.env x pos) Q E s := by
  obtain ⟨m, hn, hl⟩ := id I.loc
  have hcls : (X.env.scope.kind == .class || (X.env.scope.kind == .module && X.env.locals != X.env.globals)) = false := by rw [I.ok.kind]; rfl
  have hiσ : i < σ.length := by rw [I.len]; exact (List.getElem?_eq_some_iff.mp hi).1
  have cne := I.cne
  have tracked : ∀ {a : Addr} {h' : Heap}, (∃ o, s.heap.get? a = some o ∧ H a = none) → Heap.SameBut a s.heap h' → HOk X.prog X.w H h' := fun {a h'} ha hs b ob e => by
    obtain ⟨_, _, hfree⟩ := ha
    refine (I.hok b ob e).stay (fun c w' hc q => (hs.2 c ?_).trans q) (fun _ q => q) fun _ _ q => q
    rintro rfl
    rcases hc with rfl | hc
    · rw [hfree] at e; cases e
    · rw [hfree] at hc; cases hc
  refine wpAny_nameGoes_keeps hk hn hcls fun h' v hn' hs => ?_
  obtain ⟨oL, _, _, hoL, _⟩ := id hn
  refine h _ ⟨I.ok, I.os, I.bare, ⟨fun b o e n hb hx => ?_, fun b o e n hb hx => ?_, I.base.free, fun b o e hx => ?_, I.base.tups, I.base.frzs, I.base.tbls⟩, ⟨_, hn', fun j y v' e1 e2 e3 => ?_⟩, fun y c e => ?_, I.free, I.freeC, fun p hp => ?_, tracked ⟨oL, hoL, I.free⟩ hs, by simpa using I.len⟩
  · exact (hs.2 b (Nat.ne_of_lt (Nat.lt_of_lt_of_le (Heap.lt_size e) I.ok.above))).trans (I.base.keep b o e n hb hx)
  · obtain ⟨sl, e1⟩ := I.base.slot b o e n hb hx
    exact ⟨sl, (hs.2 b (Nat.ne_of_lt (Nat.lt_of_lt_of_le (Heap.lt_size e) I.ok.above))).trans e1⟩
  · obtain ⟨o', e1⟩ := I.base.there b o e hx
    exact ⟨o', (hs.2 b (Nat.ne_of_lt (Nat.lt_of_lt_of_le (Heap.lt_size e) I.ok.above))).trans e1⟩
  · by_cases hj : j = i
    · subst hj
      rw [List.getElem?_set_self hiσ] at e2
      cases e2
    · rw [List.getElem?_set_ne (Ne.symm hj)] at e2
      obtain ⟨u', r', q⟩ := hl j y v' e1 e2 e3
      refine ⟨u', r', ?_⟩
      rcases q with ⟨k, e⟩ | ⟨k, c, e, z⟩
      · refine .inl ⟨k, ?_⟩
        have : y ≠ x := fun e => hj (nodup_ix hN e1 (e ▸ hi))
        simp [this, e]
      · exact .inr ⟨k, c, e, z.sameBut hs (cne y c e)⟩
  · obtain ⟨w', z⟩ := I.cell y c e
    exact ⟨w', z.sameBut hs (cne y c e)⟩
  · obtain ⟨e, n, ne, nf, d⟩ := I.pin p hp
    exact ⟨(hs.2 p.1 ne).trans e, n, ne, nf, d⟩
end
section
variable {X : Cx}
def EXs (cs : List Addr) (R : Addr → St → Hp → Prop) : St → XK := fun σ cls _ H' => ∃ C ∈ cs, cls = .ref C ∧ R C σ H'
/-- behind the handler its name is gone -/
def goneD (i : Nat) (D : Ends) : Ends := { nx := fun σ H => D.nx (σ.set i none) H, rt := D.rt, bk := fun σ H => D.bk (σ.set i none) H, ct := fun σ H => D.ct (σ.set i none) H }
/-- try: body except D as n: suite (D or a class below it is caught) -/
theorem ps_tryAs {body : List Stmt} {x n : Str} {np pos pos' : Pos} {b0 : Stmt} {suite : List Stmt} {Dr : Addr} {cs : List Addr} {i : Nat} {tb : (Addr → St → Hp → Prop) → TS} {th : TS} (xt : HT.XTab X.K Dr cs) (hg : Gl X x) (hm : X.mg x = some (.ref Dr)) (hstk : X.stack = X.env :: X.outer) (hfr : X.env.frame = some X.env.locals)
    (hN : X.N.Nodup) (hi : X.N[i]? = some n) (hk : X.env.scope.names.lookup n = some .local)
    (hb : ∀ (pn : List (Addr × Obj)) (W : Value → Shared → Prop) (R : Addr → St → Hp → Prop), PassesE X.prog X.w (X.tr pn W) (EXs cs R) → PSs (X.tr pn W) body (tb R)) (hs : ∀ e, PSs (X.hdl e) (b0 :: suite) th) (hdb : (x == ("__debug__" : Str)) = false := by decide) (hex : X.ex = [] := by rfl) :
    PS X (.Try body [.ExceptHandler (some (.Name x np)) (some n) (b0 :: suite) pos] [] [] pos') (fun D σ H => tb (fun C σ' H' => ∀ ea, H' ea = none → th (goneD i D) (σ'.set i (some (.ref ea))) (upd H' ea (excO C ea))) D σ H) := by
  intro pins s σ H D I h
  refine wpAny_Try_except ?_
  have key := hb (X.pn ++ pins) (fun e s1 => wpAny (model X.prog X.w) X.A (noteFrame e X.env) (fun _ s2 => wpAny (model X.prog X.w) X.A (setFlight e none) (fun _ s3 =>
    wpAny (model X.prog X.w) X.A (handleBy e X.env [.ExceptHandler (some (.Name x np)) (some n) (b0 :: suite) pos]) (SP X pins D) X.xe s3) X.xe s2) X.xe s1) (fun C σ' H' => ∀ ea, H' ea = none → th (goneD i D) (σ'.set i (some (.ref ea))) (upd H' ea (excO C ea))) ?_
  · refine wpAny_mono (key [] s σ H D (I.tr _) h) (fun f s1 z => ?_) fun _ _ z => z
    cases f with
    | next =>
      obtain ⟨σ1, H1, I1, q1⟩ := z
      exact wpAny_execs_nil ⟨σ1, H1, I1.untr, q1⟩
    | ret u =>
      obtain ⟨v, σ1, H1, I1, r1, q1⟩ := z
      exact ⟨v, σ1, H1, I1.untr, r1, q1⟩
    | brk =>
      obtain ⟨σ1, H1, I1, q1⟩ := z
      exact ⟨σ1, H1, I1.untr, q1⟩
    | cont =>
      obtain ⟨σ1, H1, I1, q1⟩ := z
      exact ⟨σ1, H1, I1.untr, q1⟩
  · intro pins' σ1 H1 s1 e s2 J hq
    obtain ⟨ea, t, C', B, H', rfl, os, bare, un, hok, fl, hB, C, hC, hC', hR⟩ := hq
    obtain rfl : C' = C := Value.ref.inj hC'
    have J : Inv X pins σ1 H1 s1 := J.untr
    have un : Un (frs X.stack) [] H1 H' s1.heap s2.heap := un
    have hok : HOk X.prog X.w H' s2.heap := hok
    have fl : Heap.FlyingW B (X.env :: X.outer) ea (.ref C') (.ref t) s2.heap := by rw [← hstk]; exact fl
    have frm : X.A.frames = some (X.env :: X.outer) := by rw [← hstk]; exact J.ok.frames
    refine wpAny_looks_onW frm hfr fl fun h4 held4 sm4 => ?_
    refine wpAny_landsW held4 fun h5 fl5 sm5 => ?_
    have up5 := sm4.trans sm5
    obtain ⟨J5, hok5, un5⟩ := J.flown (s' := s2) un hok os bare hB fl5.1 up5
    refine wpAny_handleBy_cons (codeAny_handlers_test ?_) (by intro z; cases z)
    have G5 : Inv (X.hdl (.ref ea)) pins σ1 H' { s2 with heap := h5 } := J5.hdl _
    refine ld_glob (X := X.hdl (.ref ea)) G5 hg hm ?_ hdb
    obtain ⟨ob, hob, hobc⟩ := fl5.there
    have LM := PySem.W.exm_one (M := model X.prog X.w) J5.kIn (HT.exc_type hob hobc) (xt.mt C' hC)
    refine LM.at ?_
    refine codeAny_handlers_suite_as ?_
    refine lands_againW fl5 fun h6 fl6 sm6 => ?_
    obtain ⟨J6, hok6, un6⟩ := J.flown (s' := s2) un hok os bare hB fl6.1 (up5.trans sm6)
    have nB := fl6.2.1
    obtain ⟨oe, vs, _, _, _, he, hce, hd, _⟩ := fl6.2.2.2
    have nfr : ea ∉ frs X.stack := fun z => by
      obtain ⟨o1, e1, d1⟩ := J6.frameData z
      rw [he] at e1
      cases e1
      exact d1 _ hd
    have new : ∀ o', s1.heap.get? ea = some o' → False := fun o' z => by
      obtain ⟨o2, e2⟩ := un.there ea o' z (by simp)
      have := hB ea o2 e2 nfr (.inr ⟨o', z⟩)
      rw [nB] at this; cases this
    have nH : H' ea = none := by
      cases z : H' ea with
      | none => rfl
      | some u =>
        obtain ⟨o2, e2⟩ := HOk.obj hok z
        have := hB ea o2 e2 nfr (.inl ⟨u, z⟩)
        rw [nB] at this; cases this
    have n0 : X.s₀.heap.get? ea = none := by
      cases z : X.s₀.heap.get? ea with
      | none => rfl
      | some o' =>
        obtain ⟨o2, e2⟩ := J.base.there ea o' z (by rw [hex]; simp)
        exact (new _ e2).elim
    have np : ∀ p ∈ X.pn ++ pins, p.1 ≠ ea := fun p hp z => by
      obtain ⟨e1, _⟩ := J.pin p hp
      rw [z] at e1
      exact (new _ e1).elim
    have K6 := (J6.exc he hce.1 hd n0 nH np).hdl (.ref ea)
    refine store_ok (X := X.hdl (.ref ea)) K6 hN hi (.inl hk) (v := .ref ea) rfl (fun s7 I7 => ?_) (.inr hk)
    refine wpAny_mono (hs (.ref ea) pins s7 _ _ (goneD i D) I7 (hR ea nH)) (fun f s8 z => ?_) fun _ _ z => False.elim z
    cases f with
    | next =>
      obtain ⟨σ8, H8, I8, q8⟩ := z
      exact gone_ok (I8.unhdl I.ok.hd) hN hi hk fun s9 I9 => ⟨_, H8, I9, q8⟩
    | ret u =>
      obtain ⟨v, σ8, H8, I8, r8, q8⟩ := z
      exact gone_ok (I8.unhdl I.ok.hd) hN hi hk fun s9 I9 => ⟨v, _, H8, I9, r8, q8⟩
    | brk =>
      obtain ⟨σ8, H8, I8, q8⟩ := z
      exact gone_ok (I8.unhdl I.ok.hd) hN hi hk fun s9 I9 => ⟨_, H8, I9, q8⟩
    | cont =>
      obtain ⟨σ8, H8, I8, q8⟩ := z
      exact gone_ok (I8.unhdl I.ok.hd) hN hi hk fun s9 I9 => ⟨_, H8, I9, q8⟩
/-- f(e, ..) whose exception is caught here -/
def tCallE (sp : Sp) (dvs : List V) (E : St → XK) (t : TA) : TE := fun σ H Q => t σ H fun vs H1 => sp (vs ++ dvs) H1 Q (E σ)
theorem pe_callE {k : Nat} {f : Addr} {fd : FuncData} {ps : List Str} {sp : Sp} {dvs : List V} {ds : List Value} {E : St → XK} {x : Str} {p pos : Pos} {e : Expr} {es : List Expr} {t : TA} (F : FnOk X.prog X.w X.K X.mg X.base (CX1 X.prog X.w) k f fd ps sp) (hr : Room k X.A) (hg : Gl X x) (hm : X.mg x = some (.ref f)) (hk : PySem.W.keepIn X.K (.ref f) = true) (hb : Binds X.K fd ps ds) (hd : Vals dvs ds) (hx : PassesE X.prog X.w X E)
    (ha : PA X (e :: es) t) (hdb : (x == ("__debug__" : Str)) = false := by decide) (he : starEach (e :: es) X.env = (false, eval e X.env) :: starEach es X.env := by rfl) (hpl : (backTo pos (starEach es X.env)).any (·.1) = false := by rfl) :
    PE X (.Call (.Name x p) (e :: es) [] pos) (tCallE sp dvs E t) := by
  intro pins s σ H Q I h
  refine wpAny_Call_Name_kw (ld_glob I hg hm ?_ hdb)
  refine PySem.W.callWith_K (h₀ := X.base) I.ok.mod.kin hk (thn (ha pos pins s σ H _ I h) fun us s1 ⟨vs, H1, I1, r, q⟩ => ⟨I1.kIn, ?_⟩) he hpl
  exact run_fnE F hr hb hd hx I1 r q
theorem vals_refsX : ∀ {ds : List Addr} {its : List Value}, Vals (ds.map V.ref) its → its = ds.map Value.ref
  | [], its, r => by cases r; rfl
  | d :: ds, its, r => by
    cases r with
    | cons r1 r2 => rw [vals_refsX r2, show _ = Value.ref d from r1]; rfl
theorem call_isX {Dr : Addr} {cs : List Addr} (xt : HT.XTab X.K Dr cs) : CallR X (.builtin "isinstance") (fun xs H Q => ∃ ea C, H ea = some (excO C ea) ∧ C ∈ cs ∧
    ((∃ D, xs = [.ref ea, .ref D] ∧ D ∈ cs ∧ Q (.bl (decide (C = D ∨ D = Dr))) H) ∨ (xs = [.ref ea, .ty "ValueError"] ∧ Q (.bl true) H) ∨ ∃ (p : Addr) (ds : List Addr), xs = [.ref ea, .ref p] ∧ H p = some (.tup (ds.map V.ref)) ∧ (∀ d ∈ ds, d ∈ cs) ∧ Q (.bl (ds.any fun d => decide (C = d ∨ d = Dr))) H)) := by
  intro pins s σ H xs us Q I r h
  obtain ⟨ea, C, hea, hC, h⟩ := h
  obtain ⟨hφ, _, _⟩ := (show ObjOk X.prog X.w H s.heap ea (excO C ea) from I.hok ea _ hea)
  have Z := HT.kitx_exc (a := ea) (xt.ok C hC)
  rcases h with ⟨D, rfl, hD, q⟩ | ⟨rfl, q⟩ | ⟨p, ds, rfl, hp, hds, q⟩
  · obtain ⟨u, v, rfl, ru, rv⟩ := Vals.two r
    cases (show u = Value.ref ea from ru)
    cases (show v = Value.ref D from rv)
    exact PySem.W.kia_one Z I.kIn hφ (xt.is C hC D hD) (fun z => nomatch z) fun tk => ⟨.bl _, H, I.tok _, rfl, q⟩
  · obtain ⟨u, v, rfl, ru, rv⟩ := Vals.two r
    cases (show u = Value.ref ea from ru)
    cases (show v = Value.type "ValueError" from rv)
    exact PySem.W.kia_one Z I.kIn hφ (xt.ve C hC) (fun z => nomatch z) fun tk => ⟨.bl _, H, I.tok _, rfl, q⟩
  · obtain ⟨u, v, rfl, ru, rv⟩ := Vals.two r
    cases (show u = Value.ref ea from ru)
    cases (show v = Value.ref p from rv)
    obtain ⟨lz, its, rvs, tA⟩ := (show ObjOk X.prog X.w H s.heap p (.tup _) from I.hok p _ hp)
    have ei := vals_refsX rvs
    subst ei
    have ka : PySem.W.kitAny X.K (.ref C) (ds.map Value.ref) = some (ds.any fun d => decide (C = d ∨ d = Dr)) := by
      clear q hp rvs tA lz
      induction ds with
      | nil => rfl
      | cons d ds ih =>
        rw [List.map_cons, List.any_cons]
        unfold PySem.W.kitAny
        rw [xt.is C hC d (hds d List.mem_cons_self)]
        cases e : decide (C = d ∨ d = Dr) with
        | true => rfl
        | false =>
          rw [Bool.false_or]
          exact ih fun y hy => hds y (List.mem_cons_of_mem _ hy)
    obtain ⟨⟨oc, od, da, sl⟩, g1, g2, n, g3⟩ := tA
    cases (show oc = _ from g2)
    cases (show da = _ from g3)
    exact PySem.W.kia_tup Z I.kIn hφ g1 ka (fun z => nomatch z) fun tk => ⟨.bl _, H, I.tok _, rfl, q⟩
end
end L2

set_option Elab.async false
set_option linter.all false
set_option maxRecDepth 100000
namespace L2
open PySem PySem.Spec PyProof.Rows
section
variable {X : Cx} {tg : Expr}
end
end L2

set_option Elab.async false
set_option linter.all false
set_option maxRecDepth 100000
namespace L2
open PySem PySem.Spec PyProof.Rows
section
variable {prog : Program} {w : World} {A : Around} {E : Value → Shared → Prop} {s : Shared}
end
end L2

set_option Elab.async false
set_option linter.all false
set_option maxRecDepth 100000
namespace Law
open PySem L2
local macro_rules | `(tactic| simp! [$ls,*]) => `(tactic| simp only [tSeq, tAsg, gName, tVar, tC, tOp, tUn, rI0, rI, rU, tCB, tCons, tNil, tRet, tRetN, tIfS, tTest, tB, tAnd, tOr, tNot, tAndV, tOrV, tNotV, tIf, tDrop, tNext, tCall, tMeth, tIsN, tNotN, L2.start, List.map_cons, List.map_nil, List.length_cons, List.length_nil, List.nil_append, List.cons_append, List.append_nil, Nat.reduceAdd, Nat.reduceSub, Nat.sub_self, List.replicate_succ, List.replicate_zero, List.set_cons_zero, List.set_cons_succ, List.getElem?_cons_zero, List.getElem?_cons_succ, Option.some.injEq, V.int.injEq, V.bl.injEq, V.str.injEq, V.ref.injEq, List.cons.injEq, exists_eq_left', exists_eq_left, exists_and_left, and_true, true_and, if_true, if_false, ite_true, ite_false, Bool.true_eq_false, Bool.false_eq_true, decide_eq_true_eq, Bool.not_true, Bool.not_false, Bool.not_eq_true', decide_eq_false_iff_not, reduceCtorEq, false_and, and_false, exists_false, tTup, tLst, sizeLine_eq, Nat.reduceLeDiff, Nat.zero_le, rEq, rNe, rIxF, rEqF, gSub, rSetL, HO.lst.injEq, HO.tup.injEq, HO.ins.injEq, HO.dK.injEq, scal_int, scal_bl, scal_str, tyF_ref, tyF_int, tyF_bl, tyF_str, tyF_non, lenF_ref, seqV_eq, kindV_eq, tyO_lst, tyO_frz, tyO_tup, tyO_dK, lenO_lst, lenO_frz, lenO_tup, seqO_lst, seqO_frz, seqO_tup, kindO_lst, kindO_frz, kindO_tup, isTys, and_assoc, atI_0, atI_1, atI_2, atI_3, atI_4, upd_same, V.ty.injEq, eq_self_iff_true, and_self, String.reduceEq, or_false, or_true, false_or, true_or, Bool.or_true, Bool.or_false, Bool.true_or, Bool.false_or, Bool.and_false, Bool.false_and, Bool.and_true, Bool.true_and, String.reduceBEq, beq_self_eq_true, tDGetF, tDInF, tDNotInF, sDPutF, keyOf_int, keyOf_str, sFld, tFld, tDNewK, tRaise, tMethE, EX, tFstr, tMake, cxOf_K, Nat.reduceLT, Option.join_some, Option.join_none, not_true_eq_false, not_false_eq_true, gCons, gNil, tChain, rEqE, tAug, ipI, $ls,*])
def top (i : Nat) : Stmt := PySem.Challenge.pw_knownholds_k06_no_thing_there.main.body.getD i (.Pass ⟨0, 0, 0, 0⟩)
abbrev s_head : Stmt := top 9
abbrev s_Yard___init : Stmt := inClass (top 10) 0
abbrev s_Yard_make : Stmt := inClass (top 10) 1
abbrev s_Yard_is_thing : Stmt := inClass (top 10) 2
abbrev s_Yard_size_of : Stmt := inClass (top 10) 3
abbrev s_Yard_word : Stmt := inClass (top 10) 4
abbrev s_Yard_set_word : Stmt := inClass (top 10) 5
abbrev s_Yard_words_from : Stmt := inClass (top 10) 6
abbrev s_Yard_holds_of : Stmt := inClass (top 10) 7
abbrev s_Yard_numbers_of : Stmt := inClass (top 10) 8
abbrev s_Yard_told : Stmt := inClass (top 10) 9
abbrev s_lay_held : Stmt := top 12
abbrev s_lay_words : Stmt := top 13
abbrev s_carted : Stmt := top 14
abbrev s_law_bag : Stmt := top 16
abbrev s_law_draw : Stmt := top 17
abbrev s_law_whole : Stmt := top 19
abbrev s_law_start : Stmt := top 20
abbrev s_law_worth : Stmt := top 21
abbrev s_law_size : Stmt := top 22
abbrev s_law_told : Stmt := top 23
abbrev s_law_many : Stmt := top 24
abbrev s_law_hold : Stmt := top 25
abbrev s_law_field : Stmt := top 26
abbrev s_law_filled : Stmt := top 27
abbrev s_law_roots : Stmt := top 28
abbrev s_law_carted : Stmt := top 29
abbrev s_law_pairs : Stmt := top 30
abbrev s_law_free : Stmt := top 31
abbrev s_law_bad : Stmt := top 32
abbrev s_law_spoilt : Stmt := top 33
abbrev s_law_carted_asked : Stmt := top 34
abbrev s_law_size_asked : Stmt := top 35
abbrev s_law_no_spot : Stmt := top 36
abbrev s_law_built : Stmt := top 37
abbrev s_law_spots_refused : Stmt := top 38
abbrev s_law : Stmt := top 39
structure Ad where
  c_Yard : Addr
  f_head : Addr
  d_head : FuncData
  f_Yard___init : Addr
  d_Yard___init : FuncData
  f_Yard_make : Addr
  d_Yard_make : FuncData
  f_Yard_is_thing : Addr
  d_Yard_is_thing : FuncData
  f_Yard_size_of : Addr
  d_Yard_size_of : FuncData
  f_Yard_word : Addr
  d_Yard_word : FuncData
  f_Yard_set_word : Addr
  d_Yard_set_word : FuncData
  f_Yard_words_from : Addr
  d_Yard_words_from : FuncData
  f_Yard_holds_of : Addr
  d_Yard_holds_of : FuncData
  f_Yard_numbers_of : Addr
  d_Yard_numbers_of : FuncData
  f_Yard_told : Addr
  d_Yard_told : FuncData
  f_lay_held : Addr
  d_lay_held : FuncData
  f_lay_words : Addr
  d_lay_words : FuncData
  f_carted : Addr
  d_carted : FuncData
  f_law_bag : Addr
  d_law_bag : FuncData
  f_law_draw : Addr
  d_law_draw : FuncData
  f_law_whole : Addr
  d_law_whole : FuncData
  f_law_start : Addr
  d_law_start : FuncData
  f_law_worth : Addr
  d_law_worth : FuncData
  f_law_size : Addr
  d_law_size : FuncData
  f_law_told : Addr
  d_law_told : FuncData
  f_law_many : Addr
  d_law_many : FuncData
  f_law_hold : Addr
  d_law_hold : FuncData
  f_law_field : Addr
  d_law_field : FuncData
  f_law_filled : Addr
  d_law_filled : FuncData
  f_law_roots : Addr
  d_law_roots : FuncData
  f_law_carted : Addr
  d_law_carted : FuncData
  f_law_pairs : Addr
  d_law_pairs : FuncData
  f_law_free : Addr
  d_law_free : FuncData
  f_law_bad : Addr
  d_law_bad : FuncData
  f_law_spoilt : Addr
  d_law_spoilt : FuncData
  f_law_carted_asked : Addr
  d_law_carted_asked : FuncData
  f_law_size_asked : Addr
  d_law_size_asked : FuncData
  f_law_no_spot : Addr
  d_law_no_spot : FuncData
  f_law_built : Addr
  d_law_built : FuncData
  f_law_spots_refused : Addr
  d_law_spots_refused : FuncData
  f_law : Addr
  d_law : FuncData
  c_NoSpot : Addr
  c_NoThing : Addr
  c_HoldError : Addr
  c_NoText : Addr
  c_NotFormed : Addr
  c_NoTable : Addr
  c_Faulty : Addr
structure Txt (K : PySem.W.Frag) (mg : Str → Option Value) (a : Ad) : Prop where
  cl_Yard : Cls K a.c_Yard
  m_Yard : mg "Yard" = some (.ref a.c_Yard)
  M_Yard : Mk K a.c_Yard a.f_Yard___init
  n_free : NoAttr K a.c_Yard "free"
  n_words : NoAttr K a.c_Yard "words"
  n_sizes : NoAttr K a.c_Yard "sizes"
  x_NoSpot : XCls K a.c_NoSpot
  m_NoSpot : mg "NoSpot" = some (.ref a.c_NoSpot)
  x_NoThing : XCls K a.c_NoThing
  m_NoThing : mg "NoThing" = some (.ref a.c_NoThing)
  m_HoldError : mg "HoldError" = some (.ref a.c_HoldError)
  m_NoText : mg "NoText" = some (.ref a.c_NoText)
  m_NotFormed : mg "NotFormed" = some (.ref a.c_NotFormed)
  m_NoTable : mg "NoTable" = some (.ref a.c_NoTable)
  m_Faulty : mg "Faulty" = some (.ref a.c_Faulty)
  xt : HT.XTab K a.c_HoldError [a.c_HoldError, a.c_NoSpot, a.c_NoThing, a.c_NoText, a.c_NotFormed, a.c_NoTable, a.c_Faulty]
  F_head : Fun K "head" "head" s_head a.f_head a.d_head
  b_head : Binds K a.d_head ["h", "m"] []
  m_head : mg "head" = some (.ref a.f_head)
  F_Yard___init : Fun K "__init__" "Yard.__init__" s_Yard___init a.f_Yard___init a.d_Yard___init
  b_Yard___init : Binds K a.d_Yard___init ["self", "start"] []
  F_Yard_make : Fun K "make" "Yard.make" s_Yard_make a.f_Yard_make a.d_Yard_make
  b_Yard_make : Binds K a.d_Yard_make ["self", "h", "m"] []
  M_Yard_make : Meth K a.c_Yard "make" a.f_Yard_make
  F_Yard_is_thing : Fun K "is_thing" "Yard.is_thing" s_Yard_is_thing a.f_Yard_is_thing a.d_Yard_is_thing
  b_Yard_is_thing : Binds K a.d_Yard_is_thing ["self", "at"] []
  M_Yard_is_thing : Meth K a.c_Yard "is_thing" a.f_Yard_is_thing
  F_Yard_size_of : Fun K "size_of" "Yard.size_of" s_Yard_size_of a.f_Yard_size_of a.d_Yard_size_of
  b_Yard_size_of : Binds K a.d_Yard_size_of ["self", "at"] []
  M_Yard_size_of : Meth K a.c_Yard "size_of" a.f_Yard_size_of
  F_Yard_word : Fun K "word" "Yard.word" s_Yard_word a.f_Yard_word a.d_Yard_word
  b_Yard_word : Binds K a.d_Yard_word ["self", "spot"] []
  M_Yard_word : Meth K a.c_Yard "word" a.f_Yard_word
  F_Yard_set_word : Fun K "set_word" "Yard.set_word" s_Yard_set_word a.f_Yard_set_word a.d_Yard_set_word
  b_Yard_set_word : Binds K a.d_Yard_set_word ["self", "spot", "word"] []
  M_Yard_set_word : Meth K a.c_Yard "set_word" a.f_Yard_set_word
  F_Yard_words_from : Fun K "words_from" "Yard.words_from" s_Yard_words_from a.f_Yard_words_from a.d_Yard_words_from
  b_Yard_words_from : Binds K a.d_Yard_words_from ["self", "first", "many"] []
  M_Yard_words_from : Meth K a.c_Yard "words_from" a.f_Yard_words_from
  F_Yard_holds_of : Fun K "holds_of" "Yard.holds_of" s_Yard_holds_of a.f_Yard_holds_of a.d_Yard_holds_of
  b_Yard_holds_of : Binds K a.d_Yard_holds_of ["self", "at"] []
  M_Yard_holds_of : Meth K a.c_Yard "holds_of" a.f_Yard_holds_of
  F_Yard_numbers_of : Fun K "numbers_of" "Yard.numbers_of" s_Yard_numbers_of a.f_Yard_numbers_of a.d_Yard_numbers_of
  b_Yard_numbers_of : Binds K a.d_Yard_numbers_of ["self", "at"] []
  M_Yard_numbers_of : Meth K a.c_Yard "numbers_of" a.f_Yard_numbers_of
  F_Yard_told : Fun K "told" "Yard.told" s_Yard_told a.f_Yard_told a.d_Yard_told
  b_Yard_told : Binds K a.d_Yard_told ["self"] []
  M_Yard_told : Meth K a.c_Yard "told" a.f_Yard_told
  F_lay_held : Fun K "lay_held" "lay_held" s_lay_held a.f_lay_held a.d_lay_held
  b_lay_held : Binds K a.d_lay_held ["yard", "fresh", "holds", "places", "pairs"] []
  m_lay_held : mg "lay_held" = some (.ref a.f_lay_held)
  F_lay_words : Fun K "lay_words" "lay_words" s_lay_words a.f_lay_words a.d_lay_words
  b_lay_words : Binds K a.d_lay_words ["fresh", "first", "words"] []
  m_lay_words : mg "lay_words" = some (.ref a.f_lay_words)
  F_carted : Fun K "carted" "carted" s_carted a.f_carted a.d_carted
  b_carted : Binds K a.d_carted ["yard", "roots"] []
  m_carted : mg "carted" = some (.ref a.f_carted)
  F_law_bag : Fun K "_law_bag" "_law_bag" s_law_bag a.f_law_bag a.d_law_bag
  b_law_bag : Binds K a.d_law_bag ["script"] []
  m_law_bag : mg "_law_bag" = some (.ref a.f_law_bag)
  F_law_draw : Fun K "_law_draw" "_law_draw" s_law_draw a.f_law_draw a.d_law_draw
  b_law_draw : Binds K a.d_law_draw ["bag", "many"] []
  m_law_draw : mg "_law_draw" = some (.ref a.f_law_draw)
  F_law_whole : Fun K "_law_whole" "_law_whole" s_law_whole a.f_law_whole a.d_law_whole
  b_law_whole : Binds K a.d_law_whole ["found"] []
  m_law_whole : mg "_law_whole" = some (.ref a.f_law_whole)
  F_law_start : Fun K "_law_start" "_law_start" s_law_start a.f_law_start a.d_law_start
  b_law_start : Binds K a.d_law_start ["bag"] []
  m_law_start : mg "_law_start" = some (.ref a.f_law_start)
  F_law_worth : Fun K "_law_worth" "_law_worth" s_law_worth a.f_law_worth a.d_law_worth
  b_law_worth : Binds K a.d_law_worth ["bag"] []
  m_law_worth : mg "_law_worth" = some (.ref a.f_law_worth)
  F_law_size : Fun K "_law_size" "_law_size" s_law_size a.f_law_size a.d_law_size
  b_law_size : Binds K a.d_law_size ["bag"] []
  m_law_size : mg "_law_size" = some (.ref a.f_law_size)
  F_law_told : Fun K "_law_told" "_law_told" s_law_told a.f_law_told a.d_law_told
  b_law_told : Binds K a.d_law_told ["found", "things"] []
  m_law_told : mg "_law_told" = some (.ref a.f_law_told)
  F_law_many : Fun K "_law_many" "_law_many" s_law_many a.f_law_many a.d_law_many
  b_law_many : Binds K a.d_law_many ["bag"] []
  m_law_many : mg "_law_many" = some (.ref a.f_law_many)
  F_law_hold : Fun K "_law_hold" "_law_hold" s_law_hold a.f_law_hold a.d_law_hold
  b_law_hold : Binds K a.d_law_hold ["bag", "things", "k", "chain"] []
  m_law_hold : mg "_law_hold" = some (.ref a.f_law_hold)
  F_law_field : Fun K "_law_field" "_law_field" s_law_field a.f_law_field a.d_law_field
  b_law_field : Binds K a.d_law_field ["yard", "things", "k", "j", "worth"] []
  m_law_field : mg "_law_field" = some (.ref a.f_law_field)
  F_law_filled : Fun K "_law_filled" "_law_filled" s_law_filled a.f_law_filled a.d_law_filled
  b_law_filled : Binds K a.d_law_filled ["bag", "yard"] []
  m_law_filled : mg "_law_filled" = some (.ref a.f_law_filled)
  F_law_roots : Fun K "_law_roots" "_law_roots" s_law_roots a.f_law_roots a.d_law_roots
  b_law_roots : Binds K a.d_law_roots ["bag", "things"] []
  m_law_roots : mg "_law_roots" = some (.ref a.f_law_roots)
  F_law_carted : Fun K "_law_carted" "_law_carted" s_law_carted a.f_law_carted a.d_law_carted
  b_law_carted : Binds K a.d_law_carted ["things", "roots", "free"] []
  m_law_carted : mg "_law_carted" = some (.ref a.f_law_carted)
  F_law_pairs : Fun K "_law_pairs" "_law_pairs" s_law_pairs a.f_law_pairs a.d_law_pairs
  b_law_pairs : Binds K a.d_law_pairs ["found", "due"] []
  m_law_pairs : mg "_law_pairs" = some (.ref a.f_law_pairs)
  F_law_free : Fun K "_law_free" "_law_free" s_law_free a.f_law_free a.d_law_free
  b_law_free : Binds K a.d_law_free ["start", "things"] []
  m_law_free : mg "_law_free" = some (.ref a.f_law_free)
  F_law_bad : Fun K "_law_bad" "_law_bad" s_law_bad a.f_law_bad a.d_law_bad
  b_law_bad : Binds K a.d_law_bad ["bag", "low", "start", "free"] []
  m_law_bad : mg "_law_bad" = some (.ref a.f_law_bad)
  F_law_spoilt : Fun K "_law_spoilt" "_law_spoilt" s_law_spoilt a.f_law_spoilt a.d_law_spoilt
  b_law_spoilt : Binds K a.d_law_spoilt ["bag", "yard", "things", "low", "start"] []
  m_law_spoilt : mg "_law_spoilt" = some (.ref a.f_law_spoilt)
  F_law_carted_asked : Fun K "_law_carted_asked" "_law_carted_asked" s_law_carted_asked a.f_law_carted_asked a.d_law_carted_asked
  b_law_carted_asked : Binds K a.d_law_carted_asked ["yard", "things", "roots", "free"] []
  m_law_carted_asked : mg "_law_carted_asked" = some (.ref a.f_law_carted_asked)
  F_law_size_asked : Fun K "_law_size_asked" "_law_size_asked" s_law_size_asked a.f_law_size_asked a.d_law_size_asked
  b_law_size_asked : Binds K a.d_law_size_asked ["yard", "things", "at"] []
  m_law_size_asked : mg "_law_size_asked" = some (.ref a.f_law_size_asked)
  F_law_no_spot : Fun K "_law_no_spot" "_law_no_spot" s_law_no_spot a.f_law_no_spot a.d_law_no_spot
  b_law_no_spot : Binds K a.d_law_no_spot ["yard", "spot", "way"] []
  m_law_no_spot : mg "_law_no_spot" = some (.ref a.f_law_no_spot)
  F_law_built : Fun K "_law_built" "_law_built" s_law_built a.f_law_built a.d_law_built
  b_law_built : Binds K a.d_law_built ["bag", "again"] []
  m_law_built : mg "_law_built" = some (.ref a.f_law_built)
  F_law_spots_refused : Fun K "_law_spots_refused" "_law_spots_refused" s_law_spots_refused a.f_law_spots_refused a.d_law_spots_refused
  b_law_spots_refused : Binds K a.d_law_spots_refused ["bag", "yard", "low", "start", "free", "order"] []
  m_law_spots_refused : mg "_law_spots_refused" = some (.ref a.f_law_spots_refused)
  F_law : Fun K "law" "law" s_law a.f_law a.d_law
  b_law : Binds K a.d_law ["script"] []
  m_law : mg "law" = some (.ref a.f_law)
  z_ValueError : mg "ValueError" = none
  z_abs : mg "abs" = none
  z_bool : mg "bool" = none
  z_enumerate : mg "enumerate" = none
  z_int : mg "int" = none
  z_isinstance : mg "isinstance" = none
  z_len : mg "len" = none
  z_list : mg "list" = none
  z_max : mg "max" = none
  z_range : mg "range" = none
  z_sorted : mg "sorted" = none
  z_sum : mg "sum" = none
  z_tuple : mg "tuple" = none
  z_zip : mg "zip" = none
theorem sc_head : FnScope ["h", "m"] ["h", "m"] (defScope s_head) := ⟨rfl, rfl, rfl, by decide +kernel, rfl, by decide +kernel, by decide +kernel⟩
theorem sc_Yard___init : FnScope ["self", "start"] ["self", "start"] (defScope s_Yard___init) := ⟨rfl, rfl, rfl, by decide +kernel, rfl, by decide +kernel, by decide +kernel⟩
theorem sc_Yard_make : FnScope ["self", "h", "m", "at", "spot"] ["self", "h", "m"] (defScope s_Yard_make) := ⟨rfl, rfl, rfl, by decide +kernel, rfl, by decide +kernel, by decide +kernel⟩
theorem sc_Yard_is_thing : FnScope ["self", "at"] ["self", "at"] (defScope s_Yard_is_thing) := ⟨rfl, rfl, rfl, by decide +kernel, rfl, by decide +kernel, by decide +kernel⟩
theorem sc_Yard_size_of : FnScope ["self", "at"] ["self", "at"] (defScope s_Yard_size_of) := ⟨rfl, rfl, rfl, by decide +kernel, rfl, by decide +kernel, by decide +kernel⟩
theorem sc_Yard_word : FnScope ["self", "spot"] ["self", "spot"] (defScope s_Yard_word) := ⟨rfl, rfl, rfl, by decide +kernel, rfl, by decide +kernel, by decide +kernel⟩
theorem sc_Yard_set_word : FnScope ["self", "spot", "word"] ["self", "spot", "word"] (defScope s_Yard_set_word) := ⟨rfl, rfl, rfl, by decide +kernel, rfl, by decide +kernel, by decide +kernel⟩
theorem sc_Yard_words_from : FnScope ["self", "first", "many"] ["self", "first", "many"] (defScope s_Yard_words_from) := ⟨rfl, rfl, rfl, by decide +kernel, rfl, by decide +kernel, by decide +kernel⟩
theorem sc_Yard_holds_of : FnScope ["self", "at", "size"] ["self", "at"] (defScope s_Yard_holds_of) := ⟨rfl, rfl, rfl, by decide +kernel, rfl, by decide +kernel, by decide +kernel⟩
theorem sc_Yard_numbers_of : FnScope ["self", "at", "size"] ["self", "at"] (defScope s_Yard_numbers_of) := ⟨rfl, rfl, rfl, by decide +kernel, rfl, by decide +kernel, by decide +kernel⟩
theorem sc_Yard_told : FnScope ["self"] ["self"] (defScope s_Yard_told) := ⟨rfl, rfl, rfl, by decide +kernel, rfl, by decide +kernel, by decide +kernel⟩
theorem sc_lay_held : FnScope ["yard", "fresh", "holds", "places", "pairs", "hold", "size"] ["yard", "fresh", "holds", "places", "pairs"] (defScope s_lay_held) := ⟨rfl, rfl, rfl, by decide +kernel, rfl, by decide +kernel, by decide +kernel⟩
theorem sc_lay_words : FnScope ["fresh", "first", "words", "k", "word"] ["fresh", "first", "words"] (defScope s_lay_words) := ⟨rfl, rfl, rfl, by decide +kernel, rfl, by decide +kernel, by decide +kernel⟩
theorem sc_carted : FnScope ["yard", "roots", "fresh", "places", "pairs", "done", "old", "now", "holds"] ["yard", "roots"] (defScope s_carted) := ⟨rfl, rfl, rfl, by decide +kernel, rfl, by decide +kernel, by decide +kernel⟩
theorem sc_law_bag : FnScope ["script", "stir", "cell"] ["script"] (defScope s_law_bag) := ⟨rfl, rfl, rfl, by decide +kernel, rfl, by decide +kernel, by decide +kernel⟩
theorem sc_law_draw : FnScope ["bag", "many", "found"] ["bag", "many"] (defScope s_law_draw) := ⟨rfl, rfl, rfl, by decide +kernel, rfl, by decide +kernel, by decide +kernel⟩
theorem sc_law_whole : FnScope ["found"] ["found"] (defScope s_law_whole) := ⟨rfl, rfl, rfl, by decide +kernel, rfl, by decide +kernel, by decide +kernel⟩
theorem sc_law_start : FnScope ["bag"] ["bag"] (defScope s_law_start) := ⟨rfl, rfl, rfl, by decide +kernel, rfl, by decide +kernel, by decide +kernel⟩
theorem sc_law_worth : FnScope ["bag"] ["bag"] (defScope s_law_worth) := ⟨rfl, rfl, rfl, by decide +kernel, rfl, by decide +kernel, by decide +kernel⟩
theorem sc_law_size : FnScope ["bag"] ["bag"] (defScope s_law_size) := ⟨rfl, rfl, rfl, by decide +kernel, rfl, by decide +kernel, by decide +kernel⟩
theorem sc_law_told : FnScope ["found", "things", "one", "thing", "some", "due"] ["found", "things"] (defScope s_law_told) := ⟨rfl, rfl, rfl, by decide +kernel, rfl, by decide +kernel, by decide +kernel⟩
theorem sc_law_many : FnScope ["bag", "way"] ["bag"] (defScope s_law_many) := ⟨rfl, rfl, rfl, by decide +kernel, rfl, by decide +kernel, by decide +kernel⟩
theorem sc_law_hold : FnScope ["bag", "things", "k", "chain"] ["bag", "things", "k", "chain"] (defScope s_law_hold) := ⟨rfl, rfl, rfl, by decide +kernel, rfl, by decide +kernel, by decide +kernel⟩
theorem sc_law_field : FnScope ["yard", "things", "k", "j", "worth", "at", "holds", "numbers"] ["yard", "things", "k", "j", "worth"] (defScope s_law_field) := ⟨rfl, rfl, rfl, by decide +kernel, rfl, by decide +kernel, by decide +kernel⟩
theorem sc_law_filled : FnScope ["bag", "yard", "many", "chain", "things", "k", "h", "m", "j"] ["bag", "yard"] (defScope s_law_filled) := ⟨rfl, rfl, rfl, by decide +kernel, rfl, by decide +kernel, by decide +kernel⟩
theorem sc_law_roots : FnScope ["bag", "things", "roots", "way", "many", "k"] ["bag", "things"] (defScope s_law_roots) := ⟨rfl, rfl, rfl, by decide +kernel, rfl, by decide +kernel, by decide +kernel⟩
theorem sc_law_carted : FnScope ["things", "roots", "free", "by", "thing", "moved", "order", "ahead", "done", "hold", "due"] ["things", "roots", "free"] (defScope s_law_carted) := ⟨rfl, rfl, rfl, by decide +kernel, rfl, by decide +kernel, by decide +kernel⟩
theorem sc_law_pairs : FnScope ["found", "due"] ["found", "due"] (defScope s_law_pairs) := ⟨rfl, rfl, rfl, by decide +kernel, rfl, by decide +kernel, by decide +kernel⟩
theorem sc_law_free : FnScope ["start", "things"] ["start", "things"] (defScope s_law_free) := ⟨rfl, rfl, rfl, by decide +kernel, rfl, by decide +kernel, by decide +kernel⟩
theorem sc_law_bad : FnScope ["bag", "low", "start", "free", "way"] ["bag", "low", "start", "free"] (defScope s_law_bad) := ⟨rfl, rfl, rfl, by decide +kernel, rfl, by decide +kernel, by decide +kernel⟩
theorem sc_law_spoilt : FnScope ["bag", "yard", "things", "low", "start", "free", "undo", "k", "some", "bad", "at", "j"] ["bag", "yard", "things", "low", "start"] (defScope s_law_spoilt) := ⟨rfl, rfl, rfl, by decide +kernel, rfl, by decide +kernel, by decide +kernel⟩
theorem sc_law_carted_asked : FnScope ["yard", "things", "roots", "free", "due", "good", "found", "e"] ["yard", "things", "roots", "free"] (defScope s_law_carted_asked) := ⟨rfl, rfl, rfl, by decide +kernel, rfl, by decide +kernel, by decide +kernel⟩
theorem sc_law_size_asked : FnScope ["yard", "things", "at", "there", "told", "good", "found", "e"] ["yard", "things", "at"] (defScope s_law_size_asked) := ⟨rfl, rfl, rfl, by decide +kernel, rfl, by decide +kernel, by decide +kernel⟩
theorem sc_law_no_spot : FnScope ["yard", "spot", "way", "good", "e"] ["yard", "spot", "way"] (defScope s_law_no_spot) := ⟨rfl, rfl, rfl, by decide +kernel, rfl, by decide +kernel, by decide +kernel⟩
theorem sc_law_built : FnScope ["bag", "again", "low", "yard", "things", "start", "roots"] ["bag", "again"] (defScope s_law_built) := ⟨rfl, rfl, rfl, by decide +kernel, rfl, by decide +kernel, by decide +kernel⟩
theorem sc_law_spots_refused : FnScope ["bag", "yard", "low", "start", "free", "order", "some", "spot"] ["bag", "yard", "low", "start", "free", "order"] (defScope s_law_spots_refused) := ⟨rfl, rfl, rfl, by decide +kernel, rfl, by decide +kernel, by decide +kernel⟩
theorem sc_law : FnScope ["script", "bag", "order", "bads", "yard", "things", "low", "start", "free", "undo", "roots", "spoilt", "k", "at", "bad", "thing", "j", "worth"] ["script"] (defScope s_law) := ⟨rfl, rfl, rfl, by decide +kernel, rfl, by decide +kernel, by decide +kernel⟩
section
variable {P : Program} {w : World} {K : PySem.W.Frag} {mg : Str → Option Value} {base : Heap} {a : Ad}

structure BagOk (cs : List Int) (i v st n : Int) : Prop where
  i0 : 0 ≤ i
  i1 : i ≤ cs.length
  v0 : 0 ≤ v
  s0 : 0 ≤ st
  s1 : st < 2147483647
  n0 : 0 ≤ n
def bagL (c : Addr) (i v st n : Int) : List V := [.ref c, .int i, .int v, .int st, .int n]
structure BagAt (H : Hp) (b c : Addr) (cs : List Int) : Prop where
  ex : ∃ i v st n, H b = some (.lst (bagL c i v st n)) ∧ BagOk cs i v st n
  at_ : H c = some (.lst (cs.map V.int))
  ne : c ≠ b
  pos : ∀ z ∈ cs, 0 ≤ z
  len : cs.length ≤ 63
/-- all but b is as it was -/
def Kp (b : Addr) (H H' : Hp) : Prop := ∀ q o, H q = some o → q ≠ b → H' q = some o
theorem Kp.refl {b : Addr} {H : Hp} : Kp b H H := fun _ _ h _ => h
theorem Kp.trans {b : Addr} {H H1 H2 : Hp} (x : Kp b H H1) (y : Kp b H1 H2) : Kp b H H2 := fun q o h n => y q o (x q o h n) n
theorem Kp.laid {b p : Addr} {H H1 : Hp} {u : HO} (x : Kp b H H1) (hp : H1 p = none) : Kp b H (upd H1 p u) := fun q o h n => upd_old (x q o h n) hp
theorem Kp.at_ {b : Addr} {H : Hp} {u : HO} : Kp b H (upd H b u) := fun q o h n => by rw [upd_ne n]; exact h
theorem BagAt.laid {H : Hp} {b c p : Addr} {cs : List Int} {u : HO} (x : BagAt H b c cs) (hp : H p = none) : BagAt (upd H p u) b c cs := by
  obtain ⟨⟨i, v, st, n, e, k⟩, h2, ne, pos, len⟩ := x
  exact ⟨⟨i, v, st, n, upd_old e hp, k⟩, upd_old h2 hp, ne, pos, len⟩
theorem BagAt.other {H : Hp} {b c p : Addr} {cs : List Int} {u : HO} (x : BagAt H b c cs) (h1 : p ≠ b) (h2 : p ≠ c) : BagAt (upd H p u) b c cs := by
  obtain ⟨⟨i, v, st, n, e, k⟩, h3, ne, pos, len⟩ := x
  exact ⟨⟨i, v, st, n, by rw [upd_ne h1.symm]; exact e, k⟩, by rw [upd_ne h2.symm]; exact h3, ne, pos, len⟩
theorem BagAt.keep {H H' : Hp} {b c : Addr} {cs : List Int} (x : BagAt H b c cs) (hs : ∀ q o, H q = some o → H' q = some o) : BagAt H' b c cs := by
  obtain ⟨⟨i, v, st, n, e, k⟩, h3, ne, pos, len⟩ := x
  exact ⟨⟨i, v, st, n, hs _ _ e, k⟩, hs _ _ h3, ne, pos, len⟩
theorem pow3_lt {x : Int} (h0 : 0 ≤ x) : 0 ≤ x ^ 3 := Int.pow_nonneg h0
def sp_draw : Sp := fun vs H Q _ => ∃ (b c : Addr) (cs : List Int) (many : Int), vs = [.ref b, .int many] ∧ BagAt H b c cs ∧ 0 < many ∧ many ≤ 10 ^ 70 ∧ ∀ (r : Int) (H' : Hp), 0 ≤ r → r < many → BagAt H' b c cs → Kp b H H' → Q (.int r) H'
theorem ixN5_0 : ixN 5 0 = some 0 := rfl
theorem ixN5_1 : ixN 5 1 = some 1 := rfl
theorem ixN5_2 : ixN 5 2 = some 2 := rfl
theorem ixN5_3 : ixN 5 3 = some 3 := rfl
theorem ixN5_4 : ixN 5 4 = some 4 := rfl
set_option maxHeartbeats 4000000 in
theorem ok_law_draw (T : Txt K mg a) : FnOk P w K mg base (CX1 P w) 1 a.f_law_draw a.d_law_draw ["bag", "many"] sp_draw := by
  refine T.F_law_draw.okC sc_law_draw (fun vs H Q E h => ?_) (fun cdv A outer s H vs Q E hr h => ?_)
  · obtain ⟨b, c, cs, m, rfl, _⟩ := h
    rfl
  · obtain ⟨b, c, cs, m, rfl, ⟨⟨i, v, st, n, hb, i0, i1, v0, s0, s1, n0⟩, hc, ne, pos, len⟩, m0, m1, q⟩ := h
    have hu := hu_of hr
    refine ⟨_, (pss_cons (ps_if (PW.pt (pw_and (pt_cmpR op_eq (pe_ix ix_F (pv 0) pe_int (fun _ _ => rfl)) pe_int (nomark _)) (pw_and1 (pt_cmpR op_lt (pe_ix ix_F (pv 0) pe_int (fun _ _ => rfl)) (pe_callB call_lenF (by rfl) T.z_len (by decide +kernel) (pa_cons (pe_ix ix_F (pv 0) pe_int (fun _ _ => rfl)) pa_nil)) (nomark _))))) (pss_cons (ps_asg (pe_ix ix_F (pe_ix ix_F (pv 0) pe_int (fun _ _ => rfl)) (pe_ix ix_F (pv 0) pe_int (fun _ _ => rfl)) (fun _ _ => rfl)) (pg_sub (pv 0) pe_int set_list))
      (pss_one (ps_asg (pe_op op_add (pe_ix ix_F (pv 0) pe_int (fun _ _ => rfl)) pe_int) (pg_sub (pv 0) pe_int set_list)))) (pss_one (ps_if (pt_cmpR op_eq (pe_ix ix_F (pv 0) pe_int (fun _ _ => rfl)) pe_int (nomark _)) (pss_cons (ps_asg (pe_op op_add (pe_ix ix_F (pv 0) pe_int (fun _ _ => rfl)) pe_int) (pg_sub (pv 0) pe_int set_list))
      (pss_cons (ps_asg (pe_op op_mod (pe_op op_add (pe_op op_add (pe_op op_add (pe_op op_pow (pe_ix ix_F (pv 0) pe_int (fun _ _ => rfl)) pe_int) (pe_op op_mul pe_int (pe_ix ix_F (pv 0) pe_int (fun _ _ => rfl)))) (pe_op op_mul pe_int (pe_ix ix_F (pv 0) pe_int (fun _ _ => rfl)))) pe_int) pe_int) (pg_sub (pv 0) pe_int set_list))
      (pss_one (ps_ret (pe_op op_mod (pe_op op_fdivB (pe_ix ix_F (pv 0) pe_int (fun _ _ => rfl)) pe_int) (pv 1)))))) pss_nil)))
      (pss_cons (ps_set (i := 2) sc_law_draw.nd (by rfl) (Or.inl rfl) (pe_op op_mod (pe_ix ix_F (pv 0) pe_int (fun _ _ => rfl)) (pv 1)))
      (pss_cons (ps_asg (pe_op op_fdivB (pe_ix ix_F (pv 0) pe_int (fun _ _ => rfl)) (pv 1)) (pg_sub (pv 0) pe_int set_list))
      (pss_one (ps_ret (pv 2)))))), ?_⟩
    simp! [hb, hc, bagL, ixN5_0, ixN5_1, ixN5_2, ixN5_3, ixN5_4, upd_upd, List.length_map]
    have fin : ∀ (r i' v' st' n' : Int), 0 ≤ r → r < m → BagOk cs i' v' st' n' → Q (.int r) (upd H b (.lst [.ref c, .int i', .int v', .int st', .int n'])) := fun r i' v' st' n' h1 h2 h3 =>
      q r _ h1 h2 ⟨⟨i', v', st', n', upd_same, h3⟩, by rw [upd_ne ne]; exact hc, ne, pos, len⟩ Kp.at_
    have e3 : (3 : Int).toNat = 3 := rfl
    rw [e3]
    have p3 := pow3_lt s0
    have B1 : CPow st 3 ∧ CMul 69621 st ∧ CMul 1009 (n + 1) ∧ (0 : Int) < 2147483647 ∧ CDivB ((st ^ 3 + 69621 * st + 1009 * (n + 1) + 1) % 2147483647) 16 ∧ 0 < m ∧ Q (V.int ((st ^ 3 + 69621 * st + 1009 * (n + 1) + 1) % 2147483647 / 16 % m)) (upd H b (HO.lst [V.ref c, V.int i, V.int v, V.int ((st ^ 3 + 69621 * st + 1009 * (n + 1) + 1) % 2147483647), V.int (n + 1)])) := by
      refine ⟨⟨by decide, by decide, by omega⟩, .inl ⟨by decide, by decide⟩, .inl ⟨by decide, by decide⟩, by decide, ⟨by decide, by decide⟩, m0, ?_⟩
      generalize (st ^ 3 + 69621 * st + 1009 * (n + 1) + 1) = y
      exact fin _ _ _ _ _ (Int.emod_nonneg _ (by omega)) (Int.emod_lt_of_pos _ m0) ⟨i0, i1, v0, by omega, by omega, by omega⟩
    have B2 : 0 < m ∧ CDivB v m ∧ Q (V.int (v % m)) (upd H b (HO.lst [V.ref c, V.int i, V.int (v / m), V.int st, V.int n])) :=
      ⟨m0, ⟨m0, m1⟩, fin _ _ _ _ _ (Int.emod_nonneg _ (by omega)) (Int.emod_lt_of_pos _ m0) ⟨i0, i1, Int.ediv_nonneg v0 (by omega), s0, s1, n0⟩⟩
    have B3 : i < cs.length → ∃ x, atI (cs.map V.int) i = some x ∧ ∃ i_1, x = V.int i_1 ∧ 0 < m ∧ ∃ i_2, x = V.int i_2 ∧ CDivB i_2 m ∧ Q (V.int (i_1 % m)) (upd H b (HO.lst [V.ref c, V.int (i + 1), V.int (i_2 / m), V.int st, V.int n])) := fun hi => by
      have hj : i.toNat < cs.length := by omega
      have e1 : (cs.map V.int)[i.toNat]? = some (V.int cs[i.toNat]) := by rw [List.getElem?_map, List.getElem?_eq_getElem hj]; rfl
      have e2 := atI_nat e1
      rw [show ((i.toNat : Nat) : Int) = i by omega] at e2
      have p := pos _ (List.getElem_mem hj)
      refine ⟨_, e2, _, rfl, m0, _, rfl, ⟨m0, m1⟩, ?_⟩
      exact fin _ _ _ _ _ (Int.emod_nonneg _ (by omega)) (Int.emod_lt_of_pos _ m0) ⟨by omega, by omega, Int.ediv_nonneg p (by omega), s0, s1, n0⟩
    refine ite2 (fun h1 => ite2 B3 fun h2 => ite2 (fun _ => B1) fun _ => B2) fun h1 => ite2 (fun _ => B1) fun _ => B2

theorem cut63 (ns : List Int) : ∃ zs : List Int, cutV (ns.map V.int) none (some 63) = zs.map V.int ∧ zs.length ≤ 63 ∧ zs.length ≤ ns.length := by
  refine ⟨(ns.drop (HT.sIx (ns.map V.int).length 0 none)).take (HT.sIx (ns.map V.int).length (ns.map V.int).length (some 63) - HT.sIx (ns.map V.int).length 0 none), ?_, ?_, ?_⟩
  · unfold cutV
    rw [List.map_take, List.map_drop]
  · rw [List.length_take, List.length_drop, List.length_map]
    have : HT.sIx ns.length ns.length (some 63) ≤ 63 := by unfold HT.sIx; simp; omega
    omega
  · rw [List.length_take, List.length_drop]; omega
def sp_bag (K : PySem.W.Frag) : Sp := fun vs H Q _ => ∃ (r : Addr) (ns : List Int), vs = [.ref r] ∧ SqL K H r (ns.map V.int) ∧ ∀ (b c : Addr) (cs : List Int) (H' : Hp), H b = none → H c = none → BagAt H' b c cs → Same H H' → Q (.ref b) H'
set_option maxHeartbeats 4000000 in
theorem ok_law_bag (T : Txt K mg a) : FnOk P w K mg base (CX1 P w) 1 a.f_law_bag a.d_law_bag ["script"] (sp_bag K) := by
  refine T.F_law_bag.okC sc_law_bag (fun vs H Q E h => ?_) (fun cdv A outer s H vs Q E hr h => ?_)
  · obtain ⟨r, ns, rfl, _⟩ := h
    rfl
  · obtain ⟨r, ns, rfl, hS, q⟩ := h
    have hu := hu_of hr
    obtain ⟨zs, ez, lz, _⟩ := cut63 ns
    refine ⟨_, (pss_cons (ps_set (i := 1) sc_law_bag.nd (by rfl) (Or.inl rfl) pe_int)
      (pss_cons (ps_for PassesOwn.never (by rfl) (pi_list (pe_slice sl_list (pv 0) po_none (po_some pe_int))) (pg_name (i := 2) sc_law_bag.nd (by rfl) (Or.inl rfl))
      (pss_one (ps_set (i := 1) sc_law_bag.nd (by rfl) (Or.inl rfl) (pe_op op_mod (pe_op op_add (pe_op op_add (pe_op op_mul (pv 1) pe_int) (pe_op op_mod (pv 2) pe_int)) pe_int) pe_int))))
      (pss_one (ps_ret (pe_lst (pa_cons (pe_comp (N' := ["cell"]) (cap := [none]) ⟨rfl, (by decide +kernel), (by decide +kernel), (by rfl), rfl, (by rfl)⟩ (by rfl) (pi_list (pe_slice sl_list (pv 0) po_none (po_some pe_int))) (fun C_ ex_ s_ H_ => (pg_name (i := 0) (show (["cell"] : List Str).Nodup by decide +kernel) (by rfl) (Or.inl rfl))) gkp_name (fun C_ ex_ s_ H_ => pifs_nil) (fun C_ ex_ s_ H_ => (pe_op op_mod (pe_callB call_abs (by rfl) T.z_abs (by decide +kernel) (pa_cons (pv 0) pa_nil)) (pe_op op_pow pe_int pe_int)))) (pa_cons pe_int (pa_cons pe_int (pa_cons (pv 1) (pa_cons pe_int pa_nil)))))))))), ?_⟩
    refine ⟨_, rfl, 63, rfl, r, _, rfl, hS, fun l1 hl1 => ?_⟩
    rw [ez]
    refine ⟨l1, rfl, ⟨_, .of upd_same⟩, for_list (xs := zs.map V.int) (fun i σ H2 => ∃ (st : Int) (v2 : Option V), σ = [some (.ref r), some (.int st), v2] ∧ H2 = upd H l1 (.lst (zs.map V.int)) ∧ 0 ≤ st ∧ st < 2147483647)
      ⟨7, _, rfl, rfl, by decide, by decide⟩ (fun i σ H2 _ ⟨_, _, _, e, _⟩ => by rw [e]; exact .of upd_same) ?_ ?_⟩
    · rintro i x σ H2 hi ⟨st, v2, rfl, rfl, s0, s1⟩
      obtain ⟨z, _, rfl⟩ := of_map_get hi
      simp! []
      exact ⟨.inr ⟨by decide, by decide⟩, by decide, by decide, Int.emod_nonneg _ (by decide), Int.emod_lt_of_pos _ (by decide)⟩
    · rintro σ H2 ⟨st, v2, rfl, rfl, s0, s1⟩
      have hS1 : SqL K (upd H l1 (.lst (zs.map V.int))) r (ns.map V.int) := (Same.laid hl1).seq hS
      refine ⟨_, rfl, 63, rfl, r, _, rfl, hS1, fun l2 hl2 => ?_⟩
      rw [ez]
      refine ⟨l2, rfl, ⟨_, .of upd_same⟩, fun D hD => ?_⟩
      refine comp_list (xs := zs.map V.int) (fun i ys H2 => ∃ ws : List Int, ys = ws.map V.int ∧ ws.length = i ∧ (∀ z ∈ ws, 0 ≤ z) ∧ H2 = upd (upd (upd H l1 (.lst (zs.map V.int))) l2 (.lst (zs.map V.int))) D (.lst ys))
        ⟨[], rfl, rfl, by simp, rfl⟩ (fun i ys H2 _ ⟨ws, e1, e2, _, e3⟩ => ?_) (by rw [sizeLine_eq]; simp; omega) ?_ ?_
      · rw [e3]
        exact ⟨.of (upd_old upd_same hD), upd_same, by rw [e1]; simp; omega⟩
      · rintro i x ys H2 hi ⟨ws, rfl, e2, e3, rfl⟩
        obtain ⟨z, _, rfl⟩ := of_map_get hi
        simp! [tTrue, capSt]
        refine ⟨⟨by decide, by decide, by decide⟩, by decide, ws ++ [(if z < 0 then -z else z) % 10 ^ Int.toNat 60], by simp, by simp; omega, ?_, upd_upd⟩
        intro y hy
        rcases List.mem_append.mp hy with hy | hy
        · exact e3 y hy
        · rw [List.mem_singleton.mp hy]
          exact Int.emod_nonneg _ (by decide)
      · rintro ys H2 ⟨ws, rfl, e2, e3, rfl⟩
        simp! []
        intro b hb
        have n1 : H b = none := Same.free (((Same.laid hl1).step hl2).step hD) hb
        have n2 : H D = none := Same.free ((Same.laid hl1).step hl2) hD
        rw [List.length_map] at e2
        exact q b D ws _ n1 n2 ⟨⟨0, 0, st, 0, upd_same, by decide, by omega, by decide, s0, s1, by decide⟩, upd_old upd_same hb, ne_of_none upd_same hb, e3, by omega⟩ ((((Same.laid hl1).step hl2).step hD).step hb)

end
local macro_rules | `(tactic| walk_at "rd") => `(tactic| simp only [tSeq, tAsg, gName, tVar, tC, tOp, tUn, rI0, rI, rU, tCB, tCons, tNil, tRet, tRetN, tIfS, tTest, tB, tAnd, tOr, tNot, tAndV, tOrV, tNotV, tIf, tDrop, tNext, tCall, tMeth, tIsN, tNotN, L2.start, List.map_cons, List.map_nil, List.length_cons, List.length_nil, List.nil_append, List.cons_append, List.append_nil, Nat.reduceAdd, Nat.reduceSub, Nat.sub_self, List.replicate_succ, List.replicate_zero, List.set_cons_zero, List.set_cons_succ, List.getElem?_cons_zero, List.getElem?_cons_succ, Option.some.injEq, V.int.injEq, V.bl.injEq, V.str.injEq, V.ref.injEq, List.cons.injEq, exists_eq_left', exists_eq_left, exists_and_left, and_true, true_and, if_true, if_false, ite_true, ite_false, Bool.true_eq_false, Bool.false_eq_true, decide_eq_true_eq, Bool.not_true, Bool.not_false, Bool.not_eq_true', decide_eq_false_iff_not, reduceCtorEq, false_and, and_false, exists_false, tTup, tLst, sizeLine_eq, Nat.reduceLeDiff, Nat.zero_le, rEq, rNe, rIxF, rEqF, gSub, rSetL, HO.lst.injEq, HO.tup.injEq, HO.ins.injEq, HO.dK.injEq, scal_int, scal_bl, scal_str, tyF_ref, tyF_int, tyF_bl, tyF_str, tyF_non, lenF_ref, seqV_eq, kindV_eq, tyO_lst, tyO_frz, tyO_tup, tyO_dK, lenO_lst, lenO_frz, lenO_tup, seqO_lst, seqO_frz, seqO_tup, kindO_lst, kindO_frz, kindO_tup, isTys, and_assoc, atI_0, atI_1, atI_2, atI_3, atI_4, upd_same, V.ty.injEq, eq_self_iff_true, and_self, String.reduceEq, or_false, or_true, false_or, true_or, Bool.or_true, Bool.or_false, Bool.true_or, Bool.false_or, Bool.and_false, Bool.false_and, Bool.and_true, Bool.true_and, String.reduceBEq, beq_self_eq_true, tDGetF, tDInF, tDNotInF, sDPutF, keyOf_int, keyOf_str, sFld, tFld, tDNewK, tRaise, tMethE, EX, tFstr, tMake, cxOf_K, Nat.reduceLT, Option.join_some, Option.join_none, not_true_eq_false, not_false_eq_true, gCons, gNil, tChain, rEqE, tAug, ipI])
section
variable {P : Program} {w : World} {K : PySem.W.Frag} {mg : Str → Option Value} {base : Heap} {a : Ad}

theorem and_low (x d : Nat) (h : d < 16) : (16 * x) &&& d = 0 := by
  have e1 : d &&& 15 = d % 16 := Nat.and_two_pow_sub_one_eq_mod d 4
  have e2 : (16 * x) &&& 15 = (16 * x) % 16 := Nat.and_two_pow_sub_one_eq_mod (16 * x) 4
  have e3 : d % 16 = d := Nat.mod_eq_of_lt h
  have e4 : (16 * x) % 16 = 0 := by omega
  have f1 : d &&& 15 = d := e1.trans e3
  have f2 : (16 * x) &&& (d &&& 15) = ((16 * x) &&& 15) &&& d := by rw [Nat.and_comm d 15, Nat.and_assoc]
  rw [f1, e2, e4, Nat.zero_and] at f2
  exact f2
theorem or_low {v d : Int} (h0 : 0 ≤ v) (d0 : 0 ≤ d) (d1 : d < 16) : Builtin.bitOr (v * 16) d = 16 * v + d := by
  have e : (v * 16).toNat &&& d.toNat = 0 := by
    have q : (v * 16).toNat = 16 * v.toNat := by omega
    rw [q]
    exact and_low _ _ (by omega)
  rw [PyProof.Rows.bitOr_and, PyProof.Rows.bitAnd_pp (by omega) d0, e]
  simp; omega
def sp_head : Sp := fun vs H Q _ => ∃ h m : Int, vs = [.int h, .int m] ∧ 0 ≤ h ∧ h ≤ 9 ∧ 0 ≤ m ∧ m ≤ 9 ∧ Q (.int (16 * h + m)) H
theorem ok_head (T : Txt K mg a) : FnOk P w K mg base (CX1 P w) 1 a.f_head a.d_head ["h", "m"] sp_head := by
  refine T.F_head.okC sc_head (fun vs H Q E h => ?_) (fun cdv A outer s H vs Q E hr h => ?_)
  · obtain ⟨h, m, rfl, _⟩ := h
    rfl
  · obtain ⟨h, m, rfl, h0, h1, m0, m1, q⟩ := h
    refine ⟨_, (pss_one (ps_ret (pe_op op_or (pe_op op_shl (pv 0) pe_int) (pv 1)))), ?_⟩
    walk_at "rd"
    refine ⟨⟨by decide, by decide, by omega⟩, ?_⟩
    show Q (.int (Builtin.bitOr (h * 2 ^ Int.toNat 4) m)) H
    rw [show (h * 2 ^ Int.toNat 4 : Int) = h * 16 from rfl, or_low h0 m0 (by omega)]
    exact q
def sp_init (C : Addr) : Sp := fun vs H Q _ => ∃ (x dx : Addr) (st : Int), vs = [.ref x, .int st] ∧ H x = some (.ins C dx []) ∧
  ∀ (dw ds : Addr) (H' : Hp), H dw = none → H ds = none → YardAt C H' ⟨x, dx, dw, ds⟩ (fun _ => none) [] st → Fr (· = x) H H' → Q .non H'
theorem ok_Yard___init (T : Txt K mg a) : FnOk P w K mg base (CX1 P w) 1 a.f_Yard___init a.d_Yard___init ["self", "start"] (sp_init a.c_Yard) := by
  refine T.F_Yard___init.okC sc_Yard___init (fun vs H Q E h => ?_) (fun cdv A outer s H vs Q E hr h => ?_)
  · obtain ⟨x, dx, st, rfl, _⟩ := h
    rfl
  · obtain ⟨x, dx, st, rfl, hx, q⟩ := h
    refine ⟨_, (pss_cons (ps_fld (pv 0) (pv 1) (by rfl))
      (pss_cons (ps_fld (pv 0) pe_dnewK (by rfl))
      (pss_one (ps_fld (pv 0) pe_dnewK (by rfl))))), ?_⟩
    simp! [T.cl_Yard, T.n_free, T.n_words, T.n_sizes, hx, upd_upd, putF_0]
    intro dw hdw
    have n1 : x ≠ dw := ne_of_none upd_same hdw
    simp! [T.cl_Yard, T.n_free, T.n_words, T.n_sizes, hx, upd_ne n1, upd_same, upd_upd, putF_w]
    intro ds hds
    have n2 : x ≠ ds := ne_of_none upd_same hds
    have h1 : H dw = none := by rw [upd_ne n1.symm] at hdw; exact hdw
    have n3 : dw ≠ ds := ne_of_none (by rw [upd_ne n1.symm]; exact upd_same) hds
    have h2 : H ds = none := by rw [upd_ne n2.symm, upd_ne n3.symm, upd_ne n2.symm] at hds; exact hds
    simp! [T.cl_Yard, T.n_free, T.n_words, T.n_sizes, hx, upd_ne n1, upd_ne n2, upd_same, upd_upd, putF_s]
    refine q dw ds _ h1 h2 ⟨upd_same, ⟨[], ?_, fun z => rfl, Nat.zero_le _⟩, ⟨[], ?_, rfl, (by simp), fun z _ => rfl⟩, n3⟩ ?_
    · rw [upd_ne n1.symm, upd_ne n3, upd_ne n1.symm]; exact upd_same
    · rw [upd_ne n2.symm]; exact upd_same
    · refine Fr.trans (Fr.trans (Fr.trans (Fr.trans (Fr.put (p := x) rfl ?_) (.laid hdw)) (Fr.put (p := x) rfl ?_)) (.laid hds)) (Fr.put (p := x) rfl ?_)
      · exact notTup_ins hx
      · exact notTup_ins (by rw [upd_ne n1]; exact upd_same)
      · exact notTup_ins (by rw [upd_ne n2]; exact upd_same)

end
section
variable {P : Program} {w : World} {K : PySem.W.Frag} {mg : Str → Option Value} {base : Heap} {a : Ad}

def madeW (W : Int → Option Int) (f h m : Int) : Int → Option Int := fun z => if z = f then some (16 * h + m) else if f < z ∧ z < f + 1 + h + m then some 0 else W z
def sp_make (C : Addr) : Sp := fun vs H Q _ => ∃ (y : Yd) (h m f : Int) (W : Int → Option Int) (S : List (Int × Int × Int)), vs = [.ref y.p, .int h, .int m] ∧ 0 ≤ h ∧ h ≤ 9 ∧ 0 ≤ m ∧ m ≤ 9 ∧ YardAt C H y W S f ∧ (∀ t ∈ S, t.1 ≠ f) ∧ S.length ≤ 1000 ∧
  ∀ H', YardAt C H' y (madeW W f h m) (S ++ [(f, h, m)]) (f + 1 + h + m) → Fr (YM y) H H' → Q (.int f) H'
set_option maxHeartbeats 1000000 in
theorem ok_Yard_make (T : Txt K mg a) : FnOk P w K mg base (CX1 P w) 2 a.f_Yard_make a.d_Yard_make ["self", "h", "m"] (sp_make a.c_Yard) := by
  refine T.F_Yard_make.okC sc_Yard_make (fun vs H Q E h => ?_) (fun cdv A outer s H vs Q E hr h => ?_)
  · obtain ⟨y, h, m, f, W, S, rfl, _⟩ := h
    rfl
  · obtain ⟨y, h, m, f, W, S, rfl, h0, h1, m0, m1, ⟨hp, ⟨kw, hw, vw, lw⟩, ⟨ks, hs, ek, vk, nk⟩, ne⟩, nf, lS, q⟩ := h
    have hu := hu_of hr
    have np1 : y.p ≠ y.dw := ne_of hp hw (by intro z; cases z)
    have np2 : y.p ≠ y.ds := ne_of hp hs (by intro z; cases z)
    refine ⟨_, (pss_cons (ps_set (i := 3) sc_Yard_make.nd (by rfl) (Or.inl rfl) (pe_fld (pv 0) (by rfl)))
      (pss_cons (ps_dputF hu (pe_fld (pv 0) (by rfl)) (pv 3) (pe_tup (pa_cons (pv 1) (pa_cons (pv 2) pa_nil))) (by rfl))
      (pss_cons (ps_dputF hu (pe_fld (pv 0) (by rfl)) (pv 3) (pe_call (ok_head T) (hr.mono (by decide)) (by rfl) T.m_head T.F_head.kp T.b_head .nil pass1 (pa_cons (pv 1) (pa_cons (pv 2) pa_nil))) (by rfl))
      (pss_cons (ps_fld (pv 0) (pe_op op_add (pe_op op_add (pe_op op_add (pv 3) pe_int) (pv 1)) (pv 2)) (by rfl))
      (pss_cons (ps_for PassesOwn.never (by rfl) (pi_rangeA (by rfl) T.z_range (pa_cons (pe_op op_add (pv 3) pe_int) (pa_cons (pe_fld (pv 0) (by rfl)) pa_nil))) (pg_name (i := 4) sc_Yard_make.nd (by rfl) (Or.inl rfl))
      (pss_one (ps_dputF hu (pe_fld (pv 0) (by rfl)) (pv 4) pe_int (by rfl))))
      (pss_one (ps_ret (pv 3)))))))), ?_⟩
    simp! [T.cl_Yard, T.n_free, T.n_words, T.n_sizes, hp, yF_free, yF_words, yF_sizes, yF_len]
    intro t1 ht1
    have lk : ks.length = S.length := by have := congrArg List.length ek; simpa using this
    have e1 : upd H t1 (.tup [.int h, .int m]) y.p = some (.ins a.c_Yard y.dx (yF y f)) := upd_old hp ht1
    have e2 : upd H t1 (.tup [.int h, .int m]) y.ds = some (.dK ks) := upd_old hs ht1
    have e3 : upd H t1 (.tup [.int h, .int m]) y.dw = some (.dK kw) := upd_old hw ht1
    simp! [T.cl_Yard, T.n_free, T.n_words, T.n_sizes, e1, e2, e3, yF_free, yF_words, yF_sizes, yF_len, upd_ne np1, upd_ne np2, upd_ne ne, upd_ne ne.symm, upd_ne np1.symm, upd_ne np2.symm, putF_f]
    refine ⟨by omega, h, m, rfl, h0, h1, m0, m1, ?_⟩
    simp! [T.cl_Yard, T.n_free, T.n_words, T.n_sizes, e1, e2, e3, yF_free, yF_words, yF_sizes, yF_len, upd_ne np1, upd_ne np2, upd_ne ne, upd_ne ne.symm, upd_ne np1.symm, upd_ne np2.symm, putF_f]
    refine ⟨by omega, ?_⟩
    have w1 : valV ks (.inl f) = none := nk f nf
    have eks : putK ks (.inl f) (.ref t1) = ks ++ [(.inl f, .ref t1)] := putK_new _ w1
    have F0 : Fr (YM y) H (upd (upd (upd (upd H t1 (.tup [.int h, .int m])) y.ds (.dK (putK ks (.inl f) (.ref t1)))) y.dw (.dK (putK kw (.inl f) (.int (16 * h + m))))) y.p (.ins a.c_Yard y.dx (yF y (f + 1 + h + m)))) :=
      (((Fr.laid ht1).trans (.put (.inr (.inr rfl)) (notTup_dK e2))).trans (.put (.inr (.inl rfl)) (notTup_dK (by rw [upd_ne ne]; exact e3)))).trans (.put (.inl rfl) (notTup_ins (by rw [upd_ne np1, upd_ne np2]; exact e1)))
    have g1 : (upd (upd (upd (upd H t1 (.tup [.int h, .int m])) y.ds (.dK (putK ks (.inl f) (.ref t1)))) y.dw (.dK (putK kw (.inl f) (.int (16 * h + m))))) y.p (.ins a.c_Yard y.dx (yF y (f + 1 + h + m)))) y.p = some (.ins a.c_Yard y.dx (yF y (f + 1 + h + m))) := upd_same
    have g2 : (upd (upd (upd (upd H t1 (.tup [.int h, .int m])) y.ds (.dK (putK ks (.inl f) (.ref t1)))) y.dw (.dK (putK kw (.inl f) (.int (16 * h + m))))) y.p (.ins a.c_Yard y.dx (yF y (f + 1 + h + m)))) y.dw = some (.dK (putK kw (.inl f) (.int (16 * h + m)))) := by rw [upd_ne np1.symm]; exact upd_same
    have g3 : (upd (upd (upd (upd H t1 (.tup [.int h, .int m])) y.ds (.dK (putK ks (.inl f) (.ref t1)))) y.dw (.dK (putK kw (.inl f) (.int (16 * h + m))))) y.p (.ins a.c_Yard y.dx (yF y (f + 1 + h + m)))) y.ds = some (.dK (putK ks (.inl f) (.ref t1))) := by rw [upd_ne np2.symm, upd_ne ne.symm]; exact upd_same
    have g4 : (upd (upd (upd (upd H t1 (.tup [.int h, .int m])) y.ds (.dK (putK ks (.inl f) (.ref t1)))) y.dw (.dK (putK kw (.inl f) (.int (16 * h + m))))) y.p (.ins a.c_Yard y.dx (yF y (f + 1 + h + m)))) t1 = some (.tup [.int h, .int m]) := by
      rw [upd_ne (ne_of_none hp ht1).symm, upd_ne (ne_of_none hw ht1).symm, upd_ne (ne_of_none hs ht1).symm]; exact upd_same
    revert F0 g1 g2 g3 g4
    generalize (upd (upd (upd (upd H t1 (.tup [.int h, .int m])) y.ds (.dK (putK ks (.inl f) (.ref t1)))) y.dw (.dK (putK kw (.inl f) (.int (16 * h + m))))) y.p (.ins a.c_Yard y.dx (yF y (f + 1 + h + m)))) = H0
    intro F0 g1 g2 g3 g4
    refine forA (H1 := H0) (f + 1) (f + 1 + h + m) ?_ (fun i σ H2 => ∃ (kw2 : List (Key × V)) (v4 : Option V), σ = [some (.ref y.p), some (.int h), some (.int m), some (.int f), v4] ∧ Fr (· = y.dw) H0 H2 ∧ H2 y.dw = some (.dK kw2) ∧ kw2.length ≤ 19 * S.length + 1 + i ∧
      (∀ z, valV kw2 (.inl z) = (if z = f then some (16 * h + m) else if f < z ∧ z < f + 1 + i then some 0 else W z).map V.int)) ?_ ?_ ?_
    · intro Q2 hQ
      simp! [T.cl_Yard, T.n_free, T.n_words, T.n_sizes, g1, yF_free]
      exact hQ
    · have := length_putK kw (.inl f) (.int (16 * h + m))
      refine ⟨_, _, rfl, .refl, g2, by omega, fun z => ?_⟩
      rw [valV_put', vw]
      by_cases c : z = f
      · rw [if_pos (by rw [c]), if_pos c]; rfl
      · rw [if_neg (fun e => c (by cases e; rfl)), if_neg c, if_neg (by omega)]
    · rintro i σ H2 hi ⟨kw2, v4, rfl, F, gw, lw2, vw2⟩
      have g1' := F.keep _ _ g1 np1
      simp! [T.cl_Yard, T.n_free, T.n_words, T.n_sizes, g1', gw, yF_words]
      have := length_putK kw2 (.inl (f + 1 + (i : Int))) (.int 0)
      refine ⟨by omega, F.trans (.put rfl (notTup_dK gw)), by omega, fun z => ?_⟩
      rw [valV_put', vw2]
      by_cases c : z = f + 1 + i
      · rw [if_pos (by rw [c]), if_neg (by omega), if_pos (by omega)]; rfl
      · rw [if_neg (fun e => c (by cases e; rfl))]
        by_cases c2 : z = f
        · rw [if_pos c2, if_pos c2]
        · rw [if_neg c2, if_neg c2]
          by_cases c3 : f < z ∧ z < f + 1 + i
          · rw [if_pos c3, if_pos (by omega)]
          · rw [if_neg c3, if_neg (by omega)]
    · rintro σ H2 ⟨kw2, v4, rfl, F, gw, lw2, vw2⟩
      refine ⟨_, rfl, q H2 ⟨F.keep _ _ g1 np1, ⟨kw2, gw, fun z => ?_, ?_⟩, ⟨_, F.keep _ _ g3 (Ne.symm ne), ?_, fun t ht => ?_, fun z hz => ?_⟩, ne⟩ ?_⟩
      · rw [vw2]
        unfold madeW
        by_cases c : z = f
        · rw [if_pos c, if_pos c]
        · rw [if_neg c, if_neg c]
          by_cases c3 : f < z ∧ z < f + 1 + h + m
          · rw [if_pos c3, if_pos (by omega)]
          · rw [if_neg c3, if_neg (by omega)]
      · rw [List.length_append, List.length_cons, List.length_nil]; omega
      · rw [eks, List.map_append, List.map_append, ek]; rfl
      · rcases List.mem_append.mp ht with ht | ht
        · obtain ⟨q1, e1', e2'⟩ := vk t ht
          refine ⟨q1, ?_, F.tups _ _ (F0.tups _ _ e2')⟩
          rw [valV_put', if_neg (fun e => nf t ht (by cases e; rfl))]; exact e1'
        · rw [List.mem_singleton.mp ht]
          refine ⟨t1, by rw [valV_put', if_pos rfl], F.tups _ _ g4⟩
      · rw [valV_put', if_neg (fun e => hz _ (List.mem_append_right _ (List.mem_singleton.mpr rfl)) (by cases e; rfl))]
        exact nk z fun t ht => hz t (List.mem_append_left _ ht)
      · exact F0.trans (F.mono fun q e => .inr (.inl e))

end
section
variable {P : Program} {w : World} {K : PySem.W.Frag} {mg : Str → Option Value} {base : Heap} {a : Ad}

def sp_size (C X : Addr) : Sp := fun vs H Q E => ∃ (y : Yd) (z f : Int) (W : Int → Option Int) (S : List (Int × Int × Int)), vs = [.ref y.p, .int z] ∧ YardAt C H y W S f ∧ z.natAbs.log2 < 1920 ∧
  (∀ h m q, (z, h, m) ∈ S → H q = some (.tup [.int h, .int m]) → Q (.ref q) H) ∧ ((∀ t ∈ S, t.1 ≠ z) → E (.ref X) none H)
theorem ok_Yard_size_of (T : Txt K mg a) : FnOk P w K mg base (CX1 P w) 1 a.f_Yard_size_of a.d_Yard_size_of ["self", "at"] (sp_size a.c_Yard a.c_NoThing) := by
  refine T.F_Yard_size_of.okX sc_Yard_size_of (fun vs H Q E h => ?_) (fun cdv A outer s H vs Q E hr h => ?_)
  · obtain ⟨y, z, f, W, S, rfl, _⟩ := h
    rfl
  · obtain ⟨y, z, f, W, S, rfl, ⟨hp, _, ⟨ks, hs, ek, vk, nk⟩, ne⟩, lz, q1, q2⟩ := h
    have hu := hu_of hr
    refine ⟨_, (pss_cons (ps_if (pt_cmp (pc_dnotinF hu (pv 1) (pe_fld (pv 0) (by rfl)))) (pss_one (ps_raise (by rfl) T.x_NoThing (by rfl) T.m_NoThing flies_cx (pa_cons (pe_fstr (by decide) (pv 1)) pa_nil))) pss_nil)
      (pss_one (ps_ret (pe_dgetF hu (pe_fld (pv 0) (by rfl)) (pv 1) (fun _ _ => rfl))))), ?_⟩
    simp! [T.cl_Yard, T.n_free, T.n_words, T.n_sizes, hp, hs, yF_sizes, yF_len, lz]
    by_cases c : ∀ t ∈ S, t.1 ≠ z
    · rw [nk z c]
      rw [if_pos (by rfl)]
      exact fun _ => q2 c
    · have ⟨t, ht, e⟩ : ∃ t ∈ S, t.1 = z := by
        by_cases d : ∃ t ∈ S, t.1 = z
        · exact d
        · exact absurd (fun t ht e => d ⟨t, ht, e⟩) c
      obtain ⟨q, e1, e2⟩ := vk t ht
      subst e
      rw [e1, if_neg (by simp)]
      exact ⟨_, rfl, q1 t.2.1 t.2.2 q ht e2⟩

end
section
variable {P : Program} {w : World} {K : PySem.W.Frag} {mg : Str → Option Value} {base : Heap} {a : Ad}

def sp_set (C X : Addr) : Sp := fun vs H Q E => ∃ (y : Yd) (z v f : Int) (W : Int → Option Int) (S : List (Int × Int × Int)), vs = [.ref y.p, .int z, .int v] ∧ YardAt C H y W S f ∧ S.length ≤ 1000 ∧ z.natAbs.log2 < 1920 ∧
  (∀ x H', W z = some x → (∀ t ∈ S, t.1 ≠ z) → YardAt C H' y (fun z' => if z' = z then some v else W z') S f → Fr (· = y.dw) H H' → Q .non H') ∧ ((W z = none ∨ ∃ t ∈ S, t.1 = z) → E (.ref X) none H)
theorem ok_Yard_set_word (T : Txt K mg a) : FnOk P w K mg base (CX1 P w) 1 a.f_Yard_set_word a.d_Yard_set_word ["self", "spot", "word"] (sp_set a.c_Yard a.c_NoSpot) := by
  refine T.F_Yard_set_word.okX sc_Yard_set_word (fun vs H Q E h => ?_) (fun cdv A outer s H vs Q E hr h => ?_)
  · obtain ⟨y, z, v, f, W, S, rfl, _⟩ := h
    rfl
  · obtain ⟨y, z, v, f, W, S, rfl, ⟨hp, ⟨kw, hw, vw, lw⟩, ⟨ks, hs, ek, vk, nk⟩, ne⟩, lS, lz, q1, q2⟩ := h
    have hu := hu_of hr
    have np1 : y.p ≠ y.dw := ne_of hp hw (by intro z; cases z)
    refine ⟨_, (pss_cons (ps_if (PW.pt (pw_or (pt_cmp (pc_dnotinF hu (pv 1) (pe_fld (pv 0) (by rfl)))) (pw_or1 (pt_cmp (pc_dinF hu (pv 1) (pe_fld (pv 0) (by rfl))))))) (pss_one (ps_raise (by rfl) T.x_NoSpot (by rfl) T.m_NoSpot flies_cx (pa_cons (pe_fstr (by decide) (pv 1)) pa_nil))) pss_nil)
      (pss_one (ps_dputF hu (pe_fld (pv 0) (by rfl)) (pv 1) (pv 2) (by rfl)))), ?_⟩
    simp! [T.cl_Yard, T.n_free, T.n_words, T.n_sizes, hp, hw, hs, yF_words, yF_sizes, yF_len, lz, vw]
    cases e : W z with
    | none => exact fun _ => q2 (.inl e)
    | some x =>
      show if (valV ks (.inl z)).isSome = true then _ else _
      by_cases c : ∀ t ∈ S, t.1 ≠ z
      · rw [nk z c]
        rw [if_neg (by simp)]
        refine ⟨by omega, q1 x _ e c ⟨by rw [upd_ne np1]; exact hp, ⟨_, upd_same, fun z' => ?_, ?_⟩, ⟨ks, by rw [upd_ne ne.symm]; exact hs, ek, fun t ht => ?_, nk⟩, ne⟩ (.put rfl (notTup_dK hw))⟩
        · rw [valV_put', vw]
          by_cases d : z' = z
          · rw [if_pos (by rw [d]), if_pos d]; rfl
          · rw [if_neg (fun e => d (by cases e; rfl)), if_neg d]
        · rw [length_putK_there (by rw [vw, e]; rfl)]; exact lw
        · obtain ⟨q, e1, e2⟩ := vk t ht
          exact ⟨q, e1, (Fr.put (M := (· = y.dw)) rfl (notTup_dK hw)).tups _ _ e2⟩
      · have ⟨t, ht, et⟩ : ∃ t ∈ S, t.1 = z := by
          by_cases d : ∃ t ∈ S, t.1 = z
          · exact d
          · exact absurd (fun t ht e => d ⟨t, ht, e⟩) c
        obtain ⟨q, e1, e2⟩ := vk t ht
        rw [← et, e1, if_pos (by rfl)]
        exact fun _ => q2 (.inr ⟨t, ht, et⟩)

end
section
variable {P : Program} {w : World} {K : PySem.W.Frag} {mg : Str → Option Value} {base : Heap} {a : Ad}

def sp_from (C : Addr) : Sp := fun vs H Q _ => ∃ (y : Yd) (z n f : Int) (W : Int → Option Int) (S : List (Int × Int × Int)) (xs : List Int), vs = [.ref y.p, .int z, .int n] ∧ YardAt C H y W S f ∧ n = xs.length ∧ n ≤ 1000 ∧
  (∀ (i : Nat) (x : Int), xs[i]? = some x → W (z + i) = some x) ∧ ∀ q H', Same H H' → H q = none → H' q = some (.tup (xs.map V.int)) → Q (.ref q) H'
theorem ok_Yard_words_from (T : Txt K mg a) : FnOk P w K mg base (CX1 P w) 1 a.f_Yard_words_from a.d_Yard_words_from ["self", "first", "many"] (sp_from a.c_Yard) := by
  refine T.F_Yard_words_from.okC sc_Yard_words_from (fun vs H Q E h => ?_) (fun cdv A outer s H vs Q E hr h => ?_)
  · obtain ⟨y, z, n, f, W, S, xs, rfl, _⟩ := h
    rfl
  · obtain ⟨y, z, n, f, W, S, xs, rfl, ⟨hp, ⟨kw, hw, vw, lw⟩, _, ne⟩, en, ln, hx, q⟩ := h
    have hu := hu_of hr
    refine ⟨_, (pss_one (ps_ret (pe_callTy call_tuple_of (by rfl) T.z_tuple (by decide +kernel) (pa_cons (pe_comp (N' := ["spot", "self"]) (cap := [none, some 0]) ⟨rfl, (by decide +kernel), (by decide +kernel), (by rfl), rfl, (by rfl)⟩ (by rfl) (pi_rangeA (by rfl) T.z_range (pa_cons (pv 1) (pa_cons (pe_op op_add (pv 1) (pv 2)) pa_nil))) (fun C_ ex_ s_ H_ => (pg_name (i := 0) (show (["spot", "self"] : List Str).Nodup by decide +kernel) (by rfl) (Or.inl rfl))) gkp_name (fun C_ ex_ s_ H_ => pifs_nil) (fun C_ ex_ s_ H_ => (pe_dgetF (by exact hu) (pe_fldK (K := K) (by rfl) (pv 1) (by rfl)) (pv 0) (fun _ _ => rfl)))) pa_nil)))), ?_⟩
    simp! []
    refine compA (H1 := H) z (z + n) ?_ (fun D i ys H2 => ys = (xs.take i).map V.int ∧ H2 = upd H D (.lst ys)) (fun D hD => ⟨rfl, rfl⟩) ?_ (by rw [sizeLine_eq]; omega) ?_ ?_
    · intro Q2 h2
      simp! []
      exact h2
    · rintro D hD i ys H2 hi ⟨rfl, rfl⟩
      exact ⟨upd_same, by simp; omega⟩
    · rintro D hD i ys H2 hi ⟨rfl, rfl⟩
      have hi2 : i < xs.length := by omega
      have e1 : upd H D (.lst ((xs.take i).map V.int)) y.p = some (.ins a.c_Yard y.dx (yF y f)) := upd_old hp hD
      have e2 : upd H D (.lst ((xs.take i).map V.int)) y.dw = some (.dK kw) := upd_old hw hD
      have e3 := hx i _ (List.getElem?_eq_getElem hi2)
      simp! [tTrue, capSt, T.cl_Yard, T.n_words, e1, e2, yF_words, vw, e3, Option.map_some, upd_upd]
      rw [List.take_succ, List.getElem?_eq_getElem hi2, List.map_append]; rfl
    · rintro D hD ys H2 ⟨rfl, rfl⟩
      have et : xs.take (z + n - z).toNat = xs := by rw [List.take_of_length_le]; omega
      rw [et]
      refine ⟨_, rfl, _, .inl ⟨.of upd_same, fun l hl => ?_⟩⟩
      have nl : H l = none := by rw [upd_ne (ne_of_none upd_same hl).symm] at hl; exact hl
      exact q l _ ((Same.laid hD).step hl) nl upd_same
def sp_holds (C : Addr) : Sp := fun vs H Q _ => ∃ (y : Yd) (z f : Int) (W : Int → Option Int) (S : List (Int × Int × Int)) (xs ns : List Int), vs = [.ref y.p, .int z] ∧ YardAt C H y W S f ∧ (z, (xs.length : Int), (ns.length : Int)) ∈ S ∧ xs.length ≤ 9 ∧ ns.length ≤ 9 ∧ z.natAbs.log2 < 1920 ∧
  (∀ (i : Nat) (x : Int), (xs ++ ns)[i]? = some x → W (z + 1 + i) = some x) ∧ (∀ t ∈ S, t.1 = z → t = (z, (xs.length : Int), (ns.length : Int))) ∧ ∀ q H', Same H H' → H q = none → H' q = some (.tup (xs.map V.int)) → Q (.ref q) H'
theorem ok_Yard_holds_of (T : Txt K mg a) : FnOk P w K mg base (CX1 P w) 2 a.f_Yard_holds_of a.d_Yard_holds_of ["self", "at"] (sp_holds a.c_Yard) := by
  refine T.F_Yard_holds_of.okC sc_Yard_holds_of (fun vs H Q E h => ?_) (fun cdv A outer s H vs Q E hr h => ?_)
  · obtain ⟨y, z, f, W, S, xs, ns, rfl, _⟩ := h
    rfl
  · obtain ⟨y, z, f, W, S, xs, ns, rfl, hy, hz, l1, l2, lz, hx, inj, q⟩ := h
    have hu := hu_of hr
    have hp := hy.ins
    refine ⟨_, (pss_cons (ps_set (i := 2) sc_Yard_holds_of.nd (by rfl) (Or.inl rfl) (pe_meth (pv 0) T.cl_Yard T.M_Yard_size_of (ok_Yard_size_of T) (hr.mono (by decide)) T.b_Yard_size_of .nil pass1 (pa_cons (pv 1) pa_nil)))
      (pss_one (ps_ret (pe_meth (pv 0) T.cl_Yard T.M_Yard_words_from (ok_Yard_words_from T) (hr.mono (by decide)) T.b_Yard_words_from .nil pass1 (pa_cons (pe_op op_add (pv 1) pe_int) (pa_cons (pe_ix ix_F (pv 2) pe_int (fun _ _ => rfl)) pa_nil)))))), ?_⟩
    simp! [hp, yF_meth]
    refine ⟨y, z, f, W, S, rfl, hy, lz, fun h m t ht e => ?_, fun h => absurd rfl (h _ hz)⟩
    have et := inj _ ht rfl
    simp only [Prod.mk.injEq] at et
    obtain ⟨_, rfl, rfl⟩ := et
    simp! [hp, yF_meth, e]
    refine ⟨y, z + 1, xs.length, f, W, S, xs, rfl, hy, rfl, by omega, fun i x hi => hx i x ?_, q⟩
    have hl := (List.getElem?_eq_some_iff.mp hi).1
    rw [List.getElem?_append_left hl]; exact hi
def sp_nums (C : Addr) : Sp := fun vs H Q _ => ∃ (y : Yd) (z f : Int) (W : Int → Option Int) (S : List (Int × Int × Int)) (xs ns : List Int), vs = [.ref y.p, .int z] ∧ YardAt C H y W S f ∧ (z, (xs.length : Int), (ns.length : Int)) ∈ S ∧ xs.length ≤ 9 ∧ ns.length ≤ 9 ∧ z.natAbs.log2 < 1920 ∧
  (∀ (i : Nat) (x : Int), (xs ++ ns)[i]? = some x → W (z + 1 + i) = some x) ∧ (∀ t ∈ S, t.1 = z → t = (z, (xs.length : Int), (ns.length : Int))) ∧ ∀ q H', Same H H' → H q = none → H' q = some (.tup (ns.map V.int)) → Q (.ref q) H'
theorem ok_Yard_numbers_of (T : Txt K mg a) : FnOk P w K mg base (CX1 P w) 2 a.f_Yard_numbers_of a.d_Yard_numbers_of ["self", "at"] (sp_nums a.c_Yard) := by
  refine T.F_Yard_numbers_of.okC sc_Yard_numbers_of (fun vs H Q E h => ?_) (fun cdv A outer s H vs Q E hr h => ?_)
  · obtain ⟨y, z, f, W, S, xs, ns, rfl, _⟩ := h
    rfl
  · obtain ⟨y, z, f, W, S, xs, ns, rfl, hy, hz, l1, l2, lz, hx, inj, q⟩ := h
    have hu := hu_of hr
    have hp := hy.ins
    refine ⟨_, (pss_cons (ps_set (i := 2) sc_Yard_numbers_of.nd (by rfl) (Or.inl rfl) (pe_meth (pv 0) T.cl_Yard T.M_Yard_size_of (ok_Yard_size_of T) (hr.mono (by decide)) T.b_Yard_size_of .nil pass1 (pa_cons (pv 1) pa_nil)))
      (pss_one (ps_ret (pe_meth (pv 0) T.cl_Yard T.M_Yard_words_from (ok_Yard_words_from T) (hr.mono (by decide)) T.b_Yard_words_from .nil pass1 (pa_cons (pe_op op_add (pe_op op_add (pv 1) pe_int) (pe_ix ix_F (pv 2) pe_int (fun _ _ => rfl))) (pa_cons (pe_ix ix_F (pv 2) pe_int (fun _ _ => rfl)) pa_nil)))))), ?_⟩
    simp! [hp, yF_meth]
    refine ⟨y, z, f, W, S, rfl, hy, lz, fun h m t ht e => ?_, fun h => absurd rfl (h _ hz)⟩
    have et := inj _ ht rfl
    simp only [Prod.mk.injEq] at et
    obtain ⟨_, rfl, rfl⟩ := et
    simp! [hp, yF_meth, e]
    refine ⟨y, z + 1 + xs.length, ns.length, f, W, S, ns, rfl, hy, rfl, by omega, fun i x hi => ?_, q⟩
    have := hx (xs.length + i) x (by rw [List.getElem?_append_right (by omega), Nat.add_sub_cancel_left]; exact hi)
    rw [← this]; congr 1; omega

end
section
variable {P : Program} {w : World} {K : PySem.W.Frag} {mg : Str → Option Value} {base : Heap} {a : Ad}

def sp_told (C : Addr) : Sp := fun vs H Q _ => ∃ (y : Yd) (s f : Int) (ts : List Th), vs = [.ref y.p] ∧ YardAt C H y (wordAt ts) (ts.map thTri) f ∧ Lay s ts f ∧ ts.length ≤ 1000 ∧ (∀ t ∈ ts, t.2.1.length ≤ 9 ∧ t.2.2.length ≤ 9 ∧ t.1.natAbs.log2 < 1920) ∧
  ∀ l as H', Same H H' → H l = none → RowsAt HO.tup H' l as ts → Q (.ref l) H'
theorem tri_inj {s f : Int} {ts : List Th} {t : Th} (L : Lay s ts f) (ht : t ∈ ts) : ∀ u ∈ ts.map thTri, u.1 = t.1 → u = (t.1, (t.2.1.length : Int), (t.2.2.length : Int)) := fun u hu e => by
  obtain ⟨t', ht', rfl⟩ := List.mem_map.mp hu
  have := L.inj ht' ht e
  subst this
  rfl
theorem tri_word {s f : Int} {ts : List Th} {t : Th} (L : Lay s ts f) (ht : t ∈ ts) : ∀ (i : Nat) (x : Int), (t.2.1 ++ t.2.2)[i]? = some x → wordAt ts (t.1 + 1 + i) = some x := fun i x hx => by
  have hl := (List.getElem?_eq_some_iff.mp hx).1
  rw [List.length_append] at hl
  rw [L.word ht (by omega) (by unfold thSz; omega)]
  unfold thWord thW
  rw [if_neg (by omega), show (t.1 + 1 + (i : Int) - t.1).toNat = i + 1 by omega, List.getElem?_cons_succ]
  exact hx
set_option maxHeartbeats 1000000 in
theorem ok_Yard_told (T : Txt K mg a) : FnOk P w K mg base (CX1 P w) 3 a.f_Yard_told a.d_Yard_told ["self"] (sp_told a.c_Yard) := by
  refine T.F_Yard_told.okC sc_Yard_told (fun vs H Q E h => ?_) (fun cdv A outer s H vs Q E hr h => ?_)
  · obtain ⟨y, s, f, ts, rfl, _⟩ := h
    rfl
  · obtain ⟨y, s, f, ts, rfl, hy, L, l64, sm, q⟩ := h
    have hu := hu_of hr
    have hp := hy.ins
    obtain ⟨ks, hs, ek, vk, nk⟩ := hy.sizes
    have ek' : ks.map (·.1) = (ts.map (·.1)).map Sum.inl := by rw [ek, List.map_map, List.map_map]; rfl
    refine ⟨_, (pss_one (ps_ret (pe_comp (N' := ["at", "self"]) (cap := [none, some 0]) ⟨rfl, (by decide +kernel), (by decide +kernel), (by rfl), rfl, (by rfl)⟩ (by rfl) (pi_list (pe_callB (call_sorted_rise (by rfl)) (by rfl) T.z_sorted (by decide +kernel) (pa_cons (pe_fld (pv 0) (by rfl)) pa_nil))) (fun C_ ex_ s_ H_ => (pg_name (i := 0) (show (["at", "self"] : List Str).Nodup by decide +kernel) (by rfl) (Or.inl rfl))) gkp_name (fun C_ ex_ s_ H_ => pifs_nil) (fun C_ ex_ s_ H_ => (pe_tup (pa_cons (pv 0) (pa_cons (pe_meth (pv 1) T.cl_Yard T.M_Yard_holds_of (ok_Yard_holds_of T) (by exact hr.mono (by decide)) T.b_Yard_holds_of .nil pass1 (pa_cons (pv 0) pa_nil)) (pa_cons (pe_meth (pv 1) T.cl_Yard T.M_Yard_numbers_of (ok_Yard_numbers_of T) (by exact hr.mono (by decide)) T.b_Yard_numbers_of .nil pass1 (pa_cons (pv 0) pa_nil)) pa_nil)))))))), ?_⟩
    simp! []
    refine compL_ (fun l H1 => H l = none ∧ H1 = upd H l (.lst ((ts.map (·.1)).map V.int))) (fun Q2 hQ => ?_) ?_
    · simp! [T.cl_Yard, T.n_sizes, hp, hs, yF_sizes, ek']
      exact ⟨ts.map (·.1), rfl, by rw [List.length_map]; exact l64, L.rising, fun l hl => hQ l _ ⟨hl, rfl⟩⟩
    · rintro l H1 ⟨hl, rfl⟩
      have S1 : Same H (upd H l (.lst ((ts.map (·.1)).map V.int))) := .laid hl
      have hlL : upd H l (.lst ((ts.map (·.1)).map V.int)) l = some (.lst ((ts.map (·.1)).map V.int)) := upd_same
      revert S1 hlL
      generalize upd H l (.lst ((ts.map (·.1)).map V.int)) = H1
      intro S1 hlL
      refine compL (H1 := H1) l _ (fun Q2 h2 => h2) (.of hlL) (fun D i ys H2 => ∃ as : List (Addr × Addr × Addr), as.length = i ∧ ys = as.map (fun a => V.ref a.1) ∧ Same H1 H2 ∧ H2 D = some (.lst ys) ∧
        ∀ (k : Nat) (a : Addr × Addr × Addr) (t : Th), as[k]? = some a → ts[k]? = some t → H2 a.1 = some (.tup [.int t.1, .ref a.2.1, .ref a.2.2]) ∧ H2 a.2.1 = some (.tup (t.2.1.map V.int)) ∧ H2 a.2.2 = some (.tup (t.2.2.map V.int)))
        (fun D hD => ⟨[], rfl, rfl, .laid hD, upd_same, fun k a t h => by simp at h⟩) ?_ (by rw [sizeLine_eq]; simp; omega) ?_ ?_
      · rintro D hD i ys H2 hi ⟨as, e1, rfl, S2, hd, rows⟩
        exact ⟨.of (S2 _ _ hlL), hd, by simp; omega⟩
      · rintro D hD i x ys H2 hi ⟨as, e1, rfl, S2, hd, rows⟩
        have hi' := hi
        rw [List.map_map] at hi'
        obtain ⟨t, ht, rfl⟩ := of_map_get hi'
        have mt : t ∈ ts := List.mem_of_getElem? ht
        obtain ⟨b1, b2, b3⟩ := sm t mt
        have hy2 := hy.same (S1.trans S2)
        have hp2 := hy2.ins
        have mS : (t.1, (t.2.1.length : Int), (t.2.2.length : Int)) ∈ ts.map thTri := List.mem_map.mpr ⟨t, mt, rfl⟩
        simp! [tTrue, capSt, hp2, yF_meth, Function.comp]
        refine ⟨y, t.1, f, _, _, t.2.1, t.2.2, rfl, hy2, mS, b1, b2, b3, tri_word L mt, tri_inj L mt, fun q1 H3 S3 nq1 hq1 => ?_⟩
        have hy3 := hy2.same S3
        have hp3 := hy3.ins
        simp! [tTrue, capSt, hp3, yF_meth, Function.comp]
        refine ⟨y, t.1, f, _, _, t.2.1, t.2.2, rfl, hy3, mS, b1, b2, b3, tri_word L mt, tri_inj L mt, fun q2 H4 S4 nq2 hq2 => ?_⟩
        intro p hp'
        have S5 : Same H2 (upd H4 p (.tup [.int t.1, .ref q1, .ref q2])) := (S3.trans S4).step hp'
        have hd5 := S5 _ _ hd
        have F : Fr (· = D) H2 (upd (upd H4 p (.tup [.int t.1, .ref q1, .ref q2])) D (.lst (as.map (fun a => V.ref a.1) ++ [V.ref p]))) := (Fr.of_same S5).trans (.put rfl (notTup_lst hd5))
        have F6 : Fr (· = D) (upd H4 p (.tup [.int t.1, .ref q1, .ref q2])) (upd (upd H4 p (.tup [.int t.1, .ref q1, .ref q2])) D (.lst (as.map (fun a => V.ref a.1) ++ [V.ref p]))) := .put rfl (notTup_lst hd5)
        refine ⟨hd5, as ++ [(p, q1, q2)], by simp; omega, by simp, ?_, ?_⟩
        · intro c o e
          exact F.keep c o (S2 c o e) (ne_of_none e hD)
        · intro k a' t' ha ht'
          by_cases c : k < as.length
          · rw [List.getElem?_append_left c] at ha
            obtain ⟨r1, r2, r3⟩ := rows k a' t' ha ht'
            exact ⟨F.tups _ _ r1, F.tups _ _ r2, F.tups _ _ r3⟩
          · have hk : k = as.length := by
              have := (List.getElem?_eq_some_iff.mp ha).1
              simp at this; omega
            subst hk
            rw [List.getElem?_append_right (Nat.le_refl _), Nat.sub_self] at ha
            cases ha
            rw [e1, ht] at ht'
            cases ht'
            exact ⟨F6.tups _ _ upd_same, F6.tups _ _ (upd_old (S4 _ _ hq1) hp'), F6.tups _ _ (upd_old hq2 hp')⟩
      · rintro D hD ys H2 ⟨as, e1, rfl, S2, hd, rows⟩
        refine q D as H2 (S1.trans S2) (S1.free hD) ⟨hd, ?_, rows⟩
        rw [e1, List.length_map, List.length_map]

end
section
variable {P : Program} {w : World} {K : PySem.W.Frag} {mg : Str → Option Value} {base : Heap} {a : Ad}

def addrs (ts : List Th) : Int → List Int → List (Int × Int)
  | _, [] => []
  | f, z :: r => (z, f) :: addrs ts (f + thSz (thAt ts z)) r
def endOf (ts : List Th) : Int → List Int → Int
  | f, [] => f
  | f, z :: r => endOf ts (f + thSz (thAt ts z)) r
theorem addrs_snoc {ts : List Th} {z : Int} : ∀ {ord : List Int} {f : Int}, addrs ts f (ord ++ [z]) = addrs ts f ord ++ [(z, endOf ts f ord)]
  | [], f => rfl
  | y :: r, f => by
    show (y, f) :: addrs ts _ (r ++ [z]) = _
    rw [addrs_snoc]; rfl
theorem endOf_snoc {ts : List Th} {z : Int} : ∀ {ord : List Int} {f : Int}, endOf ts f (ord ++ [z]) = endOf ts f ord + thSz (thAt ts z)
  | [], f => rfl
  | y :: r, f => by
    show endOf ts _ (r ++ [z]) = _
    rw [endOf_snoc]; rfl
theorem addrs_keys {ts : List Th} : ∀ {ord : List Int} {f : Int}, (addrs ts f ord).map (·.1) = ord
  | [], _ => rfl
  | z :: r, f => by
    show z :: (addrs ts _ r).map (·.1) = _
    rw [addrs_keys]
theorem addrs_len {ts : List Th} {ord : List Int} {f : Int} : (addrs ts f ord).length = ord.length := by
  have := congrArg List.length (addrs_keys (ts := ts) (ord := ord) (f := f))
  rw [List.length_map] at this
  exact this
def zeroT (ts : List Th) (p : Int × Int) : Th := (p.2, List.replicate (thAt ts p.1).2.1.length 0, List.replicate (thAt ts p.1).2.2.length 0)
theorem zeroT_sz {ts : List Th} {p : Int × Int} : thSz (zeroT ts p) = thSz (thAt ts p.1) := by unfold zeroT thSz; simp
def zeros (ts : List Th) (f : Int) (ord : List Int) : List Th := (addrs ts f ord).map (zeroT ts)
theorem zeros_lay {ts : List Th} : ∀ {ord : List Int} {f : Int}, Lay f (zeros ts f ord) (endOf ts f ord)
  | [], f => rfl
  | z :: r, f => ⟨rfl, by
    have := zeros_lay (ts := ts) (ord := r) (f := f + thSz (thAt ts z))
    rw [zeroT_sz]
    exact this⟩
def plK (ps : List (Int × Int)) : List (Key × V) := (Sum.inl 0, V.int 0) :: ps.map fun p => (Sum.inl p.1, V.int p.2)
theorem plK_val {ps : List (Int × Int)} {z : Int} : valV (plK ps) (.inl z) = if z = 0 then some (.int 0) else (ps.lookup z).map V.int := by
  unfold plK
  by_cases c : z = 0
  · rw [if_pos c, valV_pos (by rw [c])]
  · rw [if_neg c, valV_neg (fun e => c (by injection e with e; exact e.symm))]
    induction ps with
    | nil => rfl
    | cons p r ih =>
      rw [List.map_cons, List.lookup_cons]
      by_cases d : z = p.1
      · have b : (z == p.1) = true := by simpa using d
        rw [valV_pos (by rw [d]), b]; rfl
      · have b : (z == p.1) = false := by simpa using d
        rw [valV_neg (fun e => d (by injection e with e; exact e.symm)), b]
        exact ih
theorem lookup_none {ps : List (Int × Int)} {z : Int} : ps.lookup z = none ↔ z ∉ ps.map (·.1) := by
  induction ps with
  | nil => simp
  | cons p r ih =>
    rw [List.lookup_cons, List.map_cons, List.mem_cons, not_or]
    by_cases d : z = p.1
    · have b : (z == p.1) = true := by simpa using d
      rw [b]
      simp [d]
    · have b : (z == p.1) = false := by simpa using d
      rw [b]
      show r.lookup z = none ↔ _
      rw [ih]
      simp [d]
theorem plK_there {ts : List Th} {f : Int} {ord : List Int} {z : Int} : (valV (plK (addrs ts f ord)) (.inl z)).isSome = true ↔ z = 0 ∨ z ∈ ord := by
  rw [plK_val]
  by_cases c : z = 0
  · rw [if_pos c]; simp [c]
  · rw [if_neg c, Option.isSome_map]
    cases e : (addrs ts f ord).lookup z with
    | none =>
      have := lookup_none.mp e
      rw [addrs_keys] at this
      simp [c, this]
    | some x =>
      have h : ¬ (addrs ts f ord).lookup z = none := by rw [e]; simp
      have : z ∈ ord := by
        by_cases m : z ∈ ord
        · exact m
        · exact absurd (lookup_none.mpr (by rw [addrs_keys]; exact m)) h
      simp [this]
theorem plK_put {ps : List (Int × Int)} {z a : Int} (n : valV (plK ps) (.inl z) = none) : putK (plK ps) (.inl z) (.int a) = plK (ps ++ [(z, a)]) := by
  have hn : ¬ ((plK ps).any fun kv => decide (kv.1 = Sum.inl z)) = true := fun y => by
    obtain ⟨kv, m, e⟩ := List.any_eq_true.mp y
    unfold valV at n
    rw [Option.map_eq_none_iff, List.find?_eq_none] at n
    exact n kv m e
  unfold putK
  rw [if_neg hn]
  unfold plK
  rw [List.map_append]
  rfl
theorem plK_len {ps : List (Int × Int)} : (plK ps).length = ps.length + 1 := by unfold plK; rw [List.length_cons, List.length_map]
/-- the list of pairs -/
structure PrAt (H : Hp) (l : Addr) (as : List Addr) (ps : List (Int × Int)) : Prop where
  top : H l = some (.lst (as.map V.ref))
  len : as.length = ps.length
  row : ∀ (i : Nat) (p : Addr) (x : Int × Int), as[i]? = some p → ps[i]? = some x → H p = some (.tup [.int x.1, .int x.2])
theorem PrAt.fr {H H' : Hp} {M : Addr → Prop} {l : Addr} {as : List Addr} {ps : List (Int × Int)} (x : PrAt H l as ps) (f : Fr M H H') (n : ¬ M l) : PrAt H' l as ps := ⟨f.keep _ _ x.top n, x.len, fun i p y h1 h2 => f.tups _ _ (x.row i p y h1 h2)⟩
theorem PrAt.snoc {H H' : Hp} {M : Addr → Prop} {l p : Addr} {as : List Addr} {ps : List (Int × Int)} {x : Int × Int} (f : Fr M H H') (h : ∀ (i : Nat) (p : Addr) (x : Int × Int), as[i]? = some p → ps[i]? = some x → H p = some (.tup [.int x.1, .int x.2])) (len : as.length = ps.length)
    (top : H' l = some (.lst (as.map V.ref ++ [.ref p]))) (hp : H' p = some (.tup [.int x.1, .int x.2])) : PrAt H' l (as ++ [p]) (ps ++ [x]) := ⟨by rw [top, List.map_append]; rfl, by rw [List.length_append, List.length_append, len]; rfl, fun i q y h1 h2 => by
  by_cases d : i < ps.length
  · rw [List.getElem?_append_left d] at h2
    rw [List.getElem?_append_left (by rw [len]; exact d)] at h1
    exact f.tups _ _ (h i q y h1 h2)
  · have e : i = ps.length := by
      have := (List.getElem?_eq_some_iff.mp h2).1
      rw [List.length_append, List.length_singleton] at this
      omega
    rw [e] at h1 h2
    rw [List.getElem?_append_right (Nat.le_refl _), Nat.sub_self] at h2
    rw [← len, List.getElem?_append_right (Nat.le_refl _), Nat.sub_self] at h1
    cases h1
    cases h2
    exact hp⟩
theorem thAt_mem {ts : List Th} {s f : Int} (L : Lay s ts f) {t : Th} (h : t ∈ ts) : thAt ts t.1 = t := by
  unfold thAt
  cases e : ts.find? fun u => u.1 == t.1 with
  | none =>
    have := List.find?_eq_none.mp e t h
    simp at this
  | some u =>
    have hu := List.mem_of_find?_eq_some e
    have eu := List.find?_some e
    exact L.inj hu h (by simpa using eu)

end
section
variable {P : Program} {w : World} {K : PySem.W.Frag} {mg : Str → Option Value} {base : Heap} {a : Ad}

/-- a hold that can be led over -/
def Gd (ts : List Th) (h : Int) : Prop := h = 0 ∨ ∃ t ∈ ts, t.1 = h
instance (ts : List Th) (h : Int) : Decidable (Gd ts h) := inferInstanceAs (Decidable (_ ∨ _))
/-- a hold of nothing is met -/
def Bad (ts : List Th) (roots : List Int) : Prop := ∃ (done ord : List Int) (h : Int), Going ts roots done ord ∧ done ++ [h] <+: stream ts roots ord ∧ ¬ Gd ts h
theorem going_one {ts : List Th} {roots o1 o2 : List Int} (led : ∀ n, n < o1.length → o1.take (n + 1) <+: layO [] (stream ts roots (o1.take n))) (c2 : Cart ts roots o2) : ∀ n, n ≤ o1.length → o1.take n = o2.take n ∧ n ≤ o2.length
  | 0, _ => ⟨rfl, Nat.zero_le _⟩
  | n + 1, h => by
    obtain ⟨e, l⟩ := going_one led c2 n (by omega)
    have p1 := led n (by omega)
    rw [e] at p1
    have p2 : layO [] (stream ts roots (o2.take n)) <+: o2 := by
      have := layO_mono (stream_pre (ts := ts) (roots := roots) (List.take_prefix n o2))
      rw [c2.fix] at this
      exact this
    have p := p1.trans p2
    have len : (o1.take (n + 1)).length = n + 1 := by rw [List.length_take]; omega
    have e2 := List.prefix_iff_eq_take.mp p
    rw [len] at e2
    exact ⟨e2, by have := p.length_le; omega⟩
theorem bad_not {ts : List Th} {roots ord : List Int} (b : Bad ts roots) (c : Cart ts roots ord) (g : ∀ h ∈ stream ts roots ord, Gd ts h) : False := by
  obtain ⟨done, o1, h, go, pre, nh⟩ := b
  obtain ⟨e, l⟩ := going_one go.led c _ (Nat.le_refl _)
  rw [List.take_length] at e
  have : o1 <+: ord := by rw [e]; exact List.take_prefix _ _
  exact nh (g h ((pre.trans (stream_pre this)).mem (by simp)))

/-- the old yard, the fresh one, and where things went -/
structure Crt (C : Addr) (H : Hp) (y yf : Yd) (pd pl : Addr) (ts : List Th) (s f f0 : Int) (ord : List Int) (prs : List Addr) : Prop where
  old : YardAt C H y (wordAt ts) (ts.map thTri) f
  lay : Lay s ts f
  new : YardAt C H yf (wordAt (zeros ts f0 ord)) ((zeros ts f0 ord).map thTri) (endOf ts f0 ord)
  places : H pd = some (.dK (plK (addrs ts f0 ord)))
  pairs : PrAt H pl prs (addrs ts f0 ord)
  nd : ord.Nodup
  th : ∀ z ∈ ord, ∃ t ∈ ts, t.1 = z
def CM (yf : Yd) (pd pl : Addr) : Addr → Prop := fun q => YM yf q ∨ q = pd ∨ q = pl
structure CrtN (y yf : Yd) (pd pl : Addr) : Prop where
  p : ¬ CM yf pd pl y.p
  w : ¬ CM yf pd pl y.dw
  s : ¬ CM yf pd pl y.ds
  d1 : pd ≠ yf.dw
  d2 : pd ≠ yf.ds
structure ThOk (ts : List Th) : Prop where
  len : ts.length ≤ 900
  small : ∀ t ∈ ts, t.2.1.length ≤ 9 ∧ t.2.2.length ≤ 9
  log : ∀ t ∈ ts, t.1.natAbs.log2 < 1920
theorem nodup_sub : ∀ {a b : List Int}, a.Nodup → (∀ x ∈ a, x ∈ b) → a.length ≤ b.length
  | [], _, _, _ => Nat.zero_le _
  | x :: r, b, n, h => by
    obtain ⟨nx, nr⟩ := List.nodup_cons.mp n
    have hx := h x List.mem_cons_self
    have := nodup_sub (b := b.erase x) nr fun y hy => (List.mem_erase_of_ne (show y ≠ x from fun e => nx (by rw [← e]; exact hy))).mpr (h y (List.mem_cons_of_mem _ hy))
    rw [List.length_erase_of_mem hx] at this
    have := List.length_pos_of_mem hx
    rw [List.length_cons]; omega
theorem nodup_len {ord : List Int} {ts : List Th} (n : ord.Nodup) (h : ∀ z ∈ ord, ∃ t ∈ ts, t.1 = z) : ord.length ≤ ts.length := by
  have := nodup_sub (b := ts.map (·.1)) n fun z hz => by obtain ⟨t, ht, e⟩ := h z hz; exact List.mem_map.mpr ⟨t, ht, e⟩
  rw [List.length_map] at this
  exact this
def sp_held (K : PySem.W.Frag) (C X : Addr) : Sp := fun vs H Q E => ∃ (y yf : Yd) (hr pd pl : Addr) (ts : List Th) (s f f0 : Int) (ord hs : List Int) (prs : List Addr), vs = [.ref y.p, .ref yf.p, .ref hr, .ref pd, .ref pl] ∧ Crt C H y yf pd pl ts s f f0 ord prs ∧ CrtN y yf pd pl ∧ ThOk ts ∧
  ((H hr = some (.lst (hs.map V.int)) ∧ ¬ CM yf pd pl hr) ∨ H hr = some (.tup (hs.map V.int))) ∧ hs.length ≤ 1000 ∧ (∀ h ∈ hs, h.natAbs.log2 < 1920) ∧ (∀ (i : Nat) (h : Int) (H' : Hp), hs[i]? = some h → ¬ Gd ts h → (∀ z ∈ hs.take i, Gd ts z) → Fr (CM yf pd pl) H H' → E (.ref X) none H') ∧
  ∀ (H' : Hp) (prs' : List Addr), (∀ h ∈ hs, Gd ts h) → Crt C H' y yf pd pl ts s f f0 (layO ord hs) prs' → Fr (CM yf pd pl) H H' → Q .non H'
set_option maxHeartbeats 1000000 in
theorem ok_lay_held (T : Txt K mg a) : FnOk P w K mg base (CX1 P w) 3 a.f_lay_held a.d_lay_held ["yard", "fresh", "holds", "places", "pairs"] (sp_held K a.c_Yard a.c_NoThing) := by
  refine T.F_lay_held.okX sc_lay_held (fun vs H Q E h => ?_) (fun cdv A outer s H vs Q E hr h => ?_)
  · obtain ⟨y, yf, hr, pd, pl, ts, s, f, f0, ord, hs, prs, rfl, _⟩ := h
    rfl
  · obtain ⟨y, yf, hl, pd, pl, ts, s, f, f0, ord, hs, prs, rfl, c, n, ok, hh, lh, lgs, qx, q⟩ := h
    have hu := hu_of hr
    refine ⟨_, (pss_one (ps_for PassesOwn.leaving (by rfl) (pi_seq (pv 2)) (pg_name (i := 5) sc_lay_held.nd (by rfl) (Or.inl rfl))
      (pss_one (ps_if (pt_cmp (pc_dnotinF hu (pv 5) (pv 3))) (pss_cons (ps_set (i := 6) sc_lay_held.nd (by rfl) (Or.inl rfl) (pe_meth (pv 0) T.cl_Yard T.M_Yard_size_of (ok_Yard_size_of T) (hr.mono (by decide)) T.b_Yard_size_of .nil passes_cx (pa_cons (pv 5) pa_nil)))
      (pss_cons (ps_dputF hu (pv 3) (pv 5) (pe_meth (pv 1) T.cl_Yard T.M_Yard_make (ok_Yard_make T) (hr.mono (by decide)) T.b_Yard_make .nil passes_cx (pa_cons (pe_ix ix_F (pv 6) pe_int (fun _ _ => rfl)) (pa_cons (pe_ix ix_F (pv 6) pe_int (fun _ _ => rfl)) pa_nil))) (by rfl))
      (pss_one (ps_expr (pe_bm PySem.F.plainAttrs_list PySem.F.slot_list_append PySem.F.type_list_append mt_append (pv 4) (pa_cons (pe_tup (pa_cons (pv 5) (pa_cons (pe_dgetF hu (pv 3) (pv 5) (fun _ _ => rfl)) pa_nil))) pa_nil)))))) pss_nil)))), ?_⟩
    simp! []
    refine forQ (H1 := H) hl (hs.map V.int) (fun Q2 h2 => by simp! []; exact h2) (fun i σ H2 => ∃ (prs2 : List Addr) (v5 v6 : Option V), σ = [some (.ref y.p), some (.ref yf.p), some (.ref hl), some (.ref pd), some (.ref pl), v5, v6] ∧ Crt a.c_Yard H2 y yf pd pl ts s f f0 (layO ord (hs.take i)) prs2 ∧ Fr (CM yf pd pl) H H2 ∧ ∀ z ∈ hs.take i, Gd ts z)
      ⟨prs, _, _, rfl, c, .refl, fun _ h => absurd h List.not_mem_nil⟩ ?_ ?_ ?_
    · rcases hh with ⟨e, nm⟩ | e
      · exact .inl fun i σ H2 _ ⟨_, _, _, _, _, F, _⟩ => .of (F.keep _ _ e nm)
      · exact .inr fun i σ H2 _ ⟨_, _, _, _, _, F, _⟩ => .of (F.tups _ _ e)
    · rintro i x σ H2 hx ⟨prs2, v5, v6, rfl, c2, F2, gd2⟩
      obtain ⟨h, hi, rfl⟩ := of_map_get hx
      have et : layO ord (hs.take (i + 1)) = stepO (layO ord (hs.take i)) h := by rw [List.take_succ, hi]; exact layO_snoc
      rw [et]
      have gnx : Gd ts h → ∀ z ∈ hs.take (i + 1), Gd ts z := fun g z hz => by
        rw [List.take_succ, hi] at hz
        rcases List.mem_append.mp hz with m | m
        · exact gd2 z m
        · rw [List.mem_singleton.mp m]; exact g
      have tdS : ∀ od : List Int, (∀ z ∈ od, ∃ t ∈ ts, t.1 = z) → h = 0 ∨ h ∈ od → Gd ts h := fun od th x => x.imp id (th h)
      revert c2
      generalize layO ord (hs.take i) = od
      intro c2
      have hpd := c2.places
      simp! [hpd]
      by_cases there : h = 0 ∨ h ∈ od
      · have e1 := (plK_there (ts := ts) (f := f0) (ord := od)).mpr there
        rw [if_neg (by rw [e1]; simp), show stepO od h = od from if_pos there]
        exact ⟨prs2, c2, F2, gnx (tdS od c2.th there)⟩
      · have e1 : (valV (plK (addrs ts f0 od)) (Sum.inl h)).isSome = false := by
          cases e : (valV (plK (addrs ts f0 od)) (Sum.inl h)).isSome with
          | false => rfl
          | true => exact absurd (plK_there.mp e) there
        have e2 : valV (plK (addrs ts f0 od)) (Sum.inl h) = none := by
          cases e : valV (plK (addrs ts f0 od)) (Sum.inl h) with
          | none => rfl
          | some z => rw [e] at e1; cases e1
        rw [if_pos e1, show stepO od h = od ++ [h] from if_neg there]
        have o1 := c2.old.ins
        by_cases gh : Gd ts h
        case neg =>
          refine ⟨y.dx, _, o1, yF_meth.2.2.1, y, h, f, _, _, rfl, c2.old, lgs h (List.mem_of_getElem? hi), fun hh mm q' hq hqt => ?_, fun hn => qx i h H2 hi gh gd2 F2⟩
          obtain ⟨u, hu', e⟩ := List.mem_map.mp hq
          exact absurd (.inr ⟨u, hu', congrArg (·.1) e⟩) gh
        have gnx2 := gnx gh
        obtain ⟨t, mt, rfl⟩ : ∃ t ∈ ts, t.1 = h := by
          rcases gh with z | z
          · exact absurd (.inl z) there
          · exact z
        have eth := thAt_mem c2.lay mt
        refine ⟨y.dx, _, o1, yF_meth.2.2.1, y, t.1, f, _, _, rfl, c2.old, ok.log t mt, fun hh mm q' hq hqt => ?_, fun hn => absurd rfl (hn _ (List.mem_map.mpr ⟨t, mt, rfl⟩))⟩
        obtain ⟨rfl, rfl⟩ : hh = t.2.1.length ∧ mm = t.2.2.length := by
          obtain ⟨u, hu', e⟩ := List.mem_map.mp hq
          have eu : u.1 = t.1 := congrArg (·.1) e
          have := c2.lay.inj hu' mt eu
          subst this
          cases e
          exact ⟨rfl, rfl⟩
        have n1 := c2.new.ins
        obtain ⟨s1, s2⟩ := ok.small t mt
        have lo := nodup_len c2.nd c2.th
        have lz : ((zeros ts f0 od).map thTri).length = od.length := by unfold zeros; rw [List.length_map, List.length_map, addrs_len]
        simp! [n1, yF_meth, hqt]
        refine ⟨yf, _, _, _, _, _, rfl, by omega, by omega, by omega, by omega, c2.new, ?_, by rw [lz]; have := ok.len; omega, fun H3 Y3 F3 => ?_⟩
        · intro u hu'
          obtain ⟨v, hv, rfl⟩ := List.mem_map.mp hu'
          have := zeros_lay.mem hv
          have := thSz_pos v
          show v.1 ≠ _
          omega
        have npd : ¬ YM yf pd := fun m => by
          rcases m with z | z | z
          · rw [z, n1] at hpd; cases hpd
          · exact n.d1 z
          · exact n.d2 z
        have npl : ¬ YM yf pl := fun m => by
          have hpl := c2.pairs.top
          obtain ⟨kw, hw, _⟩ := c2.new.words
          obtain ⟨ks, hs', _⟩ := c2.new.sizes
          rcases m with z | z | z
          · rw [z, n1] at hpl; cases hpl
          · rw [z, hw] at hpl; cases hpl
          · rw [z, hs'] at hpl; cases hpl
        have pd3 := F3.keep _ _ hpd npd
        refine ⟨_, pd3, by rw [plK_len, addrs_len]; have := ok.len; omega, ?_⟩
        rw [plK_put e2]
        have F4 : Fr (· = pd) H3 (upd H3 pd (.dK (plK (addrs ts f0 od ++ [(t.1, endOf ts f0 od)])))) := .put rfl (notTup_dK pd3)
        have hpd4 : upd H3 pd (.dK (plK (addrs ts f0 od ++ [(t.1, endOf ts f0 od)]))) pd = some (.dK (plK (addrs ts f0 od ++ [(t.1, endOf ts f0 od)]))) := upd_same
        have pr3 := c2.pairs.fr F3 npl
        have npp : pl ≠ pd := fun e => by
          have := c2.pairs.top
          rw [e, hpd] at this; cases this
        have pr4 := pr3.fr F4 npp
        have Y4 := Y3.fr F4 (fun e => npd (.inl e.symm)) (fun e => npd (.inr (.inl e.symm))) (fun e => npd (.inr (.inr e.symm)))
        have F24 : Fr (CM yf pd pl) H2 (upd H3 pd (.dK (plK (addrs ts f0 od ++ [(t.1, endOf ts f0 od)])))) := (F3.mono fun q m => .inl m).trans (F4.mono fun q m => .inr (.inl m))
        revert F4 hpd4 pr4 Y4 F24
        generalize upd H3 pd (.dK (plK (addrs ts f0 od ++ [(t.1, endOf ts f0 od)]))) = H4
        intro F4 hpd4 pr4 Y4 F24
        have top4 := pr4.top
        have val : valV (plK (addrs ts f0 od ++ [(t.1, endOf ts f0 od)])) (Sum.inl t.1) = some (.int (endOf ts f0 od)) := by
          rw [← plK_put e2, valV_put', if_pos rfl]
        simp! [tBM, hpd4, val]
        refine ⟨.inl ⟨rfl, _, .of top4⟩, fun tp htp => ?_⟩
        have top5 := upd_old (u := .tup [.int t.1, .int (endOf ts f0 od)]) top4 htp
        have F5 : Fr (· = pl) (upd H4 tp (.tup [.int t.1, .int (endOf ts f0 od)])) (upd (upd H4 tp (.tup [.int t.1, .int (endOf ts f0 od)])) pl (.lst (prs2.map V.ref ++ [.ref tp]))) := .put rfl (notTup_lst top5)
        have F45 : Fr (· = pl) H4 (upd (upd H4 tp (.tup [.int t.1, .int (endOf ts f0 od)])) pl (.lst (prs2.map V.ref ++ [.ref tp]))) := (Fr.laid htp).trans F5
        have FA := F24.trans (F45.mono fun q m => (.inr (.inr m) : CM yf pd pl q))
        refine ⟨pl, _, _, rfl, rfl, top5, by rw [sizeLine_eq, List.length_map, pr4.len, addrs_len]; have := ok.len; omega, prs2 ++ [tp], ⟨?_, c2.lay, ?_, ?_, ?_, ?_, ?_⟩, F2.trans FA, gnx2⟩
        · exact c2.old.fr FA n.p n.w n.s
        · have Y5 := Y4.fr F45 (fun e => npl (.inl e.symm)) (fun e => npl (.inr (.inl e.symm))) (fun e => npl (.inr (.inr e.symm)))
          have ez : zeros ts f0 (od ++ [t.1]) = zeros ts f0 od ++ [(endOf ts f0 od, List.replicate t.2.1.length 0, List.replicate t.2.2.length 0)] := by
            unfold zeros
            rw [addrs_snoc, List.map_append]
            show _ ++ [zeroT ts (t.1, endOf ts f0 od)] = _
            unfold zeroT
            rw [eth]
          have eW : madeW (wordAt (zeros ts f0 od)) (endOf ts f0 od) t.2.1.length t.2.2.length = wordAt (zeros ts f0 (od ++ [t.1])) := by
            rw [ez]
            exact funext fun u => (zeros_lay.newWord (h := t.2.1.length) (m := t.2.2.length) u).symm
          have eT : (zeros ts f0 od).map thTri ++ [(endOf ts f0 od, (t.2.1.length : Int), (t.2.2.length : Int))] = (zeros ts f0 (od ++ [t.1])).map thTri := by
            rw [ez, List.map_append]
            simp [thTri]
          have eE : endOf ts f0 od + 1 + t.2.1.length + t.2.2.length = endOf ts f0 (od ++ [t.1]) := by
            rw [endOf_snoc, eth]; unfold thSz; omega
          rw [eW, eT, eE] at Y5
          exact Y5
        · rw [addrs_snoc]
          exact F45.keep _ _ hpd4 npp.symm
        · rw [addrs_snoc]
          exact PrAt.snoc F45 pr4.row pr4.len upd_same (F5.tups _ _ upd_same)
        · rw [List.nodup_append]
          refine ⟨c2.nd, by simp, fun x hx y hy e => ?_⟩
          rw [List.mem_singleton.mp hy] at e
          exact there (.inr (e ▸ hx))
        · intro z hz
          rcases List.mem_append.mp hz with m | m
          · exact c2.th z m
          · exact ⟨t, mt, (List.mem_singleton.mp m).symm⟩
    · rintro σ H2 ⟨prs2, v5, v6, rfl, c2, F2, gd2⟩
      rw [List.length_map, List.take_length] at c2 gd2
      exact q H2 prs2 gd2 c2 F2

end
section
variable {P : Program} {w : World} {K : PySem.W.Frag} {mg : Str → Option Value} {base : Heap} {a : Ad}

def laidW (W : Int → Option Int) (first : Int) (ws : List Int) : Int → Option Int := fun z => if first ≤ z ∧ z < first + ws.length then ws[(z - first).toNat]? else W z
theorem laidW_nil {W : Int → Option Int} {first : Int} : laidW W first [] = W := by
  funext z
  unfold laidW
  rw [if_neg (fun h => by simp at h; omega)]
theorem laidW_snoc {W : Int → Option Int} {first v : Int} {ws : List Int} : (fun z => if z = first + ws.length then some v else laidW W first ws z) = laidW W first (ws ++ [v]) := by
  funext z
  unfold laidW
  rw [List.length_append, List.length_singleton]
  by_cases c : z = first + ws.length
  · rw [if_pos c, if_pos (by omega), show (z - first).toNat = ws.length by omega, List.getElem?_append_right (Nat.le_refl _), Nat.sub_self]
    rfl
  · rw [if_neg c]
    by_cases d : first ≤ z ∧ z < first + ws.length
    · rw [if_pos d, if_pos (by omega), List.getElem?_append_left (by omega)]
    · rw [if_neg d, if_neg (by omega)]
def sp_lwords (C : Addr) : Sp := fun vs H Q _ => ∃ (y : Yd) (wl : Addr) (first f : Int) (ws : List Int) (W : Int → Option Int) (S : List (Int × Int × Int)), vs = [.ref y.p, .int first, .ref wl] ∧ YardAt C H y W S f ∧ H wl = some (.lst (ws.map V.int)) ∧ S.length ≤ 1000 ∧ ws.length ≤ 1000 ∧
  (∀ z, first ≤ z → z < first + ws.length → (∃ x, W z = some x) ∧ (∀ t ∈ S, t.1 ≠ z) ∧ z.natAbs.log2 < 1920) ∧
  ∀ H', YardAt C H' y (laidW W first ws) S f → Fr (· = y.dw) H H' → Q .non H'
theorem ok_lay_words (T : Txt K mg a) : FnOk P w K mg base (CX1 P w) 2 a.f_lay_words a.d_lay_words ["fresh", "first", "words"] (sp_lwords a.c_Yard) := by
  refine T.F_lay_words.okC sc_lay_words (fun vs H Q E h => ?_) (fun cdv A outer s H vs Q E hr h => ?_)
  · obtain ⟨y, wl, first, f, ws, W, S, rfl, _⟩ := h
    rfl
  · obtain ⟨y, wl, first, f, ws, W, S, rfl, hy, hw, lS, lw, ok, q⟩ := h
    have hu := hu_of hr
    refine ⟨_, (pss_one (ps_for PassesOwn.never (by rfl) (pi_enum (by rfl) T.z_enumerate (pa_cons (pv 2) pa_nil)) (pg_tup (n := 2) (by rfl) (pgs_cons (pg_name (i := 3) sc_lay_words.nd (by rfl) (Or.inl rfl)) (pgs_cons (pg_name (i := 4) sc_lay_words.nd (by rfl) (Or.inl rfl)) pgs_nil)))
      (pss_one (ps_expr (pe_meth (pv 0) T.cl_Yard T.M_Yard_set_word (ok_Yard_set_word T) (hr.mono (by decide)) T.b_Yard_set_word .nil pass1 (pa_cons (pe_op op_add (pv 1) (pv 3)) (pa_cons (pv 4) pa_nil))))))), ?_⟩
    have nw : wl ≠ y.dw := fun e => by
      obtain ⟨kw, h, _⟩ := hy.words
      rw [e, h] at hw; cases hw
    simp! []
    refine forE (H1 := H) wl _ (fun Q2 h2 => by simp! []; exact h2) (fun i σ H2 => ∃ v3 v4, σ = [some (.ref y.p), some (.int first), some (.ref wl), v3, v4] ∧ YardAt a.c_Yard H2 y (laidW W first (ws.take i)) S f ∧ Fr (· = y.dw) H H2)
      ⟨_, _, rfl, by rw [List.take_zero, laidW_nil]; exact hy, .refl⟩ (fun i σ H2 _ ⟨_, _, _, _, F⟩ => .of (F.keep _ _ hw nw)) ?_ ?_
    · rintro i x p σ H2 hx ⟨v3, v4, rfl, Y, F⟩ hp
      obtain ⟨v, hi, rfl⟩ := of_map_get hx
      have il := (List.getElem?_eq_some_iff.mp hi).1
      refine gTup_of upd_same rfl ?_
      have Y2 := Y.same (.laid (u := .tup [.int i, .int v]) hp)
      have hp2 := Y2.ins
      obtain ⟨⟨x0, hx0⟩, nt, lg⟩ := ok (first + i) (by omega) (by omega)
      have lt : (ws.take i).length = i := by rw [List.length_take]; omega
      simp! [hp2, yF_meth]
      refine ⟨y, first + i, v, f, _, _, rfl, Y2, lS, lg, fun x1 H3 _ _ Y3 F3 => ?_, fun hn => ?_⟩
      · have e : ws.take (i + 1) = ws.take i ++ [v] := by rw [List.take_succ, hi]; rfl
        have Y4 : YardAt a.c_Yard H3 y (laidW W first (ws.take (i + 1))) S f := by
          rw [e, ← laidW_snoc, lt]
          exact Y3
        exact ⟨Y4, (F.trans (.laid hp)).trans F3⟩
      · exfalso
        rcases hn with hn | ⟨t, ht, et⟩
        · unfold laidW at hn
          rw [if_neg (by rw [lt]; omega), hx0] at hn
          cases hn
        · exact nt t ht et
    · rintro σ H2 ⟨v3, v4, rfl, Y, F⟩
      rw [List.length_map, List.take_length] at Y
      exact q H2 Y F
def mvOf (ps : List (Int × Int)) (h : Int) : Int := if h = 0 then 0 else (ps.lookup h).getD 0
def fullT (ts : List Th) (ps : List (Int × Int)) (p : Int × Int) : Th := (p.2, (thAt ts p.1).2.1.map (mvOf ps), (thAt ts p.1).2.2)
theorem fullT_tri {ts : List Th} {ps : List (Int × Int)} {p : Int × Int} : thTri (fullT ts ps p) = thTri (zeroT ts p) := by unfold fullT zeroT thTri; simp
theorem fullT_sz {ts : List Th} {ps : List (Int × Int)} {p : Int × Int} : thSz (fullT ts ps p) = thSz (thAt ts p.1) := by unfold fullT thSz; simp
def mix (ts : List Th) (ps : List (Int × Int)) (i : Nat) : List Th := (ps.take i).map (fullT ts ps) ++ (ps.drop i).map (zeroT ts)
def fulls (ts : List Th) (f : Int) (ord : List Int) : List Th := (addrs ts f ord).map (fullT ts (addrs ts f ord))
theorem mix_all {ts : List Th} {ps : List (Int × Int)} : mix ts ps ps.length = ps.map (fullT ts ps) := by unfold mix; rw [List.take_length, List.drop_length]; simp
theorem mix_tri {ts : List Th} {ps : List (Int × Int)} {i : Nat} : (mix ts ps i).map thTri = (ps.map (zeroT ts)).map thTri := by
  unfold mix
  rw [List.map_append, List.map_map, List.map_map, List.map_map]
  have e : (thTri ∘ fullT ts ps) = (thTri ∘ zeroT ts) := funext fun p => fullT_tri
  rw [e, ← List.map_append, List.take_append_drop]
theorem mix_at {ts : List Th} {ps : List (Int × Int)} {i : Nat} {p : Int × Int} (h : ps[i]? = some p) : (mix ts ps i)[i]? = some (zeroT ts p) := by
  have il := (List.getElem?_eq_some_iff.mp h).1
  have l : ((ps.take i).map (fullT ts ps)).length = i := by rw [List.length_map, List.length_take]; omega
  unfold mix
  rw [List.getElem?_append_right (by omega), l, Nat.sub_self, List.getElem?_map, List.getElem?_drop, Nat.add_zero, h]
  rfl
theorem mix_succ {ts : List Th} {ps : List (Int × Int)} {i : Nat} {p : Int × Int} (h : ps[i]? = some p) : mix ts ps (i + 1) = (mix ts ps i).set i (fullT ts ps p) := by
  obtain ⟨il, e⟩ := List.getElem?_eq_some_iff.mp h
  have l : ((ps.take i).map (fullT ts ps)).length = i := by rw [List.length_map, List.length_take]; omega
  have d : ps.drop i = p :: ps.drop (i + 1) := by rw [List.drop_eq_getElem_cons il, e]
  unfold mix
  rw [List.set_append_right _ _ (by omega), l, Nat.sub_self, d, List.map_cons, List.set_cons_zero, List.take_succ, h, List.map_append, List.append_assoc]
  rfl
theorem Lay.of_tri : ∀ {a b : List Th} {s f : Int}, a.map thTri = b.map thTri → Lay s a f → Lay s b f
  | [], [], s, f, _, L => L
  | [], _ :: _, _, _, e, _ => by cases e
  | _ :: _, [], _, _, e, _ => by cases e
  | x :: a, y :: b, s, f, e, ⟨h1, h2⟩ => by
    rw [List.map_cons, List.map_cons] at e
    injection e with e1 e2
    have q1 : x.1 = y.1 := congrArg (·.1) e1
    have q2 : (x.2.1.length : Int) = y.2.1.length := congrArg (·.2.1) e1
    have q3 : (x.2.2.length : Int) = y.2.2.length := congrArg (·.2.2) e1
    refine ⟨by omega, ?_⟩
    have sz : thSz x = thSz y := by unfold thSz; omega
    rw [← sz]
    exact Lay.of_tri e2 h2
theorem mix_lay {ts : List Th} {f : Int} {ord : List Int} {i : Nat} : Lay f (mix ts (addrs ts f ord) i) (endOf ts f ord) := Lay.of_tri (a := zeros ts f ord) (by rw [mix_tri]; rfl) zeros_lay
theorem mix_words {ts : List Th} {f : Int} {ord : List Int} {i : Nat} {p : Int × Int} (h : (addrs ts f ord)[i]? = some p) :
    laidW (wordAt (mix ts (addrs ts f ord) i)) (p.2 + 1) ((thAt ts p.1).2.1.map (mvOf (addrs ts f ord)) ++ (thAt ts p.1).2.2) = wordAt (mix ts (addrs ts f ord) (i + 1)) := by
  have a0 := mix_at (ts := ts) h
  have a1 := mix_succ (ts := ts) h
  have L1 := mix_lay (ts := ts) (f := f) (ord := ord) (i := i + 1)
  have il := (List.getElem?_eq_some_iff.mp a0).1
  have m1 : fullT ts (addrs ts f ord) p ∈ mix ts (addrs ts f ord) (i + 1) := by
    rw [a1]
    exact List.mem_of_getElem? (List.getElem?_set_self il)
  have s1 : (fullT ts (addrs ts f ord) p).1 = p.2 := rfl
  have s2 := fullT_sz (ts := ts) (ps := addrs ts f ord) (p := p)
  have s3 : thSz (thAt ts p.1) = 1 + (thAt ts p.1).2.1.length + (thAt ts p.1).2.2.length := rfl
  funext z
  unfold laidW
  rw [List.length_append, List.length_map]
  by_cases c : p.2 + 1 ≤ z ∧ z < p.2 + 1 + ((thAt ts p.1).2.1.length + (thAt ts p.1).2.2.length : Nat)
  · rw [if_pos c, L1.word m1 (by omega) (by omega)]
    unfold thWord thW
    rw [if_neg (by omega), s1, show (z - p.2).toNat = (z - (p.2 + 1)).toNat + 1 by omega, List.getElem?_cons_succ]
    rfl
  · rw [if_neg c, a1, wordAt_same a0]
    by_cases d : z = p.2
    · have e1 : thWord (fullT ts (addrs ts f ord) p) z = some (16 * ((fullT ts (addrs ts f ord) p).2.1.length : Int) + (fullT ts (addrs ts f ord) p).2.2.length) := by rw [d]; exact thWord_head
      have e2 : thWord (zeroT ts p) z = some (16 * ((zeroT ts p).2.1.length : Int) + (zeroT ts p).2.2.length) := by rw [d]; exact thWord_head
      rw [e1, e2]
      unfold fullT zeroT
      simp
    · rw [thWord_none.mpr, thWord_none.mpr]
      · show z < p.2 ∨ p.2 + thSz (zeroT ts p) ≤ z
        rw [zeroT_sz]; omega
      · show z < p.2 ∨ p.2 + thSz (fullT ts (addrs ts f ord) p) ≤ z
        rw [s2]; omega

end
section
variable {P : Program} {w : World} {K : PySem.W.Frag} {mg : Str → Option Value} {base : Heap} {a : Ad}

structure CartOk (ts : List Th) (f : Int) (roots : List Int) : Prop where
  rts : ∀ h ∈ roots, h.natAbs.log2 < 1920
  holds : ∀ t ∈ ts, ∀ h ∈ t.2.1, h.natAbs.log2 < 1920
  nr : roots.length ≤ 1000
  f0 : 0 ≤ f
  f1 : f ≤ 10 ^ 61
theorem endOf_le {ts : List Th} (sm : ∀ t ∈ ts, t.2.1.length ≤ 9 ∧ t.2.2.length ≤ 9) : ∀ {ord : List Int} {f : Int}, endOf ts f ord ≤ f + 19 * ord.length
  | [], f => by show f ≤ _; simp
  | z :: r, f => by
    have i := endOf_le sm (ord := r) (f := f + thSz (thAt ts z))
    show endOf ts (f + thSz (thAt ts z)) r ≤ _
    have : thSz (thAt ts z) ≤ 19 := by
      unfold thSz thAt
      cases e : ts.find? fun t => t.1 == z with
      | none => simp
      | some u =>
        have := sm u (List.mem_of_find?_eq_some e)
        simp; omega
    rw [List.length_cons]
    omega
theorem log_small' {z : Int} (h : z.natAbs < 2 ^ 1920) : z.natAbs.log2 < 1920 := by
  by_cases c : z.natAbs = 0
  · rw [c]; decide
  · exact (Nat.log2_lt c).mpr h
theorem Crt.same {C : Addr} {H H' : Hp} {y yf : Yd} {pd pl : Addr} {ts : List Th} {s f f0 : Int} {ord : List Int} {prs : List Addr} (x : Crt C H y yf pd pl ts s f f0 ord prs) (S : Same H H') : Crt C H' y yf pd pl ts s f f0 ord prs :=
  ⟨x.old.same S, x.lay, x.new.same S, S _ _ x.places, x.pairs.fr (.of_same (M := fun _ => False) S) (fun z => z), x.nd, x.th⟩
theorem Going.list {ts : List Th} {roots : List Int} : ∀ {hs done ord : List Int}, Going ts roots done ord → done ++ hs <+: stream ts roots ord → Going ts roots (done ++ hs) (layO ord hs)
  | [], done, ord, g, _ => by rw [List.append_nil]; exact g
  | h :: hs, done, ord, g, p => by
    have e : done ++ h :: hs = (done ++ [h]) ++ hs := by simp
    rw [e] at p ⊢
    have g1 := g.step ((List.prefix_append _ _).trans p)
    exact Going.list g1 (p.trans (stream_pre stepO_pre))
theorem yard_new {C x dx dw ds : Addr} {H H' : Hp} (hx : H x = none) (hdx : H dx = none) (nx : dx ≠ x) (n1 : upd (upd H dx (.own x)) x (.ins C dx []) dw = none) (n2 : upd (upd H dx (.own x)) x (.ins C dx []) ds = none)
    (f : Fr (· = x) (upd (upd H dx (.own x)) x (.ins C dx [])) H') : Same H H' ∧ H dw = none ∧ H ds = none := by
  have g1 : upd (upd H dx (.own x)) x (.ins C dx []) dx = some (.own x) := by rw [upd_ne nx]; exact upd_same
  have g2 : upd (upd H dx (.own x)) x (.ins C dx []) x = some (.ins C dx []) := upd_same
  have a1 : dw ≠ x := (ne_of_none g2 n1).symm
  have a2 : dw ≠ dx := (ne_of_none g1 n1).symm
  have a3 : ds ≠ x := (ne_of_none g2 n2).symm
  have a4 : ds ≠ dx := (ne_of_none g1 n2).symm
  rw [upd_ne a1, upd_ne a2] at n1
  rw [upd_ne a3, upd_ne a4] at n2
  exact ⟨fun q o e => f.keep q o (by rw [upd_ne (ne_of_none e hx), upd_ne (ne_of_none e hdx)]; exact e) (ne_of_none e hx), n1, n2⟩
def sp_carted (C X : Addr) : Sp := fun vs H Q E => ∃ (y : Yd) (rl : Addr) (ts : List Th) (s f : Int) (roots : List Int), vs = [.ref y.p, .ref rl] ∧ YardAt C H y (wordAt ts) (ts.map thTri) f ∧ Lay s ts f ∧ ThOk ts ∧ H rl = some (.lst (roots.map V.int)) ∧ CartOk ts f roots ∧ (∀ H', Bad ts roots → Same H H' → E (.ref X) none H') ∧
  ∀ (r : Addr) (yf : Yd) (pl : Addr) (prs : List Addr) (ord : List Int) (H' : Hp), (∀ h ∈ stream ts roots ord, Gd ts h) → Cart ts roots ord → ord.Nodup → (∀ z ∈ ord, ∃ t ∈ ts, t.1 = z) → H' r = some (.tup [.ref yf.p, .ref pl]) → YardAt C H' yf (wordAt (fulls ts f ord)) ((fulls ts f ord).map thTri) (endOf ts f ord) → PrAt H' pl prs (addrs ts f ord) → Same H H' →
    H yf.p = none → H yf.dw = none → H yf.ds = none → H pl = none → Q (.ref r) H'
set_option maxHeartbeats 2000000 in
theorem ok_carted (T : Txt K mg a) : FnOk P w K mg base (CX1 P w) 4 a.f_carted a.d_carted ["yard", "roots"] (sp_carted a.c_Yard a.c_NoThing) := by
  refine T.F_carted.okX sc_carted (fun vs H Q E h => ?_) (fun cdv A outer s H vs Q E hr h => ?_)
  · obtain ⟨y, rl, ts, s, f, roots, rfl, _⟩ := h
    rfl
  · obtain ⟨y, rl, ts, s, f, roots, rfl, hy, L, ok, hrl, co, qx, q⟩ := h
    have hu := hu_of hr
    refine ⟨_, (pss_cons (ps_set (i := 2) sc_carted.nd (by rfl) (Or.inl rfl) (pe_make T.M_Yard (ok_Yard___init T) (hr.mono (by decide)) (by rfl) T.m_Yard T.b_Yard___init .nil passes_cx (pa_cons (pe_fld (pv 0) (by rfl)) pa_nil)))
      (pss_cons (ps_set (i := 3) sc_carted.nd (by rfl) (Or.inr rfl) (pe_disp (pps_cons pe_int pe_int pps_nil) (by rfl) (by rfl) (List.cons_ne_nil _ _) (Nat.le_of_ble_eq_true (by rfl))))
      (pss_cons (ps_set (i := 4) sc_carted.nd (by rfl) (Or.inl rfl) (pe_lst pa_nil))
      (pss_cons (ps_expr (pe_call (ok_lay_held T) (hr.mono (by decide)) (by rfl) T.m_lay_held T.F_lay_held.kp T.b_lay_held .nil passes_cx (pa_cons (pv 0) (pa_cons (pv 2) (pa_cons (pv 1) (pa_cons (pv 3) (pa_cons (pv 4) pa_nil)))))))
      (pss_cons (ps_set (i := 5) sc_carted.nd (by rfl) (Or.inl rfl) pe_int)
      (pss_cons (ps_while PassesOwn.leaving (pt_cmpR op_lt (pv 5) (pe_callB call_lenF (by rfl) T.z_len (by decide +kernel) (pa_cons (pv 4) pa_nil)) (nomark _)) (pss_cons (ps_expr (pe_call (ok_lay_held T) (hr.mono (by decide)) (by rfl) T.m_lay_held T.F_lay_held.kp T.b_lay_held .nil passes_cx (pa_cons (pv 0) (pa_cons (pv 2) (pa_cons (pe_meth (pv 0) T.cl_Yard T.M_Yard_holds_of (ok_Yard_holds_of T) (hr.mono (by decide)) T.b_Yard_holds_of .nil passes_cx (pa_cons (pe_ix ix_F (pe_ix ix_F (pv 4) (pv 5) (fun _ _ => rfl)) pe_int (fun _ _ => rfl)) pa_nil)) (pa_cons (pv 3) (pa_cons (pv 4) pa_nil)))))))
      (pss_one (ps_aug (i := 5) sc_carted.nd (by rfl) (Or.inl rfl) pe_int ip_add))))
      (pss_cons (ps_for PassesOwn.leaving (by rfl) (pi_list (pv 4)) (pg_tup (n := 2) (by rfl) (pgs_cons (pg_name (i := 6) sc_carted.nd (by rfl) (Or.inl rfl)) (pgs_cons (pg_name (i := 7) sc_carted.nd (by rfl) (Or.inl rfl)) pgs_nil)))
      (pss_cons (ps_setc (i := 8) sc_carted.nd (by rfl) (Or.inl rfl) (N' := ["hold", "places"]) (cap := [none, some 3]) ⟨rfl, (by decide +kernel), (by decide +kernel), (by rfl), rfl, (by rfl)⟩ (by rfl) (pi_tup (pe_meth (pv 0) T.cl_Yard T.M_Yard_holds_of (ok_Yard_holds_of T) (hr.mono (by decide)) T.b_Yard_holds_of .nil passes_cx (pa_cons (pv 6) pa_nil))) (fun C_ ex_ s_ H_ => (pg_name (i := 0) (show (["hold", "places"] : List Str).Nodup by decide +kernel) (by rfl) (Or.inl rfl))) gkp_name (fun C_ ex_ s_ H_ => pifs_nil) (fun C_ ex_ s_ H_ => (pe_dgetF (by exact hu) (pv 1) (pv 0) (fun _ _ => rfl))))
      (pss_one (ps_expr (pe_call (ok_lay_words T) (hr.mono (by decide)) (by rfl) T.m_lay_words T.F_lay_words.kp T.b_lay_words .nil passes_cx (pa_cons (pv 2) (pa_cons (pe_op op_add (pv 7) pe_int) (pa_cons (pe_op op_cat (pv 8) (pe_callTy call_list_of (by rfl) T.z_list (by decide +kernel) (pa_cons (pe_meth (pv 0) T.cl_Yard T.M_Yard_numbers_of (ok_Yard_numbers_of T) (hr.mono (by decide)) T.b_Yard_numbers_of .nil passes_cx (pa_cons (pv 6) pa_nil)) pa_nil))) pa_nil))))))))
      (pss_one (ps_ret (pe_tup (pa_cons (pv 2) (pa_cons (pv 4) pa_nil)))))))))))), ?_⟩
    have hp := hy.ins
    simp! [T.cl_Yard, T.n_free, T.n_words, T.n_sizes, hp, yF_free, yF_len]
    intro x dx hx hdx nx
    refine ⟨x, dx, f, rfl, upd_same, fun dw ds H1 hdw hds Y F => ⟨rfl, ?_⟩⟩
    obtain ⟨S1, ndw, nds⟩ := yard_new hx hdx nx hdw hds F
    clear F hdw hds
    intro pd npd
    refine ⟨upd_same, [(Sum.inl 0, V.int 0)], rfl, by simp, ?_⟩
    rw [upd_upd]
    rw [show mergeK [] [((Sum.inl 0 : Key), V.int 0)] = plK (addrs ts f []) from rfl]
    intro pl npl
    have S2 : Same H1 (upd H1 pd (.dK (plK (addrs ts f [])))) := .laid npd
    have S3 := S2.step npl (u := .lst [])
    have hpd3 : upd (upd H1 pd (.dK (plK (addrs ts f [])))) pl (.lst []) pd = some (.dK (plK (addrs ts f []))) := upd_old upd_same npl
    have hpl3 : upd (upd H1 pd (.dK (plK (addrs ts f [])))) pl (.lst []) pl = some (.lst []) := upd_same
    have npd0 : H pd = none := S1.free npd
    have npl0 : H pl = none := (S1.trans S2).free npl
    obtain ⟨kw, hkw, _⟩ := Y.words
    obtain ⟨ks, hks, _⟩ := Y.sizes
    have d1 : pd ≠ dw := (ne_of_none hkw npd).symm
    have d2 : pd ≠ ds := (ne_of_none hks npd).symm
    have S03 := S1.trans S3
    revert S03 hpd3 hpl3
    have Y3 := Y.same S3
    revert Y3
    generalize upd (upd H1 pd (.dK (plK (addrs ts f [])))) pl (.lst []) = H3
    intro Y3 hpd3 hpl3 S03
    clear S3 S2 npd npl hkw hks Y S1
    generalize hyf : (⟨x, dx, dw, ds⟩ : Yd) = yf at Y3
    have e1 : yf.p = x := by rw [← hyf]
    have e2 : yf.dw = dw := by rw [← hyf]
    have e3 : yf.ds = ds := by rw [← hyf]
    rw [← e1] at hx ⊢
    rw [← e2] at ndw d1
    rw [← e3] at nds d2
    clear hyf e1 e2 e3 hdx nx
    have cmN : ∀ q, CM yf pd pl q → H q = none := fun q m => by
      rcases m with (z | z | z) | z | z
      · rw [z]; exact hx
      · rw [z]; exact ndw
      · rw [z]; exact nds
      · rw [z]; exact npd0
      · rw [z]; exact npl0
    have notCM : ∀ {q o}, H q = some o → ¬ CM yf pd pl q := fun h m => by rw [cmN _ m] at h; cases h
    obtain ⟨kw, hkw, _⟩ := hy.words
    obtain ⟨ks, hks, _⟩ := hy.sizes
    have cn : CrtN y yf pd pl := ⟨notCM hp, notCM hkw, notCM hks, d1, d2⟩
    have c3 : Crt a.c_Yard H3 y yf pd pl ts s f f [] [] := ⟨hy.same S03, L, Y3, hpd3, ⟨hpl3, rfl, fun i p x h => by simp at h⟩, List.nodup_nil, by simp⟩
    refine ⟨y, yf, rl, pd, pl, ts, s, f, f, [], roots, [], rfl, c3, cn, ok, .inl ⟨S03 _ _ hrl, notCM hrl⟩, co.nr, co.rts, fun i h H4 hi nh ga F4 => ?_, fun H4 prs4 ga4 c4 F4 => ?_⟩
    · have g0 : Going ts roots (roots.take i) (layO [] (roots.take i)) := Going.list (hs := roots.take i) Going.nil (by unfold stream; rw [List.nil_append]; exact (List.take_prefix _ _).trans (List.prefix_append _ _))
      refine qx H4 ⟨roots.take i, _, h, g0, ?_, nh⟩ fun q o e => F4.keep _ _ (S03 _ _ e) (notCM e)
      have : roots.take i ++ [h] = roots.take (i + 1) := by rw [List.take_succ, hi]; rfl
      rw [this]
      unfold stream
      exact (List.take_prefix _ _).trans (List.prefix_append _ _)
    have g0 : Going ts roots roots (layO [] roots) := Going.list (hs := roots) Going.nil (by unfold stream; simp)
    refine ⟨fun m σ H5 => ∃ (dn : Nat) (ord : List Int) (prs : List Addr) (v6 v7 v8 : Option V), σ = [some (.ref y.p), some (.ref rl), some (.ref yf.p), some (.ref pd), some (.ref pl), some (.int dn), v6, v7, v8] ∧ m = ts.length + 1 - dn ∧ dn ≤ ord.length ∧ Crt a.c_Yard H5 y yf pd pl ts s f f ord prs ∧ Going ts roots (stream ts roots (ord.take dn)) ord ∧ Fr (CM yf pd pl) H3 H5 ∧ ∀ h ∈ stream ts roots (ord.take dn), Gd ts h,
      ⟨_, 0, layO [] roots, prs4, _, _, _, rfl, rfl, Nat.zero_le _, c4, by rw [List.take_zero, stream, List.flatMap_nil, List.append_nil]; exact g0, F4, by rw [List.take_zero, stream, List.flatMap_nil, List.append_nil]; exact ga4⟩, ?_⟩
    rintro m σ H5 ⟨dn, ord, prs, v6, v7, v8, rfl, rfl, dl, c5, g5, F5, ga5⟩
    have top5 := c5.pairs.top
    have pln : prs.length = ord.length := by rw [c5.pairs.len, addrs_len]
    have oln := nodup_len c5.nd c5.th
    simp! [top5, List.length_map]
    refine ite2 (fun lt => ?_) fun ge => ?_
    · have dlt : dn < ord.length := by omega
      refine ⟨fun σ' H' => ∃ (ord' : List Int) (prs' : List Addr) (v6 v7 v8 : Option V), σ' = [some (.ref y.p), some (.ref rl), some (.ref yf.p), some (.ref pd), some (.ref pl), some (.int ((dn : Int) + 1)), v6, v7, v8] ∧ dn + 1 ≤ ord'.length ∧ Crt a.c_Yard H' y yf pd pl ts s f f ord' prs' ∧ Going ts roots (stream ts roots (ord'.take (dn + 1))) ord' ∧ Fr (CM yf pd pl) H3 H' ∧ ∀ h ∈ stream ts roots (ord'.take (dn + 1)), Gd ts h, ?_, ?_⟩
      · rintro σ' H' ⟨ord', prs', v6, v7, v8, rfl, h1, h2, h3, h4, h5⟩
        have := nodup_len h2.nd h2.th
        exact ⟨ts.length + 1 - (dn + 1), by omega, dn + 1, ord', prs', v6, v7, v8, by rw [Int.natCast_add]; rfl, rfl, h1, h2, h3, h4, h5⟩
      · have hz := List.getElem?_eq_getElem dlt
        obtain ⟨t, mt, et⟩ := c5.th _ (List.getElem_mem dlt)
        have hpr : (addrs ts f ord)[dn]? = some (ord[dn], ((addrs ts f ord)[dn]'(by rw [addrs_len]; exact dlt)).2) := by
          rw [List.getElem?_eq_getElem (by rw [addrs_len]; exact dlt)]
          have k1 := congrArg (·[dn]?) (addrs_keys (ts := ts) (ord := ord) (f := f))
          rw [List.getElem?_map, List.getElem?_eq_getElem (by rw [addrs_len]; exact dlt), hz] at k1
          have k2 := Option.some.inj k1
          rw [← k2]
        have pl2 : dn < prs.length := by omega
        have row := c5.pairs.row dn prs[dn] _ (List.getElem?_eq_getElem pl2) hpr
        have a1 : atI (prs.map V.ref) ((dn : Nat) : Int) = some (.ref prs[dn]) := atI_nat (by rw [List.getElem?_map, List.getElem?_eq_getElem pl2]; rfl)
        rw [← et] at row hz
        have op := c5.old.ins
        simp! [top5, a1, row, op, yF_meth]
        have mS : (t.1, (t.2.1.length : Int), (t.2.2.length : Int)) ∈ ts.map thTri := List.mem_map.mpr ⟨t, mt, rfl⟩
        obtain ⟨b1, b2⟩ := ok.small t mt
        refine ⟨y, t.1, f, _, _, t.2.1, t.2.2, rfl, c5.old, mS, b1, b2, ok.log t mt, tri_word L mt, tri_inj L mt, fun q1 H6 S6 nq1 hq1 => ?_⟩
        simp! []
        have tk : ord.take (dn + 1) = ord.take dn ++ [t.1] := by rw [List.take_succ, hz]; rfl
        have hh : holdsAt ts t.1 = t.2.1 := by unfold holdsAt; rw [thAt_mem L mt]
        have st : stream ts roots (ord.take (dn + 1)) = stream ts roots (ord.take dn) ++ t.2.1 := by
          unfold stream
          rw [tk, List.flatMap_append, List.flatMap_singleton, hh, List.append_assoc]
        have pst : stream ts roots (ord.take (dn + 1)) <+: stream ts roots ord := stream_pre (List.take_prefix _ _)
        refine ⟨y, yf, q1, pd, pl, ts, s, f, f, ord, t.2.1, prs, rfl, c5.same S6, cn, ok, .inr hq1, by omega, co.holds t mt, fun i h H7 hi nh ga F7 => ?_, fun H7 prs7 ga7 c7 F7 => ?_⟩
        · have pp : stream ts roots (ord.take dn) ++ t.2.1.take (i + 1) <+: stream ts roots ord := by
            refine List.IsPrefix.trans ?_ pst
            rw [st]
            obtain ⟨r, hr'⟩ := List.take_prefix (i + 1) t.2.1
            exact ⟨r, by rw [List.append_assoc, hr']⟩
          have tke : t.2.1.take (i + 1) = t.2.1.take i ++ [h] := by rw [List.take_succ, hi]; rfl
          have g6 := Going.list (hs := t.2.1.take i) g5 (by
            refine List.IsPrefix.trans ?_ pp
            rw [tke, ← List.append_assoc]
            exact List.prefix_append _ _)
          refine qx H7 ⟨_, _, h, g6, ?_, nh⟩ fun q o e => (F5.trans (.of_same S6)).trans F7 |>.keep _ _ (S03 _ _ e) (notCM e)
          rw [List.append_assoc, ← tke]
          exact pp.trans (stream_pre layO_pre)
        have g7 := Going.list (hs := t.2.1) g5 (by rw [← st]; exact stream_pre (List.take_prefix _ _))
        rw [← st] at g7
        have pre : ord <+: layO ord t.2.1 := layO_pre
        have tk7 : (layO ord t.2.1).take (dn + 1) = ord.take (dn + 1) := by
          obtain ⟨r, hr'⟩ := pre
          rw [← hr', List.take_append_of_le_length (by omega)]
        exact ⟨layO ord t.2.1, by have := pre.length_le; omega, prs7, c7, by rw [tk7]; exact g7, (F5.trans (.of_same S6)).trans F7, by rw [tk7, st]; exact fun z hz => (List.mem_append.mp hz).elim (ga5 z) (ga7 z)⟩
    · have edn : dn = ord.length := by omega
      rw [edn, List.take_length] at g5 ga5
      have cart := g5.done
      clear g5 edn dl ge g0 c4 F4
      have lo := nodup_len c5.nd c5.th
      have inOrd : ∀ z ∈ ord, ∀ h ∈ (thAt ts z).2.1, h = 0 ∨ h ∈ ord := fun z hz h hh => by
        by_cases c : h = 0
        · exact .inl c
        · right
          have : h ∈ stream ts roots ord := List.mem_append_right _ (List.mem_flatMap.mpr ⟨z, hz, hh⟩)
          have := (mem_layO (hs := stream ts roots ord) (ord := [])).mpr (.inr ⟨this, c⟩)
          rw [cart.fix] at this
          exact this
      have hpd5 := c5.places
      refine forL (H1 := H5) pl (prs.map V.ref) (fun Q2 h2 => by simp! []; exact h2) (fun i σ H6 => ∃ (v6 v7 v8 : Option V), σ = [some (.ref y.p), some (.ref rl), some (.ref yf.p), some (.ref pd), some (.ref pl), some (.int dn), v6, v7, v8] ∧ YardAt a.c_Yard H6 yf (wordAt (mix ts (addrs ts f ord) i)) ((zeros ts f ord).map thTri) (endOf ts f ord) ∧ Fr (· = yf.dw) H5 H6)
        ⟨_, _, _, rfl, c5.new, .refl⟩ ?_ ?_ ?_
      · rintro i σ H6 _ ⟨_, _, _, _, _, F6⟩
        refine .of (F6.keep _ _ top5 (fun e => ?_))
        obtain ⟨k, hk, _⟩ := c5.new.words
        rw [e, hk] at top5; cases top5
      · rintro i x σ H6 hx ⟨v6, v7, v8, rfl, Y6, F6⟩
        obtain ⟨p, hpi, rfl⟩ := of_map_get hx
        have ilt : i < ord.length := by rw [← pln]; exact (List.getElem?_eq_some_iff.mp hpi).1
        have hpr := List.getElem?_eq_getElem (l := addrs ts f ord) (i := i) (by rw [addrs_len]; exact ilt)
        have k1 : (addrs ts f ord)[i]'(by rw [addrs_len]; exact ilt) ∈ addrs ts f ord := List.getElem_mem _
        revert hpr k1
        generalize (addrs ts f ord)[i]'(by rw [addrs_len]; exact ilt) = pr
        intro hpr k1
        have mo : pr.1 ∈ ord := by
          have := List.mem_map_of_mem (f := (·.1)) k1
          rw [addrs_keys] at this
          exact this
        obtain ⟨t, mt, et⟩ := c5.th _ mo
        have eth : thAt ts pr.1 = t := by rw [← et]; exact thAt_mem L mt
        have row := c5.pairs.row i p pr hpi hpr
        have row6 := F6.tups _ _ row
        refine gTup_of row6 rfl ?_
        have ndwO : ∀ {q o}, H q = some o → q ≠ yf.dw := fun h => ne_of_none h ndw
        have old6 := c5.old.fr F6 (ndwO hp) (ndwO hkw) (ndwO hks)
        have npdw : pd ≠ yf.dw := d1
        have pd6 := F6.keep _ _ hpd5 npdw
        have op := old6.ins
        have mS : (t.1, (t.2.1.length : Int), (t.2.2.length : Int)) ∈ ts.map thTri := List.mem_map.mpr ⟨t, mt, rfl⟩
        obtain ⟨b1, b2⟩ := ok.small t mt
        simp! []
        refine compT_ (fun q1 H7 => Same H6 H7 ∧ H7 q1 = some (.tup (t.2.1.map V.int))) (fun Q2 hQ => ?_) ?_
        · simp! [op, yF_meth]
          rw [← et]
          exact ⟨y, t.1, f, _, _, t.2.1, t.2.2, rfl, old6, mS, b1, b2, ok.log t mt, tri_word L mt, tri_inj L mt, fun q1 H7 S7 nq1 hq1 => hQ q1 H7 ⟨S7, hq1⟩⟩
        rintro q1 H7 ⟨S7, hq1⟩
        have pd7 := S7 _ _ pd6
        refine compT (H1 := H7) q1 _ (fun Q2 h2 => h2) (.of hq1) (fun D j ys H8 => ys = ((t.2.1.take j).map (mvOf (addrs ts f ord))).map V.int ∧ H8 = upd H7 D (.lst ys)) (fun D hD => ⟨rfl, rfl⟩) ?_ (by rw [sizeLine_eq, List.length_map]; omega) ?_ ?_
        · rintro D hD j ys H8 hj ⟨rfl, rfl⟩
          exact ⟨.of (upd_old hq1 hD), upd_same, by simp; omega⟩
        · rintro D hD j x ys H8 hj ⟨rfl, rfl⟩
          obtain ⟨h, hjh, rfl⟩ := of_map_get hj
          have pd8 := upd_old (u := .lst (((t.2.1.take j).map (mvOf (addrs ts f ord))).map V.int)) pd7 hD
          have val : valV (plK (addrs ts f ord)) (Sum.inl h) = some (.int (mvOf (addrs ts f ord) h)) := by
            have io := inOrd _ mo h (by rw [eth]; exact List.mem_of_getElem? hjh)
            have some_ := (plK_there (ts := ts) (f := f) (ord := ord) (z := h)).mpr io
            rw [plK_val] at some_ ⊢
            unfold mvOf
            by_cases c : h = 0
            · rw [if_pos c, if_pos c]
            · rw [if_neg c] at some_ ⊢
              rw [if_neg c]
              rw [Option.isSome_map] at some_
              obtain ⟨v, hv⟩ := Option.isSome_iff_exists.mp some_
              rw [hv]; rfl
          simp! [capSt, tTrue, pd8, val, upd_upd]
          rw [List.take_succ, hjh, List.map_append, List.map_append]; rfl
        · rintro D hD ys H8 ⟨rfl, rfl⟩
          have tkl : t.2.1.take (t.2.1.map V.int).length = t.2.1 := by rw [List.length_map, List.take_length]
          rw [tkl]
          have S8 := S7.step hD (u := .lst ((t.2.1.map (mvOf (addrs ts f ord))).map V.int))
          have hD8 : upd H7 D (.lst ((t.2.1.map (mvOf (addrs ts f ord))).map V.int)) D = some (.lst ((t.2.1.map (mvOf (addrs ts f ord))).map V.int)) := upd_same
          revert S8 hD8
          generalize upd H7 D (.lst ((t.2.1.map (mvOf (addrs ts f ord))).map V.int)) = H8
          intro S8 hD8
          have old8 := old6.same S8
          have op8 := old8.ins
          simp! [op8, yF_meth]
          rw [← et]
          refine ⟨y, t.1, f, _, _, t.2.1, t.2.2, rfl, old8, mS, b1, b2, ok.log t mt, tri_word L mt, tri_inj L mt, fun q2 H9 S9 nq2 hq2 => ?_⟩
          refine ⟨q2, rfl, _, .inr (.of hq2), fun l hl => ?_⟩
          refine ⟨D, l, _, _, rfl, rfl, upd_old (S9 _ _ hD8) hl, upd_same, by rw [sizeLine_eq]; simp; omega, fun p2 hp2 => ?_⟩
          have S10 : Same H6 (upd (upd H9 l (.lst (t.2.2.map V.int))) p2 (.lst ((t.2.1.map (mvOf (addrs ts f ord))).map V.int ++ t.2.2.map V.int))) := ((S8.trans S9).step hl).step hp2
          have zin : zeroT ts pr ∈ mix ts (addrs ts f ord) i := List.mem_of_getElem? (mix_at hpr)
          have zin2 : zeroT ts pr ∈ zeros ts f ord := List.mem_map.mpr ⟨pr, k1, rfl⟩
          have zs : thSz (zeroT ts pr) = 1 + t.2.1.length + t.2.2.length := by rw [zeroT_sz, eth]; rfl
          have ML := mix_lay (ts := ts) (f := f) (ord := ord) (i := i)
          have zm := zeros_lay.mem zin2
          have zb := endOf_le ok.small (ord := ord) (f := f)
          have fb := co.f1
          have f0 := co.f0
          have tl := ok.len
          have z1 : (zeroT ts pr).1 = pr.2 := rfl
          refine ⟨yf, p2, pr.2 + 1, endOf ts f ord, t.2.1.map (mvOf (addrs ts f ord)) ++ t.2.2, _, _, rfl, Y6.same S10, by rw [List.map_append]; exact upd_same, by unfold zeros; rw [List.length_map, List.length_map, addrs_len]; omega, by rw [List.length_append, List.length_map]; omega, fun z h1 h2 => ⟨?_, ?_, ?_⟩, fun H11 Y11 F11 => ⟨?_, ?_⟩⟩
          · rw [List.length_append, List.length_map] at h2
            rw [ML.word zin (by omega) (by omega)]
            cases e : thWord (zeroT ts pr) z with
            | some x => exact ⟨x, rfl⟩
            | none =>
              have := thWord_none.mp e
              omega
          · intro u hu' e
            rw [List.length_append, List.length_map] at h2
            obtain ⟨v, hv, rfl⟩ := List.mem_map.mp hu'
            have e' : v.1 = z := e
            have := zeros_lay.apart zin2 hv (by omega)
            omega
          · refine log_small' ?_
            rw [List.length_append, List.length_map] at h2
            have p1 : (10 : Nat) ^ 62 < 2 ^ 1920 := by decide
            have p2 : (10 : Int) ^ 61 + 20000 ≤ ((10 ^ 62 : Nat) : Int) := by decide
            omega
          · have := mix_words (ts := ts) hpr
            rw [eth] at this
            rw [← this]
            exact Y11
          · exact (F6.trans (.of_same S10)).trans F11
      · rintro σ H6 ⟨v6, v7, v8, rfl, Y6, F6⟩
        rw [List.length_map, c5.pairs.len, mix_all] at Y6
        simp! []
        intro r hr'
        have S7 : Same H6 (upd H6 r (.tup [.ref yf.p, .ref pl])) := .laid hr'
        have et : (zeros ts f ord).map thTri = (fulls ts f ord).map thTri := by
          have := mix_tri (ts := ts) (ps := addrs ts f ord) (i := (addrs ts f ord).length)
          rw [mix_all] at this
          exact this.symm
        have npl : pl ≠ yf.dw := fun e => by
          obtain ⟨k, hk, _⟩ := c5.new.words
          rw [e, hk] at top5; cases top5
        rw [et] at Y6
        refine q r yf pl prs ord _ ga5 cart c5.nd c5.th upd_same (Y6.same S7) ((c5.pairs.fr F6 npl).fr (.of_same (M := fun _ => False) S7) (fun z => z)) ?_ hx ndw nds npl0
        intro c' o h
        exact S7 _ _ (F6.keep _ _ (F5.keep _ _ (S03 _ _ h) (notCM h)) (ne_of_none h ndw))

end
section
variable {P : Program} {w : World} {K : PySem.W.Frag} {mg : Str → Option Value} {base : Heap} {a : Ad}

theorem Kp.fr {b : Addr} {H H' : Hp} {ys : List V} (x : Kp b H H') (hb : H b = some (.lst ys)) : Fr (· = b) H H' := ⟨x, fun q xs h => x q _ h (fun e => by rw [e, hb] at h; cases h)⟩
theorem BagAt.kfr {b c : Addr} {cs : List Int} {H H' : Hp} (x : BagAt H b c cs) (k : Kp b H H') : Fr (· = b) H H' := by
  obtain ⟨⟨i, v, st, n, e, _⟩, _⟩ := x
  exact k.fr e
def sp_whole : Sp := fun vs H Q _ => ∃ i : Int, vs = [.int i] ∧ Q (.bl true) H
theorem ok_law_whole (T : Txt K mg a) : FnOk P w K mg base (CX1 P w) 1 a.f_law_whole a.d_law_whole ["found"] sp_whole := by
  refine T.F_law_whole.okC sc_law_whole (fun vs H Q E h => ?_) (fun cdv A outer s H vs Q E hr h => ?_)
  · obtain ⟨i, rfl, _⟩ := h
    rfl
  · obtain ⟨i, rfl, q⟩ := h
    refine ⟨_, (pss_one (ps_ret (pe_and (pe_callB call_isF (by rfl) T.z_isinstance (by decide +kernel) (pa_cons (pv 0) (pa_cons (pe_bltn (v := .ty "int") (u := .type "int") (by rfl) T.z_int (by decide +kernel) (by rfl)) pa_nil))) (pe_one (pe_not (pe_callB call_isF (by rfl) T.z_isinstance (by decide +kernel) (pa_cons (pv 0) (pa_cons (pe_bltn (v := .ty "bool") (u := .type "bool") (by rfl) T.z_bool (by decide +kernel) (by rfl)) pa_nil)))))))), ?_⟩
    walk_at "rd"
    exact q
def sp_start : Sp := fun vs H Q _ => ∃ (b c : Addr) (cs : List Int), vs = [.ref b] ∧ BagAt H b c cs ∧ ∀ (r : Int) (H' : Hp), 1 ≤ r → r ≤ 10 ^ 59 → BagAt H' b c cs → Kp b H H' → Q (.int r) H'
theorem ok_law_start (T : Txt K mg a) : FnOk P w K mg base (CX1 P w) 2 a.f_law_start a.d_law_start ["bag"] sp_start := by
  refine T.F_law_start.okC sc_law_start (fun vs H Q E h => ?_) (fun cdv A outer s H vs Q E hr h => ?_)
  · obtain ⟨b, c, cs, rfl, _⟩ := h
    rfl
  · obtain ⟨b, c, cs, rfl, hb, q⟩ := h
    have hu := hu_of hr
    refine ⟨_, (pss_cons (ps_if (pt_cmpR op_eq (pe_call (ok_law_draw T) (hr.mono (by decide)) (by rfl) T.m_law_draw T.F_law_draw.kp T.b_law_draw .nil pass1 (pa_cons (pv 0) (pa_cons pe_int pa_nil))) pe_int (nomark _)) (pss_one (ps_ret (pe_op op_add pe_int (pe_call (ok_law_draw T) (hr.mono (by decide)) (by rfl) T.m_law_draw T.F_law_draw.kp T.b_law_draw .nil pass1 (pa_cons (pv 0) (pa_cons (pe_op op_pow pe_int pe_int) pa_nil)))))) pss_nil)
      (pss_one (ps_ret (pe_op op_add pe_int (pe_call (ok_law_draw T) (hr.mono (by decide)) (by rfl) T.m_law_draw T.F_law_draw.kp T.b_law_draw .nil pass1 (pa_cons (pv 0) (pa_cons pe_int pa_nil))))))), ?_⟩
    walk_at "rd"
    refine ⟨b, c, cs, 3, rfl, hb, by decide, by decide, fun r H1 r0 r1 hb1 k1 => ?_⟩
    walk_at "rd"
    refine ite2 (fun _ => ⟨⟨by decide, by decide, by decide⟩, b, c, cs, _, rfl, hb1, by decide, by decide, fun r H2 r0 r1 hb2 k2 => ⟨_, rfl, q _ _ (by omega) ?_ hb2 (k1.trans k2)⟩⟩) fun _ => ⟨b, c, cs, _, rfl, hb1, by decide, by decide, fun r H2 r0 r1 hb2 k2 => ⟨_, rfl, q _ _ (by omega) ?_ hb2 (k1.trans k2)⟩⟩
    · have : (10 : Int) ^ Int.toNat 59 = 10 ^ 59 := rfl
      omega
    · have : (40 : Int) ≤ 10 ^ 59 := by decide
      omega
def sp_worth : Sp := fun vs H Q _ => ∃ (b c : Addr) (cs : List Int), vs = [.ref b] ∧ BagAt H b c cs ∧ ∀ (r : Int) (H' : Hp), BagAt H' b c cs → Kp b H H' → Q (.int r) H'
theorem ok_law_worth (T : Txt K mg a) : FnOk P w K mg base (CX1 P w) 2 a.f_law_worth a.d_law_worth ["bag"] sp_worth := by
  refine T.F_law_worth.okC sc_law_worth (fun vs H Q E h => ?_) (fun cdv A outer s H vs Q E hr h => ?_)
  · obtain ⟨b, c, cs, rfl, _⟩ := h
    rfl
  · obtain ⟨b, c, cs, rfl, hb, q⟩ := h
    have hu := hu_of hr
    refine ⟨_, (pss_cons (ps_if (pt_cmpR op_eq (pe_call (ok_law_draw T) (hr.mono (by decide)) (by rfl) T.m_law_draw T.F_law_draw.kp T.b_law_draw .nil pass1 (pa_cons (pv 0) (pa_cons pe_int pa_nil))) pe_int (nomark _)) (pss_one (ps_ret (pe_op op_mul (pe_op op_sub (pe_op op_mul (pe_call (ok_law_draw T) (hr.mono (by decide)) (by rfl) T.m_law_draw T.F_law_draw.kp T.b_law_draw .nil pass1 (pa_cons (pv 0) (pa_cons pe_int pa_nil))) pe_int) pe_int) (pe_call (ok_law_draw T) (hr.mono (by decide)) (by rfl) T.m_law_draw T.F_law_draw.kp T.b_law_draw .nil pass1 (pa_cons (pv 0) (pa_cons (pe_op op_pow pe_int pe_int) pa_nil)))))) pss_nil)
      (pss_one (ps_ret (pe_op op_sub (pe_call (ok_law_draw T) (hr.mono (by decide)) (by rfl) T.m_law_draw T.F_law_draw.kp T.b_law_draw .nil pass1 (pa_cons (pv 0) (pa_cons pe_int pa_nil))) pe_int)))), ?_⟩
    walk_at "rd"
    refine ⟨b, c, cs, 4, rfl, hb, by decide, by decide, fun r H1 r0 r1 hb1 k1 => ?_⟩
    walk_at "rd"
    refine ite2 (fun _ => ⟨b, c, cs, _, rfl, hb1, by decide, by decide, fun r H2 r0 r1 hb2 k2 => ?_⟩) fun _ => ⟨b, c, cs, _, rfl, hb1, by decide, by decide, fun r H2 r0 r1 hb2 k2 => ?_⟩
    · walk_at "rd"
      refine ⟨.inl ⟨by omega, by omega⟩, ⟨by decide, by decide, by decide⟩, b, c, cs, _, rfl, hb2, by decide, by decide, fun r' H3 r0' r1' hb3 k3 => ?_⟩
      walk_at "rd"
      exact ⟨.inl ⟨by omega, by omega⟩, q _ _ hb3 ((k1.trans k2).trans k3)⟩
    · walk_at "rd"
      exact q _ _ hb2 (k1.trans k2)
def sp_sized : Sp := fun vs H Q _ => ∃ (b c : Addr) (cs : List Int), vs = [.ref b] ∧ BagAt H b c cs ∧ ∀ (h m : Int) (p : Addr) (H' : Hp), 0 ≤ h → h ≤ 9 → 0 ≤ m → m ≤ 9 → BagAt H' b c cs → H' p = some (.tup [.int h, .int m]) → Kp b H H' → Q (.ref p) H'
theorem ok_law_size (T : Txt K mg a) : FnOk P w K mg base (CX1 P w) 2 a.f_law_size a.d_law_size ["bag"] sp_sized := by
  refine T.F_law_size.okC sc_law_size (fun vs H Q E h => ?_) (fun cdv A outer s H vs Q E hr h => ?_)
  · obtain ⟨b, c, cs, rfl, _⟩ := h
    rfl
  · obtain ⟨b, c, cs, rfl, hb, q⟩ := h
    have hu := hu_of hr
    refine ⟨_, (pss_cons (ps_if (pt_cmpR op_eq (pe_call (ok_law_draw T) (hr.mono (by decide)) (by rfl) T.m_law_draw T.F_law_draw.kp T.b_law_draw .nil pass1 (pa_cons (pv 0) (pa_cons pe_int pa_nil))) pe_int (nomark _)) (pss_one (ps_ret (pe_tup (pa_cons (pe_call (ok_law_draw T) (hr.mono (by decide)) (by rfl) T.m_law_draw T.F_law_draw.kp T.b_law_draw .nil pass1 (pa_cons (pv 0) (pa_cons pe_int pa_nil))) (pa_cons (pe_call (ok_law_draw T) (hr.mono (by decide)) (by rfl) T.m_law_draw T.F_law_draw.kp T.b_law_draw .nil pass1 (pa_cons (pv 0) (pa_cons pe_int pa_nil))) pa_nil))))) pss_nil)
      (pss_one (ps_ret (pe_tup (pa_cons (pe_call (ok_law_draw T) (hr.mono (by decide)) (by rfl) T.m_law_draw T.F_law_draw.kp T.b_law_draw .nil pass1 (pa_cons (pv 0) (pa_cons pe_int pa_nil))) (pa_cons (pe_call (ok_law_draw T) (hr.mono (by decide)) (by rfl) T.m_law_draw T.F_law_draw.kp T.b_law_draw .nil pass1 (pa_cons (pv 0) (pa_cons pe_int pa_nil))) pa_nil)))))), ?_⟩
    walk_at "rd"
    refine ⟨b, c, cs, _, rfl, hb, by decide, by decide, fun r H1 r0 r1 hb1 k1 => ?_⟩
    walk_at "rd"
    refine ite2 (fun _ => ⟨b, c, cs, _, rfl, hb1, by decide, by decide, fun r H2 r0 r1 hb2 k2 => ?_⟩) fun _ => ⟨b, c, cs, _, rfl, hb1, by decide, by decide, fun r H2 r0 r1 hb2 k2 => ?_⟩
    all_goals
      walk_at "rd"
      refine ⟨b, c, cs, _, rfl, hb2, by decide, by decide, fun r' H3 r0' r1' hb3 k3 => ?_⟩
      intro p hp
      exact q r r' p _ r0 (by omega) r0' (by omega) (hb3.laid hp) upd_same (((k1.trans k2).trans k3).laid hp)

end
section
variable {P : Program} {w : World} {K : PySem.W.Frag} {mg : Str → Option Value} {base : Heap} {a : Ad}

theorem ixN_in {n : Nat} {j : Int} (h0 : 0 ≤ j) (h1 : j < n) : ixN n j = some j.toNat := by
  unfold ixN
  simp [h0, h1]
theorem rows_frL {H H' : Hp} {l : Addr} {as : List (Addr × Addr × Addr)} {ts : List Th} {M : Addr → Prop} (x : RowsAt HO.lst H l as ts) (f : Fr M H H') (h : ∀ q xs, M q → H q ≠ some (.lst xs)) : RowsAt HO.lst H' l as ts :=
  ⟨f.keep _ _ x.top (fun m => h _ _ m x.top), x.len, fun k a t ha ht => by
    obtain ⟨e1, e2, e3⟩ := x.row k a t ha ht
    exact ⟨f.tups _ _ e1, f.keep _ _ e2 (fun m => h _ _ m e2), f.keep _ _ e3 (fun m => h _ _ m e3)⟩⟩
theorem thWord_set1 {t : Th} {j : Nat} {v z : Int} (h : j < t.2.1.length) : thWord (t.1, t.2.1.set j v, t.2.2) z = if z = t.1 + 1 + j then some v else thWord t z := by
  unfold thWord thW
  by_cases c : z < t.1
  · rw [if_pos c, if_pos c, if_neg (by omega)]
  · rw [if_neg c, if_neg c]
    by_cases d : z = t.1 + 1 + j
    · rw [if_pos d]
      show ((_ : Int) :: (t.2.1.set j v ++ t.2.2))[(z - t.1).toNat]? = some v
      rw [show (z - t.1).toNat = j + 1 by omega, List.getElem?_cons_succ, List.getElem?_append_left (by rw [List.length_set]; exact h), List.getElem?_set_self h]
    · rw [if_neg d]
      show ((16 * ((t.2.1.set j v).length : Int) + t.2.2.length) :: (t.2.1.set j v ++ t.2.2))[(z - t.1).toNat]? = _
      rw [List.length_set]
      cases e : (z - t.1).toNat with
      | zero => rfl
      | succ i =>
        rw [List.getElem?_cons_succ, List.getElem?_cons_succ]
        by_cases f : i < t.2.1.length
        · rw [List.getElem?_append_left (by rw [List.length_set]; exact f), List.getElem?_append_left f, List.getElem?_set_ne (by omega)]
        · rw [List.getElem?_append_right (by rw [List.length_set]; omega), List.getElem?_append_right (by omega), List.length_set]
theorem thWord_set2 {t : Th} {j : Nat} {v z : Int} (h : j < t.2.2.length) : thWord (t.1, t.2.1, t.2.2.set j v) z = if z = t.1 + 1 + t.2.1.length + j then some v else thWord t z := by
  unfold thWord thW
  by_cases c : z < t.1
  · rw [if_pos c, if_pos c, if_neg (by omega)]
  · rw [if_neg c, if_neg c]
    by_cases d : z = t.1 + 1 + t.2.1.length + j
    · rw [if_pos d]
      show ((_ : Int) :: (t.2.1 ++ t.2.2.set j v))[(z - t.1).toNat]? = some v
      rw [show (z - t.1).toNat = (t.2.1.length + j) + 1 by omega, List.getElem?_cons_succ, List.getElem?_append_right (by omega), show t.2.1.length + j - t.2.1.length = j by omega, List.getElem?_set_self h]
    · rw [if_neg d]
      show ((16 * (t.2.1.length : Int) + (t.2.2.set j v).length) :: (t.2.1 ++ t.2.2.set j v))[(z - t.1).toNat]? = _
      rw [List.length_set]
      cases e : (z - t.1).toNat with
      | zero => rfl
      | succ i =>
        rw [List.getElem?_cons_succ, List.getElem?_cons_succ]
        by_cases f : i < t.2.1.length
        · rw [List.getElem?_append_left f, List.getElem?_append_left f]
        · rw [List.getElem?_append_right (by omega), List.getElem?_append_right (by omega), List.getElem?_set_ne (by omega)]
theorem map_set_same {α β : Type} {f : α → β} : ∀ {l : List α} {k : Nat} {x y : α}, l[k]? = some x → f y = f x → (l.set k y).map f = l.map f
  | [], k, x, y, h, _ => by simp at h
  | u :: r, 0, x, y, h, e => by simp at h; subst h; rw [List.set_cons_zero, List.map_cons, List.map_cons, e]
  | u :: r, k + 1, x, y, h, e => by rw [List.getElem?_cons_succ] at h; rw [List.set_cons_succ, List.map_cons, List.map_cons, map_set_same h e]
/-- what is changed where a word is laid -/
structure Laid1 (ts ts' : List Th) (k : Nat) (t t' : Th) (spot v : Int) : Prop where
  set : ts' = ts.set k t'
  word : ∀ z, thWord t' z = if z = spot then some v else thWord t z
  tri : thTri t' = thTri t
theorem Laid1.words {ts ts' : List Th} {k : Nat} {t t' : Th} {spot v : Int} (h : Laid1 ts ts' k t t' spot v) (hk : ts[k]? = some t) (hw : wordAt (ts.take k) spot = none) :
    (fun z => if z = spot then some v else wordAt ts z) = wordAt ts' := by
  funext z
  rw [h.set]
  by_cases c : z = spot
  · subst c
    rw [if_pos rfl, wordAt_set hw hk (by rw [h.word, if_pos rfl]; rfl), h.word, if_pos rfl]
  · rw [if_neg c, wordAt_same hk (by rw [h.word, if_neg c])]

def sp_many : Sp := fun vs H Q _ => ∃ (b c : Addr) (cs : List Int), vs = [.ref b] ∧ BagAt H b c cs ∧ ∀ (r : Int) (H' : Hp), 1 ≤ r → r ≤ 400 → BagAt H' b c cs → Kp b H H' → Q (.int r) H'
theorem ok_law_many (T : Txt K mg a) : FnOk P w K mg base (CX1 P w) 2 a.f_law_many a.d_law_many ["bag"] sp_many := by
  refine T.F_law_many.okC sc_law_many (fun vs H Q E h => ?_) (fun cdv A outer s H vs Q E hr h => ?_)
  · obtain ⟨b, c, cs, rfl, _⟩ := h
    rfl
  · obtain ⟨b, c, cs, rfl, hb, q⟩ := h
    have hu := hu_of hr
    refine ⟨_, (pss_cons (ps_set (i := 1) sc_law_many.nd (by rfl) (Or.inl rfl) (pe_call (ok_law_draw T) (hr.mono (by decide)) (by rfl) T.m_law_draw T.F_law_draw.kp T.b_law_draw .nil pass1 (pa_cons (pv 0) (pa_cons pe_int pa_nil))))
      (pss_cons (ps_if (pt_cmpR op_eq (pv 1) pe_int (nomark _)) (pss_one (ps_ret (pe_op op_add pe_int (pe_call (ok_law_draw T) (hr.mono (by decide)) (by rfl) T.m_law_draw T.F_law_draw.kp T.b_law_draw .nil pass1 (pa_cons (pv 0) (pa_cons pe_int pa_nil)))))) pss_nil)
      (pss_one (ps_ret (pe_op op_add pe_int (pe_call (ok_law_draw T) (hr.mono (by decide)) (by rfl) T.m_law_draw T.F_law_draw.kp T.b_law_draw .nil pass1 (pa_cons (pv 0) (pa_cons (pe_ix ix_F (pe_lst (pa_cons pe_int (pa_cons pe_int pa_nil))) (pe_op op_mod (pv 1) pe_int) (fun _ _ => rfl)) pa_nil)))))))), ?_⟩
    simp! []
    refine ⟨b, c, cs, 8, rfl, hb, by decide, by decide, fun way H1 w0 w1 hb1 k1 => ?_⟩
    simp! []
    refine ite2 (fun _ => ⟨b, c, cs, 131, rfl, hb1, by decide, by decide, fun r H2 r0 r1 hb2 k2 => ⟨_, rfl, q _ _ (by omega) (by omega) hb2 (k1.trans k2)⟩⟩) fun _ l hl => ?_
    obtain ⟨v, e, v0, v1⟩ : ∃ v : Int, atI [V.int 6, V.int 12] (way % 2) = some (.int v) ∧ 0 < v ∧ v ≤ 12 := by
      have : way % 2 = 0 ∨ way % 2 = 1 := by omega
      rcases this with e | e
      · rw [e]; exact ⟨6, atI_0, by decide, by decide⟩
      · rw [e]; exact ⟨12, atI_1, by decide, by decide⟩
    have k2 := k1.laid (u := .lst [V.int 6, V.int 12]) hl
    have hb2 := hb1.laid (u := .lst [V.int 6, V.int 12]) hl
    simp! [e]
    have p70 : (12 : Int) ≤ 10 ^ 70 := by decide
    exact ⟨by decide, b, c, cs, v, rfl, hb2, v0, by omega, fun r H3 r0 r1 hb3 k3 => ⟨_, rfl, q _ _ (by omega) (by omega) hb3 (k2.trans k3)⟩⟩
def sp_hold : Sp := fun vs H Q _ => ∃ (b c tl : Addr) (cs : List Int) (as : List (Addr × Addr × Addr)) (ts : List Th) (k : Nat) (ch : Int), vs = [.ref b, .ref tl, .int k, .int ch] ∧ BagAt H b c cs ∧ (∀ H', BagAt H' b c cs → Kp b H H' → RowsAt HO.lst H' tl as ts) ∧ 0 < ts.length ∧ ts.length ≤ 1000 ∧ 0 ≤ ch ∧ ch ≤ 2 ∧
  ∀ (r : Int) (H' : Hp), (r = 0 ∨ ∃ t ∈ ts, t.1 = r) → BagAt H' b c cs → Kp b H H' → Q (.int r) H'
theorem ok_law_hold (T : Txt K mg a) : FnOk P w K mg base (CX1 P w) 2 a.f_law_hold a.d_law_hold ["bag", "things", "k", "chain"] sp_hold := by
  refine T.F_law_hold.okC sc_law_hold (fun vs H Q E h => ?_) (fun cdv A outer s H vs Q E hr h => ?_)
  · obtain ⟨b, c, tl, cs, as, ts, k, ch, rfl, _⟩ := h
    rfl
  · obtain ⟨b, c, tl, cs, as, ts, k, ch, rfl, hb, R, l0, l1, c0, c2, q⟩ := h
    have hu := hu_of hr
    refine ⟨_, (pss_cons (ps_if (PW.pt (pw_and (pt_cmpR op_gt (pv 3) pe_int (nomark _)) (pw_and1 (pt_cmpR op_gt (pe_call (ok_law_draw T) (hr.mono (by decide)) (by rfl) T.m_law_draw T.F_law_draw.kp T.b_law_draw .nil pass1 (pa_cons (pv 0) (pa_cons pe_int pa_nil))) pe_int (nomark _))))) (pss_one (ps_ret (pe_ix ix_F (pe_ix ix_F (pv 1) (pe_op op_mod (pe_op op_add (pv 2) (pe_ix ix_F (pe_lst (pa_cons pe_int (pa_cons pe_int (pa_cons (pe_op op_sub (pe_callB call_lenF (by rfl) T.z_len (by decide +kernel) (pa_cons (pv 1) pa_nil)) pe_int) pa_nil)))) (pv 3) (fun _ _ => rfl))) (pe_callB call_lenF (by rfl) T.z_len (by decide +kernel) (pa_cons (pv 1) pa_nil))) (fun _ _ => rfl)) pe_int (fun _ _ => rfl)))) pss_nil)
      (pss_cons (ps_if (pt_cmpR op_eq (pe_call (ok_law_draw T) (hr.mono (by decide)) (by rfl) T.m_law_draw T.F_law_draw.kp T.b_law_draw .nil pass1 (pa_cons (pv 0) (pa_cons pe_int pa_nil))) pe_int (nomark _)) (pss_one (ps_ret pe_int)) pss_nil)
      (pss_one (ps_ret (pe_ix ix_F (pe_ix ix_F (pv 1) (pe_call (ok_law_draw T) (hr.mono (by decide)) (by rfl) T.m_law_draw T.F_law_draw.kp T.b_law_draw .nil pass1 (pa_cons (pv 0) (pa_cons (pe_callB call_lenF (by rfl) T.z_len (by decide +kernel) (pa_cons (pv 1) pa_nil)) pa_nil))) (fun _ _ => rfl)) pe_int (fun _ _ => rfl)))))), ?_⟩
    have pick : ∀ (i : Nat) (H2 : Hp), i < ts.length → RowsAt HO.lst H2 tl as ts → ∃ r t, t ∈ ts ∧ atI (as.map fun a => V.ref a.1) ((i : Nat) : Int) = some (.ref r) ∧ H2 r = some (.tup [.int t.1, .ref (as.getD i (0, 0, 0)).2.1, .ref (as.getD i (0, 0, 0)).2.2]) := fun i H2 hi R2 => by
      obtain ⟨bb, hbb, e1, _, _⟩ := R2.at_ (List.getElem?_eq_getElem hi)
      refine ⟨bb.1, ts[i], List.getElem_mem hi, atI_nat (by rw [List.getElem?_map, hbb]; rfl), ?_⟩
      rw [List.getD_eq_getElem?_getD, hbb]
      exact e1
    have rest : ∀ H2, BagAt H2 b c cs → Kp b H H2 → sp_draw [V.ref b, V.int 4] H2 (fun x H1 => scal x (V.int 0) = true ∧ if x = V.int 0 then Q (V.int 0) H1 else ∃ x, lenF (V.ref tl) H1 = some x ∧ sp_draw [V.ref b, V.int x] H1 (fun y H2 => ∃ i, y = .int i ∧ ∃ xs, seqO (H2 tl) = some xs ∧ ∃ z, atI xs i = some z ∧ ∃ p, z = .ref p ∧ ∃ ys, seqO (H2 p) = some ys ∧ ∃ v, atI ys 0 = some v ∧ Q v H2) E0) E0 := fun H2 hb2 k2 => by
      refine ⟨b, c, cs, 4, rfl, hb2, by decide, by decide, fun x H3 x0 x1 hb3 k3 => ⟨rfl, ite2 (fun _ => q 0 H3 (.inl rfl) hb3 (k2.trans k3)) fun _ => ?_⟩⟩
      have R3 := R _ hb3 (k2.trans k3)
      have p70 : (1000 : Int) ≤ 10 ^ 70 := by decide
      refine ⟨ts.length, by rw [lenF_ref, R3.top, lenO_lst, List.length_map, R3.len], b, c, cs, _, rfl, hb3, by omega, by omega, fun i H4 i0 i1 hb4 k4 => ?_⟩
      have R4 := R _ hb4 ((k2.trans k3).trans k4)
      obtain ⟨iN, rfl⟩ := Int.eq_ofNat_of_zero_le i0
      obtain ⟨r, t, mt, a1, e1⟩ := pick iN H4 (by omega) R4
      exact ⟨_, rfl, _, by rw [R4.top]; rfl, _, a1, r, rfl, _, by rw [e1]; rfl, _, atI_0, q _ _ (.inr ⟨t, mt, rfl⟩) hb4 ((k2.trans k3).trans k4)⟩
    simp! []
    refine ite2 (fun _ => ⟨b, c, cs, 5, rfl, hb, by decide, by decide, fun i H1 i0 i1 hb1 k1 => ⟨i, rfl, ite2 (fun _ => ?_) fun _ => rest H1 hb1 k1⟩⟩) fun _ => rest H hb Kp.refl
    have R1 := R _ hb1 k1
    refine ⟨ts.length, by rw [R1.top, lenO_lst, List.length_map, R1.len], fun p hp => ?_⟩
    obtain ⟨v, ev⟩ : ∃ v : Int, atI [V.int 0, V.int 1, V.int ((ts.length : Int) - 1)] ch = some (.int v) := by
      have : ch = 0 ∨ ch = 1 ∨ ch = 2 := by omega
      rcases this with e | e | e
      · rw [e]; exact ⟨_, atI_0⟩
      · rw [e]; exact ⟨_, atI_1⟩
      · rw [e]; exact ⟨_, atI_2⟩
    have hb2 := hb1.laid (u := .lst [V.int 0, V.int 1, V.int ((ts.length : Int) - 1)]) hp
    have k2 := k1.laid (u := .lst [V.int 0, V.int 1, V.int ((ts.length : Int) - 1)]) hp
    have R2 := R _ hb2 k2
    have m0 : 0 ≤ ((k : Int) + v) % ts.length := Int.emod_nonneg _ (by omega)
    have m1 : ((k : Int) + v) % ts.length < ts.length := Int.emod_lt_of_pos _ (by omega)
    obtain ⟨iN, eN⟩ := Int.eq_ofNat_of_zero_le m0
    obtain ⟨r, t, mt, a1, e1⟩ := pick iN _ (by omega) R2
    refine ⟨_, ev, v, rfl, ts.length, by rw [R2.top, lenO_lst, List.length_map, R2.len], by omega, _, by rw [R2.top]; rfl, _, by rw [eN]; exact a1, r, rfl, _, by rw [e1]; rfl, _, atI_0, q _ _ (.inr ⟨t, mt, rfl⟩) hb2 k2⟩

end
section
variable {P : Program} {w : World} {K : PySem.W.Frag} {mg : Str → Option Value} {base : Heap} {a : Ad}

def setF (t : Th) (j : Nat) (v : Int) : Th := if j < t.2.1.length then (t.1, t.2.1.set j v, t.2.2) else (t.1, t.2.1, t.2.2.set (j - t.2.1.length) v)
theorem setF_tri {t : Th} {j : Nat} {v : Int} : thTri (setF t j v) = thTri t := by
  unfold setF
  split <;> simp [thTri]
theorem setF_1 {t : Th} {j : Nat} {v : Int} : (setF t j v).1 = t.1 := by
  unfold setF
  split <;> rfl
theorem setF_word {t : Th} {j : Nat} {v : Int} (h : j < t.2.1.length + t.2.2.length) (z : Int) : thWord (setF t j v) z = if z = t.1 + 1 + j then some v else thWord t z := by
  unfold setF
  split
  · rename_i c
    exact thWord_set1 c
  · rename_i c
    rw [thWord_set2 (by omega), show t.1 + 1 + (t.2.1.length : Int) + ((j - t.2.1.length : Nat) : Int) = t.1 + 1 + j by omega]
def sp_field (C : Addr) : Sp := fun vs H Q _ => ∃ (g : Addr → Tag) (y : Yd) (tl : Addr) (as : List (Addr × Addr × Addr)) (ts : List Th) (t : Th) (s f v : Int) (k j : Nat), vs = [.ref y.p, .ref tl, .int k, .int j, .int v] ∧ YardAt C H y (wordAt ts) (ts.map thTri) f ∧ RowsAt HO.lst H tl as ts ∧ Tagged g 0 as ∧ Lay s ts f ∧ ts.length ≤ 1000 ∧
  ts[k]? = some t ∧ j < t.2.1.length + t.2.2.length ∧ (t.1 + 1 + j).natAbs.log2 < 1920 ∧ (g tl).1 ≠ 2 ∧
  ∀ H', YardAt C H' y (wordAt (ts.set k (setF t j v))) ((ts.set k (setF t j v)).map thTri) f → RowsAt HO.lst H' tl as (ts.set k (setF t j v)) → Fr (fun q => q = y.dw ∨ (g q).1 = 2) H H' → Q .non H'
set_option maxHeartbeats 1000000 in
theorem ok_law_field (T : Txt K mg a) : FnOk P w K mg base (CX1 P w) 2 a.f_law_field a.d_law_field ["yard", "things", "k", "j", "worth"] (sp_field a.c_Yard) := by
  refine T.F_law_field.okC sc_law_field (fun vs H Q E h => ?_) (fun cdv A outer s H vs Q E hr h => ?_)
  · obtain ⟨g, y, tl, as, ts, t, s, f, v, k, j, rfl, _⟩ := h
    rfl
  · obtain ⟨g, y, tl, as, ts, t, s, f, v, k, j, rfl, hy, R, tg, L, lt, hk, hj, ls, gt, q⟩ := h
    have hu := hu_of hr
    refine ⟨_, (pss_cons (ps_asg (pe_ix ix_F (pv 1) (pv 2) (fun _ _ => rfl)) (pg_tup (n := 3) (by rfl) (pgs_cons (pg_name (i := 5) sc_law_field.nd (by rfl) (Or.inl rfl)) (pgs_cons (pg_name (i := 6) sc_law_field.nd (by rfl) (Or.inl rfl)) (pgs_cons (pg_name (i := 7) sc_law_field.nd (by rfl) (Or.inl rfl)) pgs_nil)))))
      (pss_cons (ps_expr (pe_meth (pv 0) T.cl_Yard T.M_Yard_set_word (ok_Yard_set_word T) (hr.mono (by decide)) T.b_Yard_set_word .nil pass1 (pa_cons (pe_op op_add (pe_op op_add (pv 5) pe_int) (pv 3)) (pa_cons (pv 4) pa_nil))))
      (pss_one (ps_if (pt_cmpR op_lt (pv 3) (pe_callB call_lenF (by rfl) T.z_len (by decide +kernel) (pa_cons (pv 6) pa_nil)) (nomark _)) (pss_one (ps_asg (pv 4) (pg_sub (pv 6) (pv 3) set_list))) (pss_one (ps_asg (pv 4) (pg_sub (pv 7) (pe_op op_sub (pv 3) (pe_callB call_lenF (by rfl) T.z_len (by decide +kernel) (pa_cons (pv 6) pa_nil))) set_list))))))), ?_⟩
    have top := R.top
    have hp := hy.ins
    obtain ⟨b, hb, e1, e2, e3⟩ := R.at_ hk
    have mt := List.mem_of_getElem? hk
    have hat : atI (as.map fun a => V.ref a.1) ((k : Nat) : Int) = some (V.ref b.1) := atI_nat (by rw [List.getElem?_map, hb]; rfl)
    simp! [top, hat]
    refine gTup_of e1 rfl ?_
    simp! [hp, yF_meth]
    have sz : thSz t = 1 + t.2.1.length + t.2.2.length := rfl
    have wd : wordAt ts (t.1 + 1 + j) = thWord t (t.1 + 1 + j) := L.word mt (by omega) (by omega)
    refine ⟨y, t.1 + 1 + j, v, f, _, _, rfl, hy, by rw [List.length_map]; exact lt, ls, fun x H1 hx nh Y1 F1 => ?_, fun hn => ?_⟩
    · have R1 : RowsAt HO.lst H1 tl as ts := rows_frL R F1 (fun q xs e h => by
        obtain ⟨kw, hw, _⟩ := hy.words
        rw [show q = y.dw from e, hw] at h
        cases h)
      obtain ⟨e1', e2', e3'⟩ := R1.row k b t hb hk
      obtain ⟨tg1, tg2⟩ := tg k b hb
      have hl : Laid1 ts (ts.set k (setF t j v)) k t (setF t j v) (t.1 + 1 + j) v := ⟨rfl, setF_word hj, setF_tri⟩
      have em := map_set_same hk hl.tri
      have wn : wordAt (ts.take k) (t.1 + 1 + j) = none := by
        cases e : wordAt (ts.take k) (t.1 + 1 + j) with
        | none => rfl
        | some w' =>
          exfalso
          obtain ⟨u, hu', eu⟩ := List.exists_of_findSome?_eq_some e
          have mu : u ∈ ts := List.mem_of_mem_take hu'
          have nn : ¬ (t.1 + 1 + (j : Int) < u.1 ∨ u.1 + thSz u ≤ t.1 + 1 + j) := fun c => by rw [thWord_none.mpr c] at eu; cases eu
          obtain ⟨iu, hiu, eiu⟩ := List.getElem_of_mem hu'
          rw [List.getElem_take] at eiu
          have hik : iu < k := by rw [List.length_take] at hiu; omega
          have hiu2 : iu < ts.length := by rw [List.length_take] at hiu; omega
          have r1 := List.pairwise_iff_getElem.mp L.rising iu k (by rw [List.length_map]; exact hiu2) (by rw [List.length_map]; exact (List.getElem?_eq_some_iff.mp hk).1) hik
          rw [List.getElem_map, List.getElem_map, eiu, (List.getElem?_eq_some_iff.mp hk).2] at r1
          have := L.apart mu mt r1
          omega
      have fin : ∀ (qa : Addr) (old new : List V), H1 qa = some (.lst old) → ((qa = b.2.1 ∧ new = (setF t j v).2.1.map V.int ∧ (setF t j v).2.2 = t.2.2) ∨ (qa = b.2.2 ∧ new = (setF t j v).2.2.map V.int ∧ (setF t j v).2.1 = t.2.1)) → Q .non (upd H1 qa (.lst new)) := fun qa old new ho hc => by
        have gq : (g qa).1 = 2 := by rcases hc with ⟨rfl, _⟩ | ⟨rfl, _⟩ <;> simp [tg1, tg2]
        have F3 : Fr (· = qa) H1 (upd H1 qa (.lst new)) := .put rfl (notTup_lst ho)
        obtain ⟨kw, hw2, _⟩ := Y1.words
        obtain ⟨ks, hs2, _⟩ := Y1.sizes
        refine q _ ?_ ⟨?_, by rw [List.length_set]; exact R.len, fun k' a' t'' ha ht'' => ?_⟩ ((F1.mono fun q e => .inl e).trans (F3.mono fun q e => .inr (by rw [show q = qa from e]; exact gq)))
        · rw [em, ← hl.words hk wn]
          exact Y1.fr F3 (fun e => by rw [← e, Y1.ins] at ho; cases ho) (fun e => by rw [← e, hw2] at ho; cases ho) (fun e => by rw [← e, hs2] at ho; cases ho)
        · exact F3.keep _ _ R1.top (fun e => gt (by rw [show tl = qa from e]; exact gq))
        · by_cases c : k' = k
          · subst c
            rw [hb] at ha; cases ha
            rw [List.getElem?_set_self (List.getElem?_eq_some_iff.mp hk).1] at ht''
            cases ht''
            rw [setF_1]
            rcases hc with ⟨rfl, rfl, e⟩ | ⟨rfl, rfl, e⟩
            · refine ⟨F3.tups _ _ e1', upd_same, ?_⟩
              rw [e]
              exact F3.keep _ _ e3' (fun z => by have := congrArg g z; rw [tg1, tg2] at this; simp at this)
            · refine ⟨F3.tups _ _ e1', ?_, upd_same⟩
              rw [e]
              exact F3.keep _ _ e2' (fun z => by have := congrArg g z; rw [tg1, tg2] at this; simp at this)
          · rw [List.getElem?_set_ne (fun e => c e.symm)] at ht''
            obtain ⟨r1, r2, r3⟩ := R1.row k' a' t'' ha ht''
            obtain ⟨g1, g2⟩ := tg k' a' ha
            refine ⟨F3.tups _ _ r1, F3.keep _ _ r2 (fun z => ?_), F3.keep _ _ r3 (fun z => ?_)⟩
            · rcases hc with ⟨e, _⟩ | ⟨e, _⟩ <;> (have := congrArg g (z.trans e); rw [g1] at this; simp [tg1, tg2] at this <;> exact c this)
            · rcases hc with ⟨e, _⟩ | ⟨e, _⟩ <;> (have := congrArg g (z.trans e); rw [g2] at this; simp [tg1, tg2] at this <;> exact c this)
      refine ⟨t.2.1.length, by rw [e2', lenO_lst, List.length_map], ite2 (fun c => ?_) fun c => ?_⟩
      · have c' : j < t.2.1.length := by omega
        refine ⟨_, e2', j, by rw [List.length_map]; exact ixN_in (by omega) (by omega), fin b.2.1 _ _ e2' (.inl ⟨rfl, ?_, ?_⟩)⟩
        · unfold setF; rw [if_pos c', List.map_set]
        · unfold setF; rw [if_pos c']
      · have c' : ¬ j < t.2.1.length := by omega
        have ej : (j : Int) - (t.2.1.length : Int) = ((j - t.2.1.length : Nat) : Int) := by omega
        refine ⟨t.2.1.length, by rw [e2', lenO_lst, List.length_map], _, e3', j - t.2.1.length, by rw [List.length_map, ej]; exact ixN_in (by omega) (by omega), fin b.2.2 _ _ e3' (.inr ⟨rfl, ?_, ?_⟩)⟩
        · unfold setF; rw [if_neg c', List.map_set]
        · unfold setF; rw [if_neg c']
    · exfalso
      rcases hn with hn | ⟨u, hu', eu⟩
      · rw [wd] at hn
        have := thWord_none.mp hn
        omega
      · obtain ⟨t', ht', rfl⟩ := List.mem_map.mp hu'
        have e' : t'.1 = t.1 + 1 + j := eu
        have := L.apart mt ht' (by omega)
        omega

end
section
variable {P : Program} {w : World} {K : PySem.W.Frag} {mg : Str → Option Value} {base : Heap} {a : Ad}

structure Wo (C b c tl : Addr) (yd : Yd) (cs : List Int) (g : Addr → Tag) (H : Hp) (as : List (Addr × Addr × Addr)) (ts : List Th) (s fr : Int) : Prop where
  bag : BagAt H b c cs
  yard : YardAt C H yd (wordAt ts) (ts.map thTri) fr
  rows : RowsAt HO.lst H tl as ts
  tags : Tagged g 0 as
  lay : Lay s ts fr
  small : ∀ t ∈ ts, t.2.1.length ≤ 9 ∧ t.2.2.length ≤ 9
  gb : g b = (0, 0, 0)
  gc : g c = (0, 1, 0)
  gtl : g tl = (1, 0, 0)
  gp : g yd.p = (10, 0, 0)
  gdw : g yd.dw = (10, 0, 1)
  gds : g yd.ds = (10, 0, 2)
section
variable {C b c tl : Addr} {yd : Yd} {cs : List Int} {g : Addr → Tag} {H H' : Hp} {as : List (Addr × Addr × Addr)} {ts : List Th} {s fr : Int} {M : Addr → Prop}
theorem Wo.drawn (x : Wo C b c tl yd cs g H as ts s fr) (hb : BagAt H' b c cs) (k : Kp b H H') : Wo C b c tl yd cs g H' as ts s fr := by
  have f := x.bag.kfr k
  have n : ∀ q, g q ≠ (0, 0, 0) → ¬ q = b := fun q h e => h (by rw [e]; exact x.gb)
  exact ⟨hb, x.yard.fr f (n _ (by rw [x.gp]; simp)) (n _ (by rw [x.gdw]; simp)) (n _ (by rw [x.gds]; simp)), x.rows.fr f x.tags (n _ (by rw [x.gtl]; simp)) (fun q hq => n q (fun e => by rw [e] at hq; simp at hq)), x.tags, x.lay, x.small, x.gb, x.gc, x.gtl, x.gp, x.gdw, x.gds⟩
theorem Wo.retag (x : Wo C b c tl yd cs g H as ts s fr) {p : Addr} (hp : H p = none) (t : Tag) : Wo C b c tl yd cs (gset g p t) H as ts s fr := by
  have n : ∀ q o, H q = some o → gset g p t q = g q := fun q o h => gset_ne (ne_of_none h hp)
  obtain ⟨kb, hb⟩ : ∃ o, H b = some o := by obtain ⟨⟨i, v, s, n, e, _⟩, _⟩ := x.bag; exact ⟨_, e⟩
  obtain ⟨kw, hw, _⟩ := x.yard.words
  obtain ⟨ks, hs, _⟩ := x.yard.sizes
  exact ⟨x.bag, x.yard, x.rows, x.rows.retag x.tags hp, x.lay, x.small, by rw [n _ _ hb]; exact x.gb, by rw [n _ _ x.bag.at_]; exact x.gc, by rw [n _ _ x.rows.top]; exact x.gtl, by rw [n _ _ x.yard.ins]; exact x.gp, by rw [n _ _ hw]; exact x.gdw, by rw [n _ _ hs]; exact x.gds⟩
end
theorem BagAt.fr' {H H' : Hp} {b c : Addr} {cs : List Int} {M : Addr → Prop} (x : BagAt H b c cs) (f : Fr M H H') (h1 : ¬ M b) (h2 : ¬ M c) : BagAt H' b c cs := by
  obtain ⟨⟨i, v, st, n, e, k⟩, h3, ne, pos, len⟩ := x
  exact ⟨⟨i, v, st, n, f.keep _ _ e h1, k⟩, f.keep _ _ h3 h2, ne, pos, len⟩
theorem Wo.made {C b c tl : Addr} {yd : Yd} {cs : List Int} {g : Addr → Tag} {H H3 H4 : Hp} {as : List (Addr × Addr × Addr)} {ts : List Th} {s fr : Int} (x : Wo C b c tl yd cs g H as ts s fr) {h m : Nat} (h9 : h ≤ 9) (m9 : m ≤ 9)
    (Y : YardAt C H3 yd (madeW (wordAt ts) fr h m) (ts.map thTri ++ [(fr, (h : Int), (m : Int))]) (fr + 1 + h + m)) (F : Fr (YM yd) H H3) (S : Same H3 H4) {ha na tp : Addr} (n1 : H3 ha = none) (n2 : H3 na = none) (hn : ha ≠ na)
    (e1 : H4 ha = some (.lst ((List.replicate h (0 : Int)).map V.int))) (e2 : H4 na = some (.lst ((List.replicate m (0 : Int)).map V.int))) (e3 : H4 tp = some (.tup [.int fr, .ref ha, .ref na])) :
    H4 tl = some (.lst (as.map fun a => V.ref a.1)) ∧ ∃ g', Wo C b c tl yd cs g' (upd H4 tl (.lst (as.map (fun a => V.ref a.1) ++ [V.ref tp]))) (as ++ [(tp, ha, na)]) (ts ++ [(fr, List.replicate h 0, List.replicate m 0)]) s (fr + 1 + h + m) := by
  obtain ⟨kw, hw, _⟩ := Y.words
  obtain ⟨ks, hs, _⟩ := Y.sizes
  have old : ∀ q, H3 q = none → H q = none := fun q hq => by
    cases hc : H q with
    | none => rfl
    | some o =>
      by_cases mq : YM yd q
      · rcases mq with z | z | z
        · rw [z, Y.ins] at hq; cases hq
        · rw [z, hw] at hq; cases hq
        · rw [z, hs] at hq; cases hq
      · rw [F.keep q o hc mq] at hq; cases hq
  have X := (x.retag (old _ n1) (2, ts.length, 1)).retag (old _ n2) (2, ts.length, 2)
  have ga : gset (gset g ha (2, ts.length, 1)) na (2, ts.length, 2) ha = (2, ts.length, 1) := by rw [gset_ne hn, gset_same]
  have gn : gset (gset g ha (2, ts.length, 1)) na (2, ts.length, 2) na = (2, ts.length, 2) := gset_same
  revert X ga gn
  generalize gset (gset g ha (2, ts.length, 1)) na (2, ts.length, 2) = g'
  intro X ga gn
  have top := X.rows.top
  have nYM : ∀ {q}, (g' q).1 ≠ 10 → ¬ YM yd q := fun h m => by
    rcases m with z | z | z
    · rw [z, X.gp] at h; exact h rfl
    · rw [z, X.gdw] at h; exact h rfl
    · rw [z, X.gds] at h; exact h rfl
  have top4 := S _ _ (F.keep _ _ top (nYM (by rw [X.gtl]; simp)))
  refine ⟨top4, g', ?_⟩
  have F4 : Fr (· = tl) H4 (upd H4 tl (.lst (as.map (fun a => V.ref a.1) ++ [V.ref tp]))) := .put rfl (notTup_lst top4)
  have Y4 := Y.same S
  obtain ⟨kw, hw, _⟩ := Y4.words
  obtain ⟨ks, hs, _⟩ := Y4.sizes
  have FA : Fr (fun q => YM yd q ∨ q = tl) H (upd H4 tl (.lst (as.map (fun a => V.ref a.1) ++ [V.ref tp]))) := ((F.mono fun q m => .inl m).trans (.of_same S)).trans (F4.mono fun q m => .inr m)
  have nFA : ∀ {q}, (g' q).1 ≠ 10 → (g' q).1 ≠ 1 → ¬ (YM yd q ∨ q = tl) := fun h1 h2 m => by
    rcases m with m | m
    · exact nYM h1 m
    · rw [m, X.gtl] at h2; exact h2 rfl
  have L := X.lay
  have W := L.newWord (h := h) (m := m)
  refine ⟨X.bag.fr' FA (nFA (by rw [X.gb]; simp) (by rw [X.gb]; simp)) (nFA (by rw [X.gc]; simp) (by rw [X.gc]; simp)), ?_, ⟨?_, ?_, ?_⟩, ?_, ?_, ?_, X.gb, X.gc, X.gtl, X.gp, X.gdw, X.gds⟩
  · rw [List.map_append]
    have eW : madeW (wordAt ts) fr h m = wordAt (ts ++ [(fr, List.replicate h 0, List.replicate m 0)]) := funext fun u => (W u).symm
    have eT : [(fr, (h : Int), (m : Int))] = [((fr, List.replicate h 0, List.replicate m 0) : Th)].map thTri := by simp [thTri]
    rw [eW, eT] at Y4
    exact Y4.fr F4 (fun m => by rw [← m, Y4.ins] at top4; cases top4) (fun m => by rw [← m, hw] at top4; cases top4) (fun m => by rw [← m, hs] at top4; cases top4)
  · rw [List.map_append]; exact upd_same
  · rw [List.length_append, List.length_append, X.rows.len]; rfl
  · intro k a t hk ht
    by_cases d : k < ts.length
    · rw [List.getElem?_append_left (by rw [X.rows.len]; exact d)] at hk
      rw [List.getElem?_append_left d] at ht
      obtain ⟨r1, r2, r3⟩ := X.rows.row k a t hk ht
      obtain ⟨g1, g2⟩ := X.tags k a hk
      exact ⟨FA.tups _ _ r1, FA.keep _ _ r2 (nFA (by rw [g1]; simp) (by rw [g1]; simp)), FA.keep _ _ r3 (nFA (by rw [g2]; simp) (by rw [g2]; simp))⟩
    · have hk' : k = ts.length := by
        have := (List.getElem?_eq_some_iff.mp ht).1
        simp at this; omega
      subst hk'
      rw [← X.rows.len, List.getElem?_append_right (Nat.le_refl _), Nat.sub_self] at hk
      cases hk
      rw [List.getElem?_append_right (Nat.le_refl _), Nat.sub_self] at ht
      cases ht
      refine ⟨F4.tups _ _ e3, F4.keep _ _ e1 (fun m => ?_), F4.keep _ _ e2 (fun m => ?_)⟩
      · have := X.gtl; rw [← m, ga] at this; simp at this
      · have := X.gtl; rw [← m, gn] at this; simp at this
  · intro k a hk
    by_cases d : k < as.length
    · rw [List.getElem?_append_left d] at hk
      exact X.tags k a hk
    · have hk' : k = as.length := by
        have := (List.getElem?_eq_some_iff.mp hk).1
        simp at this; omega
      subst hk'
      rw [List.getElem?_append_right (Nat.le_refl _), Nat.sub_self] at hk
      cases hk
      rw [X.rows.len]
      exact ⟨ga, gn⟩
  · have := L.snoc (t := (fr, List.replicate h 0, List.replicate m 0)) rfl
    rw [show fr + thSz (fr, List.replicate h 0, List.replicate m 0) = fr + 1 + h + m by unfold thSz; simp; omega] at this
    exact this
  · intro t ht
    rcases List.mem_append.mp ht with ht | ht
    · exact X.small t ht
    · rw [List.mem_singleton.mp ht]; simp; omega
theorem Wo.set {C b c tl : Addr} {yd : Yd} {cs : List Int} {g : Addr → Tag} {H H' : Hp} {as : List (Addr × Addr × Addr)} {ts ts' : List Th} {s fr : Int} (x : Wo C b c tl yd cs g H as ts s fr) (Y : YardAt C H' yd (wordAt ts') (ts'.map thTri) fr) (R : RowsAt HO.lst H' tl as ts') (em : ts'.map thTri = ts.map thTri) (F : Fr (fun q => q = yd.dw ∨ (g q).1 = 2) H H') :
    Wo C b c tl yd cs g H' as ts' s fr := by
  have n : ∀ {q}, (g q).1 = 0 → ¬ (q = yd.dw ∨ (g q).1 = 2) := fun h m => by
    rcases m with m | m
    · rw [m, x.gdw] at h; simp at h
    · omega
  refine ⟨x.bag.fr' F (n (by rw [x.gb])) (n (by rw [x.gc])), Y, R, x.tags, Lay.of_tri em.symm x.lay, fun t ht => ?_, x.gb, x.gc, x.gtl, x.gp, x.gdw, x.gds⟩
  have : thTri t ∈ ts.map thTri := by rw [← em]; exact List.mem_map.mpr ⟨t, ht, rfl⟩
  obtain ⟨u, hu, eu⟩ := List.mem_map.mp this
  have := x.small u hu
  simp [thTri] at eu
  omega

end
section
variable {P : Program} {w : World} {K : PySem.W.Frag} {mg : Str → Option Value} {base : Heap} {a : Ad}
def NL (L : List Addr) (H : Hp) : Prop := L.Nodup ∧ ∀ q ∈ L, ∃ o, H q = some o
theorem NL.same {L : List Addr} {H H' : Hp} (x : NL L H) (s : Same H H') : NL L H' := ⟨x.1, fun q hq => by obtain ⟨o, e⟩ := x.2 q hq; exact ⟨o, s _ _ e⟩⟩
theorem NL.add {L : List Addr} {H H' : Hp} {p : Addr} {o : HO} (x : NL L H) (hp : H p = none) (s : Same H H') (h : H' p = some o) : NL (p :: L) H' :=
  ⟨List.nodup_cons.mpr ⟨fun hq => (by obtain ⟨o, e⟩ := x.2 p hq; rw [hp] at e; cases e), x.1⟩, fun q hq => by
    rcases List.mem_cons.mp hq with e | hq
    · rw [e]; exact ⟨o, h⟩
    · obtain ⟨o, e⟩ := x.2 q hq; exact ⟨o, s _ _ e⟩⟩
def tagOf (L : List Addr) (tags : List Tag) (q : Addr) : Tag := tags.getD (L.idxOf q) (99, 0, 0)
theorem tag_at {L : List Addr} {tags : List Tag} {i : Nat} {q : Addr} (h : L.Nodup) (hq : L[i]? = some q) : tagOf L tags q = tags.getD i (99, 0, 0) := by
  obtain ⟨hi, e⟩ := List.getElem?_eq_some_iff.mp hq
  unfold tagOf
  rw [← e, h.idxOf_getElem i hi]
theorem log_small {z : Int} (h : z.natAbs < 2 ^ 1920) : z.natAbs.log2 < 1920 := by
  by_cases c : z.natAbs = 0
  · rw [c]; decide
  · exact (Nat.log2_lt c).mpr h
theorem Lay.bound : ∀ {ts : List Th} {s f : Int}, Lay s ts f → (∀ t ∈ ts, t.2.1.length ≤ 9 ∧ t.2.2.length ≤ 9) → f ≤ s + 19 * ts.length
  | [], s, f, h, _ => by cases (show f = s from h); simp
  | u :: r, s, f, ⟨h1, h2⟩, sm => by
    have := Lay.bound h2 (fun t ht => sm t (List.mem_cons_of_mem _ ht))
    have := sm u List.mem_cons_self
    unfold thSz at *
    rw [List.length_cons]
    omega
theorem spot_log {s f r : Int} (h1 : 1 ≤ s) (h2 : s ≤ 10 ^ 59) (h3 : f ≤ s + 10 ^ 9) (r0 : s - 2 ≤ r) (r1 : r ≤ f + 1) : r.natAbs.log2 < 1920 := by
  refine log_small ?_
  have : (10 : Nat) ^ 60 < 2 ^ 1920 := by decide
  have : (10 : Int) ^ 59 + 10 ^ 9 + 1 ≤ ((10 ^ 60 : Nat) : Int) := by decide
  omega

def GoodH (ts : List Th) : Prop := ∀ t ∈ ts, ∀ h ∈ t.2.1, h = 0 ∨ ∃ u ∈ ts, u.1 = h
theorem addr_tri {a b : List Th} (e : a.map thTri = b.map thTri) {z : Int} (h : ∃ u ∈ a, u.1 = z) : ∃ u ∈ b, u.1 = z := by
  obtain ⟨u, hu, rfl⟩ := h
  have : thTri u ∈ b.map thTri := by rw [← e]; exact List.mem_map.mpr ⟨u, hu, rfl⟩
  obtain ⟨v, hv, ev⟩ := List.mem_map.mp this
  exact ⟨v, hv, congrArg (·.1) ev⟩
theorem GoodH.set {ts : List Th} {k j : Nat} {t : Th} {v : Int} (g : GoodH ts) (hk : ts[k]? = some t) (hv : j < t.2.1.length → v = 0 ∨ ∃ u ∈ ts, u.1 = v) : GoodH (ts.set k (setF t j v)) := by
  have em := map_set_same (f := thTri) hk (setF_tri (t := t) (j := j) (v := v))
  have up : ∀ {h}, (h = 0 ∨ ∃ u ∈ ts, u.1 = h) → (h = 0 ∨ ∃ u ∈ ts.set k (setF t j v), u.1 = h) := fun h => h.imp id (addr_tri em.symm)
  intro u hu h hh
  rcases List.mem_or_eq_of_mem_set hu with m | e
  · exact up (g u m h hh)
  · subst e
    have mt := List.mem_of_getElem? hk
    unfold setF at hh
    split at hh
    · rename_i c
      rcases List.mem_or_eq_of_mem_set hh with m | e
      · exact up (g t mt h m)
      · rw [e]; exact up (hv c)
    · exact up (g t mt h hh)
def sp_filled (C : Addr) : Sp := fun vs H Q _ => ∃ (b c : Addr) (yd : Yd) (cs : List Int) (s : Int), vs = [.ref b, .ref yd.p] ∧ BagAt H b c cs ∧ YardAt C H yd (fun _ => none) [] s ∧ NL [yd.ds, yd.dw, yd.p, c, b] H ∧ 1 ≤ s ∧ s ≤ 10 ^ 59 ∧
  ∀ (tl : Addr) (g : Addr → Tag) (as : List (Addr × Addr × Addr)) (ts : List Th) (fr : Int) (H' : Hp), Wo C b c tl yd cs g H' as ts s fr → 0 < ts.length → ts.length ≤ 400 → GoodH ts → Q (.ref tl) H'
set_option maxHeartbeats 2000000 in
theorem ok_law_filled (T : Txt K mg a) : FnOk P w K mg base (CX1 P w) 3 a.f_law_filled a.d_law_filled ["bag", "yard"] (sp_filled a.c_Yard) := by
  refine T.F_law_filled.okC sc_law_filled (fun vs H Q E h => ?_) (fun cdv A outer s H vs Q E hr h => ?_)
  · obtain ⟨b, c, yd, cs, s, rfl, _⟩ := h
    rfl
  · obtain ⟨b, c, yd, cs, s, rfl, hb, hy, N, s0, s1, q⟩ := h
    have hu := hu_of hr
    refine ⟨_, (pss_cons (ps_set (i := 2) sc_law_filled.nd (by rfl) (Or.inl rfl) (pe_call (ok_law_many T) (hr.mono (by decide)) (by rfl) T.m_law_many T.F_law_many.kp T.b_law_many .nil pass1 (pa_cons (pv 0) pa_nil)))
      (pss_cons (ps_set (i := 3) sc_law_filled.nd (by rfl) (Or.inl rfl) (pe_call (ok_law_draw T) (hr.mono (by decide)) (by rfl) T.m_law_draw T.F_law_draw.kp T.b_law_draw .nil pass1 (pa_cons (pv 0) (pa_cons pe_int pa_nil))))
      (pss_cons (ps_set (i := 4) sc_law_filled.nd (by rfl) (Or.inl rfl) (pe_lst pa_nil))
      (pss_cons (ps_for PassesOwn.never (by rfl) (pi_range1 (by rfl) T.z_range (pa_cons (pv 2) pa_nil)) (pg_name (i := 5) sc_law_filled.nd (by rfl) (Or.inl rfl))
      (pss_cons (ps_asg (pe_call (ok_law_size T) (hr.mono (by decide)) (by rfl) T.m_law_size T.F_law_size.kp T.b_law_size .nil pass1 (pa_cons (pv 0) pa_nil)) (pg_tup (n := 2) (by rfl) (pgs_cons (pg_name (i := 6) sc_law_filled.nd (by rfl) (Or.inl rfl)) (pgs_cons (pg_name (i := 7) sc_law_filled.nd (by rfl) (Or.inl rfl)) pgs_nil))))
      (pss_cons (ps_set (i := 6) sc_law_filled.nd (by rfl) (Or.inl rfl) (pe_callB (call_max2 (by rfl)) (by rfl) T.z_max (by decide +kernel) (pa_cons (pv 6) (pa_cons (pe_callTy call_int1 (by rfl) T.z_int (by decide +kernel) (pa_cons (pe_cmpR op_gt (pv 3) pe_int (nomark _)) pa_nil)) pa_nil))))
      (pss_one (ps_expr (pe_bm PySem.F.plainAttrs_list PySem.F.slot_list_append PySem.F.type_list_append mt_append (pv 4) (pa_cons (pe_tup (pa_cons (pe_meth (pv 1) T.cl_Yard T.M_Yard_make (ok_Yard_make T) (hr.mono (by decide)) T.b_Yard_make .nil pass1 (pa_cons (pv 6) (pa_cons (pv 7) pa_nil))) (pa_cons (pe_op op_rep (pe_lst (pa_cons pe_int pa_nil)) (pv 6)) (pa_cons (pe_op op_rep (pe_lst (pa_cons pe_int pa_nil)) (pv 7)) pa_nil)))) pa_nil)))))))
      (pss_cons (ps_for PassesOwn.never (by rfl) (pi_range1 (by rfl) T.z_range (pa_cons (pv 2) pa_nil)) (pg_name (i := 5) sc_law_filled.nd (by rfl) (Or.inl rfl))
      (pss_cons (ps_for PassesOwn.never (by rfl) (pi_range1 (by rfl) T.z_range (pa_cons (pe_callB call_lenF (by rfl) T.z_len (by decide +kernel) (pa_cons (pe_ix ix_F (pe_ix ix_F (pv 4) (pv 5) (fun _ _ => rfl)) pe_int (fun _ _ => rfl)) pa_nil)) pa_nil)) (pg_name (i := 8) sc_law_filled.nd (by rfl) (Or.inl rfl))
      (pss_one (ps_expr (pe_call (ok_law_field T) (hr.mono (by decide)) (by rfl) T.m_law_field T.F_law_field.kp T.b_law_field .nil pass1 (pa_cons (pv 1) (pa_cons (pv 4) (pa_cons (pv 5) (pa_cons (pv 8) (pa_cons (pe_call (ok_law_hold T) (hr.mono (by decide)) (by rfl) T.m_law_hold T.F_law_hold.kp T.b_law_hold .nil pass1 (pa_cons (pv 0) (pa_cons (pv 4) (pa_cons (pv 5) (pa_cons (pe_op op_mul (pv 3) (pe_callTy call_int1 (by rfl) T.z_int (by decide +kernel) (pa_cons (pe_cmpR op_eq (pv 8) pe_int (nomark _)) pa_nil))) pa_nil))))) pa_nil)))))))))
      (pss_one (ps_for PassesOwn.never (by rfl) (pi_range1 (by rfl) T.z_range (pa_cons (pe_callB call_lenF (by rfl) T.z_len (by decide +kernel) (pa_cons (pe_ix ix_F (pe_ix ix_F (pv 4) (pv 5) (fun _ _ => rfl)) pe_int (fun _ _ => rfl)) pa_nil)) pa_nil)) (pg_name (i := 8) sc_law_filled.nd (by rfl) (Or.inl rfl))
      (pss_one (ps_expr (pe_call (ok_law_field T) (hr.mono (by decide)) (by rfl) T.m_law_field T.F_law_field.kp T.b_law_field .nil pass1 (pa_cons (pv 1) (pa_cons (pv 4) (pa_cons (pv 5) (pa_cons (pe_op op_add (pe_callB call_lenF (by rfl) T.z_len (by decide +kernel) (pa_cons (pe_ix ix_F (pe_ix ix_F (pv 4) (pv 5) (fun _ _ => rfl)) pe_int (fun _ _ => rfl)) pa_nil)) (pv 8)) (pa_cons (pe_call (ok_law_worth T) (hr.mono (by decide)) (by rfl) T.m_law_worth T.F_law_worth.kp T.b_law_worth .nil pass1 (pa_cons (pv 0) pa_nil)) pa_nil))))))))))))
      (pss_one (ps_ret (pv 4)))))))), ?_⟩
    have ydn : ∀ q ∈ [yd.ds, yd.dw, yd.p], q ≠ b := fun q hq e => by
      have := N.1
      simp only [List.nodup_cons, List.mem_cons, List.not_mem_nil, or_false, not_or] at this
      simp only [List.mem_cons, List.not_mem_nil, or_false] at hq
      rcases hq with rfl | rfl | rfl
      · exact this.1.2.2.2 e
      · exact this.2.1.2.2 e
      · exact this.2.2.1.2 e
    simp! []
    refine ⟨b, c, cs, rfl, hb, fun many H1 m0 m1 hb1 k1 => ?_⟩
    simp! []
    refine ⟨b, c, cs, 3, rfl, hb1, by decide, by decide, fun chain H2 c0 c1 hb2 k2 => ?_⟩
    simp! []
    intro tl ntl
    have k12 := k1.trans k2
    have F12 := hb.kfr k12
    have hy2 := hy.fr F12 (ydn _ (by simp)) (ydn _ (by simp)) (ydn _ (by simp))
    have S3 : Same H2 (upd H2 tl (.lst [])) := .laid ntl
    have N2 : NL [yd.ds, yd.dw, yd.p, c, b] H2 := ⟨N.1, fun q hq => by
      simp only [List.mem_cons, List.not_mem_nil, or_false] at hq
      obtain ⟨kw, hw, _⟩ := hy2.words
      obtain ⟨ks, hs, _⟩ := hy2.sizes
      rcases hq with rfl | rfl | rfl | rfl | rfl
      · exact ⟨_, hs⟩
      · exact ⟨_, hw⟩
      · exact ⟨_, hy2.ins⟩
      · exact ⟨_, hb2.at_⟩
      · obtain ⟨⟨i, v, s, n, e, _⟩, _⟩ := hb2; exact ⟨_, e⟩⟩
    have N3 := N2.add ntl S3 upd_same
    have W0 : Wo a.c_Yard b c tl yd cs (tagOf [tl, yd.ds, yd.dw, yd.p, c, b] [(1, 0, 0), (10, 0, 2), (10, 0, 1), (10, 0, 0), (0, 1, 0), (0, 0, 0)]) (upd H2 tl (.lst [])) [] [] s s :=
      ⟨hb2.keep S3, hy2.same S3, ⟨upd_same, rfl, fun k a t h => by simp at h⟩, fun k a h => by simp at h, rfl, by simp, tag_at (i := 5) N3.1 rfl, tag_at (i := 4) N3.1 rfl, tag_at (i := 0) N3.1 rfl, tag_at (i := 3) N3.1 rfl, tag_at (i := 2) N3.1 rfl, tag_at (i := 1) N3.1 rfl⟩
    revert W0
    generalize tagOf [tl, yd.ds, yd.dw, yd.p, c, b] [(1, 0, 0), (10, 0, 2), (10, 0, 1), (10, 0, 0), (0, 1, 0), (0, 0, 0)] = g0
    generalize upd H2 tl (.lst []) = H3
    intro W0
    clear N3 N2 S3 hy2 F12 k12 ntl hb2 k2 hb1 k1 hb hy N ydn H2 H1
    obtain ⟨mN, rfl⟩ := Int.eq_ofNat_of_zero_le (by omega : 0 ≤ many)
    refine for1 (H1 := H3) (mN : Int) (fun Q2 h2 => by simp! []; exact h2) (by omega) (by omega) (fun i σ H4 => ∃ (g : Addr → Tag) (as : List (Addr × Addr × Addr)) (ts : List Th) (fr : Int) (v5 v6 v7 v8 : Option V), σ = [some (.ref b), some (.ref yd.p), some (.int mN), some (.int chain), some (.ref tl), v5, v6, v7, v8] ∧ Wo a.c_Yard b c tl yd cs g H4 as ts s fr ∧ ts.length = i ∧ ∀ t ∈ ts, ∀ h ∈ t.2.1, h = 0)
      ⟨g0, [], [], s, _, _, _, _, rfl, W0, rfl, by simp⟩ ?_ ?_
    · rintro i σ H4 hi ⟨g, as, ts, fr, v5, v6, v7, v8, rfl, W, li, zz⟩
      simp! []
      refine ⟨b, c, cs, rfl, W.bag, fun h m p H5 h0 h1 m0 m1 B5 hp5 k5 => ?_⟩
      replace W := W.drawn B5 k5
      refine gTup_of hp5 rfl ?_
      simp! []
      have o01 : (if 0 < chain then (1 : Int) else 0) = 0 ∨ (if 0 < chain then (1 : Int) else 0) = 1 := by
        split
        · exact .inr rfl
        · exact .inl rfl
      have hh0 : 0 ≤ (if (if 0 < chain then (1 : Int) else 0) > h then if 0 < chain then 1 else 0 else h) := by
        rcases o01 with e | e <;> rw [e] <;> split <;> omega
      have hh1 : (if (if 0 < chain then (1 : Int) else 0) > h then if 0 < chain then 1 else 0 else h) ≤ 9 := by
        rcases o01 with e | e <;> rw [e] <;> split <;> omega
      revert hh0 hh1
      generalize (if (if 0 < chain then (1 : Int) else 0) > h then if 0 < chain then 1 else 0 else h) = h2
      intro hh0 hh1
      have b3 := W.yard.ins
      have top5 := W.rows.top
      simp! [b3, yF_meth, tBM]
      obtain ⟨hN, rfl⟩ := Int.eq_ofNat_of_zero_le hh0
      obtain ⟨mM, rfl⟩ := Int.eq_ofNat_of_zero_le m0
      refine ⟨.inl ⟨rfl, _, .of top5⟩, yd, hN, mM, fr, _, _, rfl, hh0, hh1, m0, m1, W.yard, ?_, by rw [List.length_map]; omega, fun H6 Y6 F6 => ?_⟩
      · intro t ht
        obtain ⟨t', ht', rfl⟩ := List.mem_map.mp ht
        have := W.lay.mem ht'
        have := thSz_pos t'
        show t'.1 ≠ fr
        omega
      have rep : ∀ n : Nat, (List.replicate n [V.int 0]).flatten = (List.replicate n (0 : Int)).map V.int := fun n => by
        induction n with
        | zero => rfl
        | succ n ih => rw [List.replicate_succ, List.flatten_cons, ih, List.replicate_succ]; rfl
      intro q1 nq1
      refine ⟨q1, hN, _, rfl, rfl, upd_same, by omega, by omega, by rw [sizeLine_eq]; simp; omega, fun ha nha => ?_⟩
      intro q2 nq2
      refine ⟨q2, mM, _, rfl, rfl, upd_same, by omega, by omega, by rw [sizeLine_eq]; simp; omega, fun na nna => ?_⟩
      intro tp ntp
      rw [show (hN : Int).toNat = hN from rfl, show (mM : Int).toNat = mM from rfl, rep, rep]
      rw [show (hN : Int).toNat = hN from rfl, rep] at nq2 nna ntp
      rw [show (mM : Int).toNat = mM from rfl, rep] at ntp
      have Sa : Same H6 (upd H6 q1 (.lst [.int 0])) := .laid nq1
      have Sb := Sa.step nha (u := .lst ((List.replicate hN (0 : Int)).map V.int))
      have Sc := Sb.step nq2 (u := .lst [.int 0])
      have Sd := Sc.step nna (u := .lst ((List.replicate mM (0 : Int)).map V.int))
      have Se := Sd.step ntp (u := .tup [.int fr, .ref ha, .ref na])
      obtain ⟨top6, g', W'⟩ := W.made (by omega) (by omega) Y6 F6 Se (Sa.free nha) (Sc.free nna) (ne_of_none (upd_old upd_same nq2) nna) (upd_old (upd_old (upd_old upd_same nq2) nna) ntp) (upd_old upd_same ntp) upd_same
      refine ⟨tl, _, V.ref tp, rfl, rfl, top6, by rw [sizeLine_eq, List.length_map, W.rows.len]; omega, g', _, _, _, W', by rw [List.length_append, li]; rfl, fun t ht z hz => ?_⟩
      rcases List.mem_append.mp ht with m | m
      · exact zz t m z hz
      · rw [List.mem_singleton.mp m] at hz
        exact List.eq_of_mem_replicate hz
    · rintro σ H4 ⟨g, as, ts0, fr, v5, v6, v7, v8, rfl, W, li, zz⟩
      have g0 : GoodH ts0 := fun t ht h hh => .inl (zz t ht h hh)
      simp! []
      have lb := Law.Lay.bound W.lay W.small
      have p9 : (19 * 400 : Int) ≤ 10 ^ 9 := by decide
      have lg : ∀ (ts : List Th) (t : Th) (j : Nat), Lay s ts fr → t ∈ ts → j < t.2.1.length + t.2.2.length → (t.1 + 1 + (j : Int)).natAbs.log2 < 1920 := fun ts t j L mt hj => by
        have := L.mem mt
        have e : thSz t = 1 + t.2.1.length + t.2.2.length := rfl
        exact spot_log s0 s1 (by omega : fr ≤ s + 10 ^ 9) (by omega) (by omega)
      refine for1 (H1 := H4) (mN : Int) (fun Q2 h2 => by simp! []; exact h2) (by omega) (by omega) (fun i σ H5 => ∃ (ts : List Th) (v5 v6 v7 v8 : Option V), σ = [some (.ref b), some (.ref yd.p), some (.int mN), some (.int chain), some (.ref tl), v5, v6, v7, v8] ∧ Wo a.c_Yard b c tl yd cs g H5 as ts s fr ∧ ts.map thTri = ts0.map thTri ∧ GoodH ts)
        ⟨ts0, _, _, _, _, rfl, W, rfl, g0⟩ ?_ ?_
      · clear W g0 zz
        rintro i σ H5 hi ⟨ts, v5, v6, v7, v8, rfl, W, em, gd⟩
        have ln : ts.length = mN := by
          have := congrArg List.length em
          rw [List.length_map, List.length_map] at this
          have : (mN : Int).toNat = mN := rfl
          omega
        have ik : i < ts.length := by
          have : (mN : Int).toNat = mN := rfl
          omega
        have at_ : ∀ {ts' : List Th} {H' : Hp}, Wo a.c_Yard b c tl yd cs g H' as ts' s fr → ts'.map thTri = ts0.map thTri → ∃ (bb : Addr × Addr × Addr) (t : Th), ts'[i]? = some t ∧ t ∈ ts' ∧ H' tl = some (.lst (as.map fun a => V.ref a.1)) ∧ atI (as.map fun a => V.ref a.1) ((i : Nat) : Int) = some (V.ref bb.1) ∧ H' bb.1 = some (.tup [.int t.1, .ref bb.2.1, .ref bb.2.2]) ∧ H' bb.2.1 = some (.lst (t.2.1.map V.int)) ∧ H' bb.2.2 = some (.lst (t.2.2.map V.int)) ∧ thTri t = thTri ts[i] := fun {ts' H'} W' em' => by
          have e2 : ts'.map thTri = ts.map thTri := em'.trans em.symm
          have il : i < ts'.length := by
            have := congrArg List.length e2
            rw [List.length_map, List.length_map] at this
            omega
          have ht := List.getElem?_eq_getElem il
          obtain ⟨bb, hbb, r1, r2, r3⟩ := W'.rows.at_ ht
          refine ⟨bb, ts'[i], ht, List.getElem_mem il, W'.rows.top, atI_nat (by rw [List.getElem?_map, hbb]; rfl), r1, r2, r3, ?_⟩
          have := congrArg (·[i]?) e2
          simp only [List.getElem?_map, ht, List.getElem?_eq_getElem ik, Option.map_some, Option.some.injEq] at this
          exact this
        simp! [Int.zero_add]
        refine for1_ (fun n H6 => n = ts[i].2.1.length ∧ H6 = H5) (fun Q2 hQ => ?_) ?_
        · obtain ⟨bb, t, ht, mt, r0, r1, r2, r3, r4, et⟩ := at_ W em
          simp! [r0, r1, r2, r3, List.length_map]
          refine hQ _ _ ⟨?_, rfl⟩
          have e : (t.2.1.length : Int) = ts[i].2.1.length := congrArg (·.2.1) et
          exact e
        rintro n H6 ⟨rfl, rfl⟩
        refine for1 (H1 := H6) _ (fun Q2 h2 => h2) (by have := W.small _ (List.getElem_mem ik); omega) (by have := W.small _ (List.getElem_mem ik); omega) (fun j σ H7 => ∃ (ts' : List Th) (v6 v7 v8 : Option V), σ = [some (.ref b), some (.ref yd.p), some (.int mN), some (.int chain), some (.ref tl), some (.int i), v6, v7, v8] ∧ Wo a.c_Yard b c tl yd cs g H7 as ts' s fr ∧ ts'.map thTri = ts0.map thTri ∧ GoodH ts')
          ⟨ts, _, _, _, rfl, W, em, gd⟩ ?_ ?_
        · rintro j σ H7 hj ⟨ts', v6, v7, v8, rfl, W', em', gd'⟩
          obtain ⟨bb, t, ht, mt, r0, r1, r2, r3, r4, et⟩ := at_ W' em'
          have e21 : (t.2.1.length : Int) = ts[i].2.1.length := congrArg (·.2.1) et
          have jl : j < t.2.1.length := by omega
          have ln' : ts'.length = mN := by
            have := congrArg List.length em'
            rw [List.length_map, List.length_map] at this
            have : (mN : Int).toNat = mN := rfl
            omega
          simp! [Int.zero_add]
          have c01 : (if (j : Int) = 0 then (1 : Int) else 0) = 0 ∨ (if (j : Int) = 0 then (1 : Int) else 0) = 1 := by
            split
            · exact .inr rfl
            · exact .inl rfl
          refine ⟨.inl ⟨by omega, by omega⟩, b, c, tl, cs, as, ts', i, _, rfl, W'.bag, fun Hx Bx kx => (W'.drawn Bx kx).rows, by omega, by omega, ?_, ?_, fun r H8 gr B8 k8 => ?_⟩
          · rcases c01 with e | e <;> rw [e] <;> omega
          · rcases c01 with e | e <;> rw [e] <;> omega
          have W8 := W'.drawn B8 k8
          refine ⟨g, yd, tl, as, ts', t, s, fr, r, i, j, rfl, W8.yard, W8.rows, W8.tags, W8.lay, by omega, ht, by omega, lg ts' t j W8.lay mt (by omega), by rw [W8.gtl]; simp, fun H9 Y9 R9 F9 => ?_⟩
          have em9 := map_set_same (f := thTri) ht (setF_tri (t := t) (j := j) (v := r))
          exact ⟨_, W8.set Y9 R9 em9 F9, em9.trans em', gd'.set ht fun _ => gr⟩
        · rintro σ H7 ⟨ts', v6, v7, v8, rfl, W', em', gd'⟩
          clear W gd
          dsimp only
          refine for1_ (fun n H8 => n = ts[i].2.2.length ∧ H8 = H7) (fun Q2 hQ => ?_) ?_
          · obtain ⟨bb, t, ht, mt, r0, r1, r2, r3, r4, et⟩ := at_ W' em'
            simp! [r0, r1, r2, r4, List.length_map]
            have e : (t.2.2.length : Int) = ts[i].2.2.length := congrArg (·.2.2) et
            exact hQ _ _ ⟨e, rfl⟩
          rintro n H8 ⟨rfl, rfl⟩
          have sm : ts[i].2.2.length ≤ 9 := by
            obtain ⟨bb, t, ht, mt, r0, r1, r2, r3, r4, et⟩ := at_ W' em'
            have e : (t.2.2.length : Int) = ts[i].2.2.length := congrArg (·.2.2) et
            have := W'.small t mt
            omega
          refine for1 (H1 := H8) _ (fun Q2 h2 => h2) (by omega) (by omega) (fun j σ H9 => ∃ (ts' : List Th) (v6 v7 v8 : Option V), σ = [some (.ref b), some (.ref yd.p), some (.int mN), some (.int chain), some (.ref tl), some (.int i), v6, v7, v8] ∧ Wo a.c_Yard b c tl yd cs g H9 as ts' s fr ∧ ts'.map thTri = ts0.map thTri ∧ GoodH ts')
            ⟨ts', _, _, _, rfl, W', em', gd'⟩ ?_ ?_
          · clear W' em' gd'
            rintro j σ H9 hj ⟨ts2, v6, v7, v8, rfl, W', em', gd'⟩
            obtain ⟨bb, t, ht, mt, r0, r1, r2, r3, r4, et⟩ := at_ W' em'
            have e22 : (t.2.2.length : Int) = ts[i].2.2.length := congrArg (·.2.2) et
            have ln' : ts2.length = mN := by
              have := congrArg List.length em'
              rw [List.length_map, List.length_map] at this
              have : (mN : Int).toNat = mN := rfl
              omega
            simp! [Int.zero_add, r0, r1, r2, r3, List.length_map]
            refine ⟨b, c, cs, rfl, W'.bag, fun r H10 B10 k10 => ?_⟩
            have W10 := W'.drawn B10 k10
            refine ⟨g, yd, tl, as, ts2, t, s, fr, r, i, t.2.1.length + j, by rw [Int.natCast_add], W10.yard, W10.rows, W10.tags, W10.lay, by omega, ht, by omega, lg ts2 t _ W10.lay mt (by omega), by rw [W10.gtl]; simp, fun H11 Y11 R11 F11 => ?_⟩
            have em11 := map_set_same (f := thTri) ht (setF_tri (t := t) (j := t.2.1.length + j) (v := r))
            exact ⟨_, W10.set Y11 R11 em11 F11, em11.trans em', gd'.set ht fun c => absurd c (by omega)⟩
          · rintro σ H9 ⟨ts2, v6, v7, v8, rfl, W', em', gd'⟩
            exact ⟨ts2, _, _, _, _, rfl, W', em', gd'⟩
      · rintro σ H5 ⟨ts, v5, v6, v7, v8, rfl, W, em, gd⟩
        have ln : ts.length = mN := by
          have := congrArg List.length em
          rw [List.length_map, List.length_map] at this
          have : (mN : Int).toNat = mN := rfl
          omega
        simp! []
        exact q tl g as ts fr H5 W (by omega) (by omega) gd

end
section
variable {P : Program} {w : World} {K : PySem.W.Frag} {mg : Str → Option Value} {base : Heap} {a : Ad}

def sp_free : Sp := fun vs H Q _ => ∃ (tl : Addr) (as : List (Addr × Addr × Addr)) (ts : List Th) (s f : Int), vs = [.int s, .ref tl] ∧ RowsAt HO.lst H tl as ts ∧ Lay s ts f ∧ ts.length ≤ 1000 ∧ ∀ H', Same H H' → Q (.int f) H'
theorem ok_law_free (T : Txt K mg a) : FnOk P w K mg base (CX1 P w) 1 a.f_law_free a.d_law_free ["start", "things"] sp_free := by
  refine T.F_law_free.okC sc_law_free (fun vs H Q E h => ?_) (fun cdv A outer s H vs Q E hr h => ?_)
  · obtain ⟨tl, as, ts, s, f, rfl, _⟩ := h
    rfl
  · obtain ⟨tl, as, ts, s, f, rfl, R, L, lt, q⟩ := h
    have hu := hu_of hr
    have top := R.top
    refine ⟨_, (pss_one (ps_ret (pe_op op_add (pv 0) (pe_callB (call_sum (by rfl)) (by rfl) T.z_sum (by decide +kernel) (pa_cons (pe_comp (N' := ["thing"]) (cap := [none]) ⟨rfl, (by decide +kernel), (by decide +kernel), (by rfl), rfl, (by rfl)⟩ (by rfl) (pi_list (pv 1)) (fun C_ ex_ s_ H_ => (pg_name (i := 0) (show (["thing"] : List Str).Nodup by decide +kernel) (by rfl) (Or.inl rfl))) gkp_name (fun C_ ex_ s_ H_ => pifs_nil) (fun C_ ex_ s_ H_ => (pe_op op_add (pe_op op_add pe_int (pe_callB call_lenF (by rfl) T.z_len (by decide +kernel) (pa_cons (pe_ix ix_F (pv 0) pe_int (fun _ _ => rfl)) pa_nil))) (pe_callB call_lenF (by rfl) T.z_len (by decide +kernel) (pa_cons (pe_ix ix_F (pv 0) pe_int (fun _ _ => rfl)) pa_nil))))) pa_nil))))), ?_⟩
    simp! []
    refine compL (H1 := H) tl _ ?_ (.of top) (fun D i ys H2 => ys = ((ts.take i).map thSz).map V.int ∧ H2 = upd H D (.lst ys)) (fun D hD => ⟨rfl, rfl⟩) ?_ (by rw [sizeLine_eq, List.length_map, R.len]; omega) ?_ ?_
    · intro Q2 h2
      simp! []
      exact h2
    · rintro D hD i ys H2 hi ⟨rfl, rfl⟩
      exact ⟨.of (upd_old top hD), upd_same, by simp; omega⟩
    · rintro D hD i x ys H2 hi ⟨rfl, rfl⟩
      obtain ⟨b, hb, rfl⟩ := of_map_get hi
      have hi2 : i < ts.length := by rw [← R.len]; exact (List.getElem?_eq_some_iff.mp hb).1
      have ht := List.getElem?_eq_getElem hi2
      obtain ⟨e1, e2, e3⟩ := R.row i b _ hb ht
      have S := Same.laid (u := .lst (((ts.take i).map thSz).map V.int)) hD
      have e1' := S _ _ e1
      have e2' := S _ _ e2
      have e3' := S _ _ e3
      simp! [tTrue, capSt, e1', e2', e3', List.length_map, upd_upd]
      rw [List.take_succ, ht, List.map_append, List.map_append]; rfl
    · rintro D hD ys H2 ⟨rfl, rfl⟩
      have et : ts.take (as.map fun a => V.ref a.1).length = ts := by rw [List.length_map, R.len, List.take_length]
      rw [et]
      simp! [upd_same]
      refine ⟨ts.map thSz, rfl, ?_⟩
      rw [← L.sum]
      exact q _ (.laid hD)

def sp_roots : Sp := fun vs H Q _ => ∃ (b c tl : Addr) (cs : List Int) (as : List (Addr × Addr × Addr)) (ts : List Th), vs = [.ref b, .ref tl] ∧ BagAt H b c cs ∧ (∀ H', BagAt H' b c cs → Kp b H H' → RowsAt HO.lst H' tl as ts) ∧ 0 < ts.length ∧ ts.length ≤ 1000 ∧
  ∀ (rl : Addr) (roots : List Int) (H' : Hp), H rl = none → H' rl = some (.lst (roots.map V.int)) → roots.length ≤ 400 → (∀ r ∈ roots, r = 0 ∨ ∃ t ∈ ts, t.1 = r) → BagAt H' b c cs → Kp b H H' → Q (.ref rl) H'
set_option maxHeartbeats 1000000 in
theorem ok_law_roots (T : Txt K mg a) : FnOk P w K mg base (CX1 P w) 3 a.f_law_roots a.d_law_roots ["bag", "things"] sp_roots := by
  refine T.F_law_roots.okC sc_law_roots (fun vs H Q E h => ?_) (fun cdv A outer s H vs Q E hr h => ?_)
  · obtain ⟨b, c, tl, cs, as, ts, rfl, _⟩ := h
    rfl
  · obtain ⟨b, c, tl, cs, as, ts, rfl, hb, R, l0, l1, q⟩ := h
    have hu := hu_of hr
    refine ⟨_, (pss_cons (ps_set (i := 2) sc_law_roots.nd (by rfl) (Or.inl rfl) (pe_lst pa_nil))
      (pss_cons (ps_set (i := 3) sc_law_roots.nd (by rfl) (Or.inl rfl) (pe_call (ok_law_draw T) (hr.mono (by decide)) (by rfl) T.m_law_draw T.F_law_draw.kp T.b_law_draw .nil pass1 (pa_cons (pv 0) (pa_cons pe_int pa_nil))))
      (pss_cons (ps_set (i := 4) sc_law_roots.nd (by rfl) (Or.inl rfl) (pe_op op_mod (pv 3) pe_int))
      (pss_cons (ps_if (pt_cmpR op_eq (pe_op op_fdivB (pv 3) pe_int) pe_int (nomark _)) (pss_one (ps_set (i := 4) sc_law_roots.nd (by rfl) (Or.inl rfl) (pe_op op_add pe_int (pe_call (ok_law_draw T) (hr.mono (by decide)) (by rfl) T.m_law_draw T.F_law_draw.kp T.b_law_draw .nil pass1 (pa_cons (pv 0) (pa_cons pe_int pa_nil)))))) pss_nil)
      (pss_cons (ps_for PassesOwn.never (by rfl) (pi_range1 (by rfl) T.z_range (pa_cons (pv 4) pa_nil)) (pg_name (i := 5) sc_law_roots.nd (by rfl) (Or.inl rfl))
      (pss_one (ps_expr (pe_bm PySem.F.plainAttrs_list PySem.F.slot_list_append PySem.F.type_list_append mt_append (pv 2) (pa_cons (pe_call (ok_law_hold T) (hr.mono (by decide)) (by rfl) T.m_law_hold T.F_law_hold.kp T.b_law_hold .nil pass1 (pa_cons (pv 0) (pa_cons (pv 1) (pa_cons pe_int (pa_cons pe_int pa_nil))))) pa_nil)))))
      (pss_one (ps_ret (pv 2)))))))), ?_⟩
    simp! []
    intro rl nrl
    have nb : rl ≠ b := fun e => by
      obtain ⟨⟨i, v, st, n, h, _⟩, _⟩ := hb
      rw [← e, nrl] at h; cases h
    have nc : rl ≠ c := fun e => by
      have h := hb.at_
      rw [← e, nrl] at h; cases h
    refine ⟨b, c, cs, 56, rfl, hb.laid nrl, by decide, by decide, fun way H1 w0 w1 hb1 k1 => ?_⟩
    have hrl1 := k1 _ _ upd_same nb
    have k01 : Kp b H H1 := (Kp.refl.laid nrl).trans k1
    have key : ∀ (many : Nat) (H2 : Hp), many ≤ 400 → BagAt H2 b c cs → Kp b H H2 → H2 rl = some (.lst []) → ∀ (v : Option V), tFor (iRng1 (tCons (tVar 4) tNil)) (gName 5) (tDrop (tBM K "list" rAppend (tVar 2) (tCons (tCall sp_hold [] E0 (tCons (tVar 0) (tCons (tVar 1) (tCons (tC (V.int 0)) (tCons (tC (V.int 0)) tNil))))) tNil)))
        { nx := tRet (tVar 2) { nx := fun x H' => Q V.non H', rt := Q }, rt := Q } [some (V.ref b), some (V.ref tl), some (V.ref rl), some (V.int way), some (V.int many), v] H2 := by
      intro many H2 m400 hb2 k2 hrl2 v
      refine for1 (H1 := H2) (many : Int) (fun Q2 h2 => by simp! []; exact h2) (by omega) (by omega) (fun i σ H3 => ∃ (roots : List Int) (v5 : Option V), σ = [some (V.ref b), some (V.ref tl), some (V.ref rl), some (V.int way), some (V.int many), v5] ∧ roots.length = i ∧ H3 rl = some (.lst (roots.map V.int)) ∧ (∀ r ∈ roots, r = 0 ∨ ∃ t ∈ ts, t.1 = r) ∧ BagAt H3 b c cs ∧ Kp b H H3)
        ⟨[], _, rfl, rfl, hrl2, by simp, hb2, k2⟩ ?_ ?_
      · rintro i σ H3 hi ⟨roots, v5, rfl, li, h3, gd, hb3, k3⟩
        simp! [tBM]
        refine ⟨.inl ⟨rfl, _, .of h3⟩, b, c, tl, cs, as, ts, 0, 0, rfl, hb3, fun Hx Bx kx => R Hx Bx (k3.trans kx), l0, l1, by decide, by decide, fun r H4 gr hb4 k4 => ?_⟩
        have h4 := k4 _ _ h3 nb
        refine ⟨rl, _, _, rfl, rfl, h4, by rw [sizeLine_eq, List.length_map]; omega, roots ++ [r], by rw [List.length_append, li]; rfl, by rw [upd_same, List.map_append]; rfl, fun z hz => ?_, hb4.other nb nc, fun q' o h n => ?_⟩
        · rcases List.mem_append.mp hz with m | m
          · exact gd z m
          · rw [List.mem_singleton.mp m]; exact gr
        · rw [upd_ne (ne_of_none h nrl)]
          exact k4 _ _ (k3 _ _ h n) n
      · rintro σ H3 ⟨roots, v5, rfl, li, h3, gd, hb3, k3⟩
        simp! []
        exact q rl roots H3 nrl h3 (by omega) gd hb3 k3
    simp! []
    refine ⟨by decide, ⟨by decide, by decide⟩, ite2 (fun _ => ⟨b, c, cs, 390, rfl, hb1, by decide, by decide, fun x H2 x0 x1 hb2 k2 => ⟨x, rfl, ?_⟩⟩) fun _ => ?_⟩
    · obtain ⟨xN, ex⟩ := Int.eq_ofNat_of_zero_le (by omega : 0 ≤ 7 + x)
      rw [ex]
      exact key xN H2 (by omega) hb2 (k01.trans k2) (k2 _ _ hrl1 nb) none
    · obtain ⟨xN, ex⟩ := Int.eq_ofNat_of_zero_le (by omega : 0 ≤ way % 7)
      rw [ex]
      exact key xN H1 (by omega) hb1 k01 hrl1 none

end
section
variable {P : Program} {w : World} {K : PySem.W.Frag} {mg : Str → Option Value} {base : Heap} {a : Ad}

def lsOf (as : List (Addr × Addr × Addr)) : List Addr := as.flatMap fun a => [a.2.1, a.2.2]
theorem ls_snoc (as : List (Addr × Addr × Addr)) (x : Addr × Addr × Addr) : lsOf (as ++ [x]) = lsOf as ++ [x.2.1, x.2.2] := by simp [lsOf]
theorem ls_new {H0 H5 H8 H10 : Hp} {bs : List (Addr × Addr × Addr)} {tp D2 l D : Addr} (nd : (lsOf bs).Nodup) (al : ∀ q ∈ lsOf bs, (∃ o, H5 q = some o) ∧ H0 q = none ∧ q ≠ D) (S05 : Same H0 H5) (n2 : H5 D2 = none) (S58 : Same H5 H8) {u : HO} (hD8 : H8 D2 = some u) (nl : H8 l = none) (nD2 : D2 ≠ D) (nl' : l ≠ D)
    {u1 u2 : HO} (a1 : H10 D2 = some u1) (a2 : H10 l = some u2) (S : ∀ q o, H5 q = some o → q ≠ D → H10 q = some o) : (lsOf (bs ++ [(tp, D2, l)])).Nodup ∧ ∀ q ∈ lsOf (bs ++ [(tp, D2, l)]), (∃ o, H10 q = some o) ∧ H0 q = none ∧ q ≠ D := by
  rw [ls_snoc]
  have ne2 : D2 ≠ l := fun e => by rw [e, nl] at hD8; cases hD8
  refine ⟨?_, fun q hq => ?_⟩
  · refine List.nodup_append.mpr ⟨nd, by simp [ne2], fun x hx y hy e => ?_⟩
    subst e
    obtain ⟨o, ho⟩ := (al x hx).1
    simp only [List.mem_cons, List.not_mem_nil, or_false] at hy
    rcases hy with rfl | rfl
    · rw [n2] at ho; cases ho
    · rw [S58 _ _ ho] at nl; cases nl
  · rcases List.mem_append.mp hq with hq | hq
    · obtain ⟨⟨o, ho⟩, h2, h3⟩ := al q hq
      exact ⟨⟨o, S q o ho h3⟩, h2, h3⟩
    · simp only [List.mem_cons, List.not_mem_nil, or_false] at hq
      rcases hq with rfl | rfl
      · exact ⟨⟨_, a1⟩, S05.free n2, nD2⟩
      · exact ⟨⟨_, a2⟩, (S05.trans S58).free nl, nl'⟩

theorem same_new {H H' : Hp} {p : Addr} {u : HO} (S : Same H H') (hp : H p = none) : Same H (upd H' p u) := fun q o h => by rw [upd_ne (ne_of_none h hp)]; exact S _ _ h
theorem stream_len {ts : List Th} (sm : ∀ t ∈ ts, t.2.1.length ≤ 9) {roots : List Int} : ∀ {ord : List Int}, (stream ts roots ord).length ≤ roots.length + 9 * ord.length := by
  intro ord
  unfold stream
  rw [List.length_append]
  have : (ord.flatMap (holdsAt ts)).length ≤ 9 * ord.length := by
    induction ord with
    | nil => simp
    | cons z r ih =>
      rw [List.flatMap_cons, List.length_append, List.length_cons]
      have : (holdsAt ts z).length ≤ 9 := by
        unfold holdsAt thAt
        cases e : ts.find? fun t => t.1 == z with
        | none => simp
        | some u => exact sm u (List.mem_of_find?_eq_some e)
      omega
  omega
theorem stream_snoc {ts : List Th} {roots ord : List Int} {h : Int} : stream ts roots (ord ++ [h]) = stream ts roots ord ++ holdsAt ts h := by
  unfold stream
  rw [List.flatMap_append, List.flatMap_singleton, List.append_assoc]
theorem lookup_at : ∀ {ps : List (Int × Int)} {i : Nat} {p : Int × Int}, (ps.map (·.1)).Nodup → ps[i]? = some p → ps.lookup p.1 = some p.2
  | [], _, _, _, h => by simp at h
  | q :: r, 0, p, _, h => by
    cases h
    rw [List.lookup_cons, beq_self_eq_true]
  | q :: r, i + 1, p, n, h => by
    rw [List.map_cons, List.nodup_cons] at n
    rw [List.getElem?_cons_succ] at h
    have ne : (p.1 == q.1) = false := by
      have : p.1 ∈ r.map (·.1) := List.mem_map.mpr ⟨p, List.mem_of_getElem? h, rfl⟩
      simpa using fun e : p.1 = q.1 => n.1 (by rw [← e]; exact this)
    rw [List.lookup_cons, ne]
    exact lookup_at n.2 h
def sp_lcarted : Sp := fun vs H Q _ => ∃ (tl rl : Addr) (as : List (Addr × Addr × Addr)) (ts : List Th) (s f f0 : Int) (roots : List Int), vs = [.ref tl, .ref rl, .int f0] ∧ RowsAt HO.lst H tl as ts ∧ Lay s ts f ∧ ThOk ts ∧ H rl = some (.lst (roots.map V.int)) ∧ CartOk ts f0 roots ∧ (∀ H', Bad ts roots → Same H H' → Q .non H') ∧
  ∀ (r dl pl : Addr) (prs : List Addr) (bs : List (Addr × Addr × Addr)) (ord : List Int) (H' : Hp), (∀ h ∈ stream ts roots ord, Gd ts h) → Cart ts roots ord → H' r = some (.tup [.ref dl, .ref pl, .int (endOf ts f0 ord)]) → RowsAt HO.lst H' dl bs (fulls ts f0 ord) → PrAt H' pl prs (addrs ts f0 ord) → Same H H' → H dl = none → (lsOf bs).Nodup → (∀ q ∈ lsOf bs, H q = none ∧ q ≠ dl) → Q (.ref r) H'
structure CW (H : Hp) (ts : List Th) (as : List (Addr × Addr × Addr)) (f0 : Int) (roots : List Int) (d pm ol al : Addr) (ord : List Int) (H2 : Hp) : Prop where
  nd : ord.Nodup
  th : ∀ z ∈ ord, ∃ t ∈ ts, t.1 = z
  pm : H2 pm = some (.dK (plK (addrs ts f0 ord)))
  ol : H2 ol = some (.lst (ord.map V.int))
  al : H2 al = some (.lst ((stream ts roots ord).map V.int))
  by_ : ∃ kvs, H2 d = some (.dK kvs) ∧ (∀ (k : Nat) (a : Addr × Addr × Addr) (t : Th), as[k]? = some a → ts[k]? = some t → valV kvs (Sum.inl t.1) = some (.ref a.1)) ∧ ∀ z, (∀ t ∈ ts, t.1 ≠ z) → valV kvs (Sum.inl z) = none
  same : Same H H2
set_option maxHeartbeats 2000000 in
theorem ok_law_carted (T : Txt K mg a) : FnOk P w K mg base (CX1 P w) 1 a.f_law_carted a.d_law_carted ["things", "roots", "free"] sp_lcarted := by
  refine T.F_law_carted.okC sc_law_carted (fun vs H Q E h => ?_) (fun cdv A outer s H vs Q E hr h => ?_)
  · obtain ⟨tl, rl, as, ts, s, f, f0, roots, rfl, _⟩ := h
    rfl
  · obtain ⟨tl, rl, as, ts, s, f, f0, roots, rfl, R, L, ok, hrl, co, qn, q⟩ := h
    have hu := hu_of hr
    refine ⟨_, (pss_cons (ps_set (i := 3) sc_law_carted.nd (by rfl) (Or.inr rfl) pe_dnewK)
      (pss_cons (ps_for PassesOwn.never (by rfl) (pi_list (pv 0)) (pg_name (i := 4) sc_law_carted.nd (by rfl) (Or.inl rfl))
      (pss_one (ps_dputF hu (pv 3) (pe_ix ix_F (pv 4) pe_int (fun _ _ => rfl)) (pv 4) (by rfl))))
      (pss_cons (ps_set (i := 5) sc_law_carted.nd (by rfl) (Or.inr rfl) (pe_disp (pps_cons pe_int pe_int pps_nil) (by rfl) (by rfl) (List.cons_ne_nil _ _) (Nat.le_of_ble_eq_true (by rfl))))
      (pss_cons (ps_set (i := 6) sc_law_carted.nd (by rfl) (Or.inl rfl) (pe_lst pa_nil))
      (pss_cons (ps_set (i := 7) sc_law_carted.nd (by rfl) (Or.inl rfl) (pe_callTy call_list_of (by rfl) T.z_list (by decide +kernel) (pa_cons (pv 1) pa_nil)))
      (pss_cons (ps_set (i := 8) sc_law_carted.nd (by rfl) (Or.inl rfl) pe_int)
      (pss_cons (ps_while PassesOwn.never (pt_cmpR op_lt (pv 8) (pe_callB call_lenF (by rfl) T.z_len (by decide +kernel) (pa_cons (pv 7) pa_nil)) (nomark _)) (pss_cons (ps_set (i := 9) sc_law_carted.nd (by rfl) (Or.inl rfl) (pe_ix ix_F (pv 7) (pv 8) (fun _ _ => rfl)))
      (pss_cons (ps_set (i := 8) sc_law_carted.nd (by rfl) (Or.inl rfl) (pe_op op_add (pv 8) pe_int))
      (pss_cons (ps_if (PW.pt (pw_and (pt_cmp (pc_dnotinF hu (pv 9) (pv 5))) (pw_and1 (pt_cmp (pc_dnotinF hu (pv 9) (pv 3)))))) (pss_one (ps_ret pe_non)) pss_nil)
      (pss_one (ps_if (pt_cmp (pc_dnotinF hu (pv 9) (pv 5))) (pss_cons (ps_dputF hu (pv 5) (pv 9) (pv 2) (by rfl))
      (pss_cons (ps_set (i := 2) sc_law_carted.nd (by rfl) (Or.inl rfl) (pe_op op_add (pe_op op_add (pe_op op_add (pv 2) pe_int) (pe_callB call_lenF (by rfl) T.z_len (by decide +kernel) (pa_cons (pe_ix ix_F (pe_dgetF hu (pv 3) (pv 9) (fun _ _ => rfl)) pe_int (fun _ _ => rfl)) pa_nil))) (pe_callB call_lenF (by rfl) T.z_len (by decide +kernel) (pa_cons (pe_ix ix_F (pe_dgetF hu (pv 3) (pv 9) (fun _ _ => rfl)) pe_int (fun _ _ => rfl)) pa_nil))))
      (pss_cons (ps_expr (pe_bm PySem.F.plainAttrs_list PySem.F.slot_list_append PySem.F.type_list_append mt_append (pv 6) (pa_cons (pv 9) pa_nil)))
      (pss_one (ps_expr (pe_bm PySem.F.plainAttrs_list PySem.F.slot_list_extend PySem.F.type_list_extend mt_extend (pv 7) (pa_cons (pe_ix ix_F (pe_dgetF hu (pv 3) (pv 9) (fun _ _ => rfl)) pe_int (fun _ _ => rfl)) pa_nil))))))) pss_nil))))))
      (pss_cons (ps_setc (i := 10) sc_law_carted.nd (by rfl) (Or.inl rfl) (N' := ["hold", "moved", "by"]) (cap := [none, some 5, some 3]) ⟨rfl, (by decide +kernel), (by decide +kernel), (by rfl), rfl, (by rfl)⟩ (by rfl) (pi_list (pv 6)) (fun C_ ex_ s_ H_ => (pg_name (i := 0) (show (["hold", "moved", "by"] : List Str).Nodup by decide +kernel) (by rfl) (Or.inl rfl))) gkp_name (fun C_ ex_ s_ H_ => pifs_nil) (fun C_ ex_ s_ H_ => (pe_tup (pa_cons (pe_dgetF (by exact hu) (pv 1) (pv 0) (fun _ _ => rfl)) (pa_cons (pe_comp (N' := ["one", "moved"]) (cap := [none, some 1]) ⟨rfl, (by decide +kernel), (by decide +kernel), (by rfl), rfl, (by rfl)⟩ (by rfl) (pi_listK (K := K) (by rfl) (pe_ix ix_F (pe_dgetF (by exact hu) (pv 2) (pv 0) (fun _ _ => rfl)) pe_int (fun _ _ => rfl))) (fun C_ ex_ s_ H_ => (pg_name (i := 0) (show (["one", "moved"] : List Str).Nodup by decide +kernel) (by rfl) (Or.inl rfl))) gkp_name (fun C_ ex_ s_ H_ => pifs_nil) (fun C_ ex_ s_ H_ => (pe_dgetF (by exact (by exact hu)) (pv 1) (pv 0) (fun _ _ => rfl)))) (pa_cons (pe_callTy (call_list_ofK (K := K) (by rfl)) (by rfl) T.z_list (by decide +kernel) (pa_cons (pe_ix ix_F (pe_dgetF (by exact hu) (pv 2) (pv 0) (fun _ _ => rfl)) pe_int (fun _ _ => rfl)) pa_nil)) pa_nil))))))
      (pss_one (ps_ret (pe_tup (pa_cons (pv 10) (pa_cons (pe_comp (N' := ["hold", "moved"]) (cap := [none, some 5]) ⟨rfl, (by decide +kernel), (by decide +kernel), (by rfl), rfl, (by rfl)⟩ (by rfl) (pi_list (pv 6)) (fun C_ ex_ s_ H_ => (pg_name (i := 0) (show (["hold", "moved"] : List Str).Nodup by decide +kernel) (by rfl) (Or.inl rfl))) gkp_name (fun C_ ex_ s_ H_ => pifs_nil) (fun C_ ex_ s_ H_ => (pe_tup (pa_cons (pv 0) (pa_cons (pe_dgetF (by exact hu) (pv 1) (pv 0) (fun _ _ => rfl)) pa_nil))))) (pa_cons (pv 2) pa_nil)))))))))))))), ?_⟩
    simp! []
    intro d nd
    have lts := ok.len
    have nr := co.nr
    refine forL (H1 := upd H d (.dK [])) tl (as.map fun a => V.ref a.1) (fun Q2 h2 => by simp! []; exact h2) (fun i σ H2 => ∃ (kvs : List (Key × V)) (v4 : Option V), σ = [some (V.ref tl), some (V.ref rl), some (V.int f0), some (V.ref d), v4, none, none, none, none, none, none] ∧ H2 d = some (.dK kvs) ∧ kvs.length ≤ i ∧ Same H H2 ∧ (∀ (k : Nat) (a : Addr × Addr × Addr) (t : Th), k < i → as[k]? = some a → ts[k]? = some t → valV kvs (Sum.inl t.1) = some (.ref a.1)) ∧ ∀ z, (∀ t ∈ ts.take i, t.1 ≠ z) → valV kvs (Sum.inl z) = none)
      ⟨[], _, rfl, upd_same, Nat.le_refl _, .laid nd, fun k a t h => absurd h (Nat.not_lt_zero _), fun z _ => rfl⟩ (fun i σ H2 _ ⟨_, _, _, _, _, S, _⟩ => .of (S _ _ R.top)) ?_ ?_
    · rintro i x σ H2 hi ⟨kvs, v4, rfl, hd, lk, S, hv, hn⟩
      obtain ⟨aa, ha, rfl⟩ := of_map_get hi
      have il : i < ts.length := by rw [← R.len]; exact (List.getElem?_eq_some_iff.mp ha).1
      obtain ⟨r1, _, _⟩ := R.row i aa _ ha (List.getElem?_eq_getElem il)
      have r1' := S _ _ r1
      simp! [r1', hd]
      have lp := length_putK kvs (.inl ts[i].1) (.ref aa.1)
      refine ⟨by omega, by omega, same_new S nd, fun k a' t' hk h1 h2 => ?_, fun z hz => ?_⟩
      rotate_left
      · rw [valV_put', if_neg (fun e => hz ts[i] (List.mem_of_getElem? (i := i) (by rw [List.getElem?_take_of_lt (by omega)]; exact List.getElem?_eq_getElem il)) (by injection e with e; exact e.symm))]
        exact hn z fun t ht => hz t (by rw [List.take_succ]; exact List.mem_append_left _ ht)
      rw [valV_put']
      by_cases c : k = i
      · subst c
        rw [ha] at h1
        cases h1
        rw [List.getElem?_eq_getElem il] at h2
        cases h2
        rw [if_pos rfl]
      · have kl := (List.getElem?_eq_some_iff.mp h2).1
        have r := List.pairwise_iff_getElem.mp L.rising k i (by rw [List.length_map]; exact kl) (by rw [List.length_map]; exact il) (by omega)
        rw [List.getElem_map, List.getElem_map, (List.getElem?_eq_some_iff.mp h2).2] at r
        rw [if_neg (fun e => by injection e with e; omega)]
        exact hv k a' t' (by omega) h1 h2
    · rintro σ H2 ⟨kvs, v4, rfl, hd, lk, S, hv, hn⟩
      rw [List.length_map, R.len, List.take_length] at hn
      replace hv : ∀ (k : Nat) (a : Addr × Addr × Addr) (t : Th), as[k]? = some a → ts[k]? = some t → valV kvs (Sum.inl t.1) = some (.ref a.1) := fun k a t h1 h2 => hv k a t (by rw [List.length_map]; exact (List.getElem?_eq_some_iff.mp h1).1) h1 h2
      simp! []
      intro pm npm
      refine ⟨upd_same, [(Sum.inl 0, V.int 0)], rfl, by simp, ?_⟩
      rw [upd_upd, show mergeK [] [((Sum.inl 0 : Key), V.int 0)] = plK (addrs ts f0 []) from rfl]
      intro ol nol
      have S3 := S.step npm (u := .dK (plK (addrs ts f0 [])))
      have S4 := S3.step nol (u := .lst [])
      refine ⟨_, .inl (.of (S4 _ _ hrl)), fun al nal => ?_⟩
      have npm0 := S.free npm
      have nol0 := S3.free nol
      have nal0 := S4.free nal
      have W0 : CW H ts as f0 roots d pm ol al [] (upd (upd (upd H2 pm (.dK (plK (addrs ts f0 [])))) ol (.lst [])) al (.lst (roots.map V.int))) :=
        ⟨List.nodup_nil, by simp, upd_old (upd_old upd_same nol) nal, upd_old upd_same nal, by rw [upd_same]; unfold stream; simp, ⟨kvs, upd_old (upd_old (upd_old hd npm) nol) nal, hv, hn⟩, S4.step nal⟩
      have dpo : pm ≠ ol := ne_of_none upd_same nol
      have doa : ol ≠ al := ne_of_none upd_same nal
      have dpa : pm ≠ al := ne_of_none (upd_old upd_same nol) nal
      have ddp : d ≠ pm := ne_of_none hd npm
      have ddo : d ≠ ol := ne_of_none (upd_old hd npm) nol
      have dda : d ≠ al := ne_of_none (upd_old (upd_old hd npm) nol) nal
      revert W0
      generalize upd (upd (upd H2 pm (.dK (plK (addrs ts f0 [])))) ol (.lst [])) al (.lst (roots.map V.int)) = H3
      intro W0
      clear S3 S4 nal nol npm hv hn hd lk S
      refine ⟨fun m σ H4 => ∃ (ord : List Int) (dn : Nat) (v9 : Option V), σ = [some (V.ref tl), some (V.ref rl), some (V.int (endOf ts f0 ord)), some (V.ref d), v4, some (V.ref pm), some (V.ref ol), some (V.ref al), some (V.int dn), v9, none] ∧ m = 1000 + 9 * ts.length + 1 - dn ∧ dn ≤ (stream ts roots ord).length ∧ Going ts roots ((stream ts roots ord).take dn) ord ∧ CW H ts as f0 roots d pm ol al ord H4,
        ⟨_, [], 0, _, rfl, rfl, Nat.zero_le _, Going.nil, W0⟩, ?_⟩
      clear W0
      rintro m σ H4 ⟨ord, dn, v9, rfl, rfl, dl, g, W⟩
      have oln := nodup_len W.nd W.th
      have sln := stream_len (ts := ts) (fun t ht => (ok.small t ht).1) (roots := roots) (ord := ord)
      have hal := W.al
      have hpm := W.pm
      obtain ⟨kvs, hd, hv, hn⟩ := W.by_
      simp! [hal, List.length_map]
      refine ite2 (fun lt => ?_) fun ge => ?_
      · have dlt : dn < (stream ts roots ord).length := by omega
        have hh := List.getElem?_eq_getElem dlt
        have mh : (stream ts roots ord)[dn] ∈ stream ts roots ord := List.getElem_mem dlt
        revert hh mh
        generalize (stream ts roots ord)[dn] = h
        intro hh mh
        have a1 : atI ((stream ts roots ord).map V.int) ((dn : Nat) : Int) = some (.int h) := atI_nat (by rw [List.getElem?_map, hh]; rfl)
        have tk : (stream ts roots ord).take (dn + 1) = (stream ts roots ord).take dn ++ [h] := by rw [List.take_succ, hh]; rfl
        have g1 := g.step (h := h) (by rw [← tk]; exact List.take_prefix _ _)
        rw [← tk] at g1
        refine ⟨fun σ' H' => ∃ (ord' : List Int) (v9 : Option V), σ' = [some (V.ref tl), some (V.ref rl), some (V.int (endOf ts f0 ord')), some (V.ref d), v4, some (V.ref pm), some (V.ref ol), some (V.ref al), some (V.int ((dn : Int) + 1)), v9, none] ∧ dn + 1 ≤ (stream ts roots ord').length ∧ Going ts roots ((stream ts roots ord').take (dn + 1)) ord' ∧ CW H ts as f0 roots d pm ol al ord' H', ?_, ?_⟩
        · rintro σ' H' ⟨ord', v9, rfl, h1, h2, h3⟩
          have := nodup_len h3.nd h3.th
          have := stream_len (ts := ts) (fun t ht => (ok.small t ht).1) (roots := roots) (ord := ord')
          exact ⟨1000 + 9 * ts.length + 1 - (dn + 1), by omega, ord', dn + 1, v9, by rw [Int.natCast_add]; rfl, rfl, h1, h2, h3⟩
        · by_cases c : h = 0 ∨ h ∈ ord
          · have e1 : (valV (plK (addrs ts f0 ord)) (Sum.inl h)).isSome = true := plK_there.mpr c
            have so : stepO ord h = ord := by unfold stepO; rw [if_pos c]
            rw [so] at g1
            simp! [hal, hpm, a1, e1]
            exact ⟨ord, rfl, by omega, g1, W⟩
          · have e1 : (valV (plK (addrs ts f0 ord)) (Sum.inl h)).isSome = false := by
              cases e : (valV (plK (addrs ts f0 ord)) (Sum.inl h)).isSome with
              | false => rfl
              | true => exact absurd (plK_there.mp e) c
            have nv : valV (plK (addrs ts f0 ord)) (Sum.inl h) = none := Option.not_isSome_iff_eq_none.mp (by rw [e1]; simp)
            have so : stepO ord h = ord ++ [h] := by unfold stepO; rw [if_neg c]
            rw [so] at g1
            by_cases gh : Gd ts h
            case neg =>
              have e2 : valV kvs (Sum.inl h) = none := hn h fun t ht e => gh (.inr ⟨t, ht, e⟩)
              simp! [hal, hpm, a1, e1, hd, e2]
              have nn : (none : Option V).isSome = false := rfl
              rw [nn, if_pos rfl]
              exact qn H4 ⟨_, _, h, g, by rw [← tk]; exact List.take_prefix _ _, gh⟩ W.same
            rcases gh with e0 | ⟨t, mt, et⟩
            · exact absurd (.inl e0) c
            obtain ⟨k, kl, ek⟩ := List.getElem_of_mem mt
            have htk : ts[k]? = some t := by rw [List.getElem?_eq_getElem kl, ek]
            obtain ⟨aa, haa, r1, r2, r3⟩ := R.at_ htk
            have vk := hv k aa t haa htk
            rw [et] at vk
            have e2 : (valV kvs (Sum.inl h)).isSome = true := by rw [vk]; rfl
            obtain ⟨b1, b2⟩ := ok.small t mt
            have eth : thAt ts h = t := by rw [← et]; exact thAt_mem L mt
            have lpl : (plK (addrs ts f0 ord)).length < 16777216 := by rw [plK_len, addrs_len]; omega
            have hd5 : upd H4 pm (.dK (putK (plK (addrs ts f0 ord)) (Sum.inl h) (V.int (endOf ts f0 ord)))) d = some (.dK kvs) := by rw [upd_ne ddp]; exact hd
            have r1' : upd H4 pm (.dK (putK (plK (addrs ts f0 ord)) (Sum.inl h) (V.int (endOf ts f0 ord)))) aa.1 = some (.tup [.int t.1, .ref aa.2.1, .ref aa.2.2]) := by rw [upd_ne (ne_of_none r1 npm0)]; exact W.same _ _ r1
            have r2' : upd H4 pm (.dK (putK (plK (addrs ts f0 ord)) (Sum.inl h) (V.int (endOf ts f0 ord)))) aa.2.1 = some (.lst (t.2.1.map V.int)) := by rw [upd_ne (ne_of_none r2 npm0)]; exact W.same _ _ r2
            have r3' : upd H4 pm (.dK (putK (plK (addrs ts f0 ord)) (Sum.inl h) (V.int (endOf ts f0 ord)))) aa.2.2 = some (.lst (t.2.2.map V.int)) := by rw [upd_ne (ne_of_none r3 npm0)]; exact W.same _ _ r3
            simp! [hal, hpm, a1, e1, e2, hd, vk, hd5, r1', r2', r3', List.length_map, lpl]
            rw [if_neg (by simp)]
            have dpo5 : upd H4 pm (.dK (putK (plK (addrs ts f0 ord)) (Sum.inl h) (V.int (endOf ts f0 ord)))) ol = some (.lst (ord.map V.int)) := by rw [upd_ne dpo.symm]; exact W.ol
            have dpa5 : upd H4 pm (.dK (putK (plK (addrs ts f0 ord)) (Sum.inl h) (V.int (endOf ts f0 ord)))) al = some (.lst ((stream ts roots ord).map V.int)) := by rw [upd_ne dpa.symm]; exact hal
            have hpm5 : upd H4 pm (.dK (putK (plK (addrs ts f0 ord)) (Sum.inl h) (V.int (endOf ts f0 ord)))) pm = some (.dK (plK (addrs ts f0 (ord ++ [h])))) := by rw [upd_same, plK_put nv, addrs_snoc]
            have S5 : Same H (upd H4 pm (.dK (putK (plK (addrs ts f0 ord)) (Sum.inl h) (V.int (endOf ts f0 ord))))) := same_new W.same npm0
            revert hd5 r1' r2' r3' dpo5 dpa5 hpm5 S5
            generalize upd H4 pm (.dK (putK (plK (addrs ts f0 ord)) (Sum.inl h) (V.int (endOf ts f0 ord)))) = H5
            intro hd5 r1' r2' r3' dpo5 dpa5 hpm5 S5
            simp! [tBM]
            refine ⟨.inl ⟨rfl, _, .of dpo5⟩, ol, _, _, rfl, rfl, dpo5, by rw [List.length_map, sizeLine_eq]; omega, ?_⟩
            have hd6 : upd H5 ol (.lst (ord.map V.int ++ [V.int h])) d = some (.dK kvs) := by rw [upd_ne ddo]; exact hd5
            have q1 : upd H5 ol (.lst (ord.map V.int ++ [V.int h])) aa.1 = some (.tup [.int t.1, .ref aa.2.1, .ref aa.2.2]) := by rw [upd_ne (ne_of_none r1 nol0)]; exact r1'
            have q2 : upd H5 ol (.lst (ord.map V.int ++ [V.int h])) aa.2.1 = some (.lst (t.2.1.map V.int)) := by rw [upd_ne (ne_of_none r2 nol0)]; exact r2'
            have q3 : upd H5 ol (.lst (ord.map V.int ++ [V.int h])) al = some (.lst ((stream ts roots ord).map V.int)) := by rw [upd_ne doa.symm]; exact dpa5
            have q4 : upd H5 ol (.lst (ord.map V.int ++ [V.int h])) ol = some (.lst (ord.map V.int ++ [V.int h])) := upd_same
            have q5 : upd H5 ol (.lst (ord.map V.int ++ [V.int h])) pm = some (.dK (plK (addrs ts f0 (ord ++ [h])))) := by rw [upd_ne dpo]; exact hpm5
            have S6 : Same H (upd H5 ol (.lst (ord.map V.int ++ [V.int h]))) := same_new S5 nol0
            revert hd6 q1 q2 q3 q4 q5 S6
            generalize upd H5 ol (.lst (ord.map V.int ++ [V.int h])) = H6
            intro hd6 q1 q2 q3 q4 q5 S6
            simp! [tBM, hd6, vk, q1, q2, q3]
            have ss : stream ts roots (ord ++ [h]) = stream ts roots ord ++ t.2.1 := by rw [stream_snoc]; unfold holdsAt; rw [eth]
            have tk7 : (stream ts roots (ord ++ [h])).take (dn + 1) = (stream ts roots ord).take (dn + 1) := by rw [ss, List.take_append_of_le_length (by omega)]
            refine ⟨.inl ⟨rfl, _, .of q3⟩, al, aa.2.1, _, _, rfl, rfl, q3, q2, by rw [List.length_map, List.length_map, sizeLine_eq]; omega, ord ++ [h], by rw [endOf_snoc, eth]; unfold thSz; omega, by rw [ss, List.length_append]; omega, by rw [tk7]; exact g1, ?_⟩
            refine ⟨?_, fun z hz => ?_, ?_, ?_, ?_, ⟨kvs, ?_, hv, hn⟩, same_new S6 nal0⟩
            · rw [List.nodup_append]
              exact ⟨W.nd, by simp, fun x hx y hy e => c (.inr (by rw [← List.mem_singleton.mp hy, ← e]; exact hx))⟩
            · rcases List.mem_append.mp hz with m | m
              · exact W.th z m
              · rw [List.mem_singleton.mp m]; exact ⟨t, mt, et⟩
            · rw [upd_ne dpa]; exact q5
            · rw [upd_ne doa, q4, List.map_append]; rfl
            · rw [upd_same, ss, List.map_append]
            · rw [upd_ne dda]; exact hd6
      · have edn : dn = (stream ts roots ord).length := by omega
        rw [edn, List.take_length] at g
        have cart := g.done
        have hol := W.ol
        have inOrd : ∀ z ∈ ord, ∀ h ∈ (thAt ts z).2.1, h = 0 ∨ h ∈ ord := fun z hz h hh => by
          by_cases c : h = 0
          · exact .inl c
          · right
            have : h ∈ stream ts roots ord := List.mem_append_right _ (List.mem_flatMap.mpr ⟨z, hz, hh⟩)
            have := (mem_layO (hs := stream ts roots ord) (ord := [])).mpr (.inr ⟨this, c⟩)
            rw [cart.fix] at this
            exact this
        have val : ∀ h, h = 0 ∨ h ∈ ord → valV (plK (addrs ts f0 ord)) (Sum.inl h) = some (.int (mvOf (addrs ts f0 ord) h)) := fun h io => by
          have some_ := (plK_there (ts := ts) (f := f0) (ord := ord) (z := h)).mpr io
          rw [plK_val] at some_ ⊢
          unfold mvOf
          by_cases c : h = 0
          · rw [if_pos c, if_pos c]
          · rw [if_neg c] at some_ ⊢
            rw [if_neg c]
            rw [Option.isSome_map] at some_
            obtain ⟨v, hv⟩ := Option.isSome_iff_exists.mp some_
            rw [hv]; rfl
        have n0 : ∀ z ∈ ord, z ≠ 0 := fun z hz => by
          rw [← cart.fix] at hz
          rcases mem_layO.mp hz with m | m
          · cases m
          · exact m.2
        have mvAt : ∀ (i : Nat) (p : Int × Int), (addrs ts f0 ord)[i]? = some p → ord[i]? = some p.1 ∧ mvOf (addrs ts f0 ord) p.1 = p.2 := fun i p hp => by
          have k1 : ord[i]? = some p.1 := by
            have := congrArg (·[i]?) (addrs_keys (ts := ts) (ord := ord) (f := f0))
            rw [List.getElem?_map, hp] at this
            exact this.symm
          refine ⟨k1, ?_⟩
          unfold mvOf
          rw [if_neg (n0 _ (List.mem_of_getElem? k1)), lookup_at (by rw [addrs_keys]; exact W.nd) hp]; rfl
        refine compL (H1 := H4) ol _ (fun Q2 h2 => by simp! []; exact h2) (.of hol) (fun D i ys H5 => ∃ bs : List (Addr × Addr × Addr), bs.length = i ∧ ys = bs.map (fun a => V.ref a.1) ∧ H5 D = some (.lst ys) ∧ Same H4 H5 ∧ (∀ (k : Nat) (b : Addr × Addr × Addr) (p : Int × Int), bs[k]? = some b → (addrs ts f0 ord)[k]? = some p → H5 b.1 = some (.tup [.int p.2, .ref b.2.1, .ref b.2.2]) ∧ H5 b.2.1 = some (.lst ((fullT ts (addrs ts f0 ord) p).2.1.map V.int)) ∧ H5 b.2.2 = some (.lst ((fullT ts (addrs ts f0 ord) p).2.2.map V.int)) ∧ b.1 ≠ D ∧ b.2.1 ≠ D ∧ b.2.2 ≠ D) ∧ (lsOf bs).Nodup ∧ ∀ q ∈ lsOf bs, (∃ o, H5 q = some o) ∧ H q = none ∧ q ≠ D)
          (fun D hD => ⟨[], rfl, rfl, upd_same, .laid hD, fun k b p h => by simp at h, List.nodup_nil, fun _ h => absurd h List.not_mem_nil⟩) ?_ (by rw [List.length_map, sizeLine_eq]; omega) ?_ ?_
        · rintro D hD i ys H5 hi ⟨bs, lb, rfl, hD5, S5, hb, nd5, al5⟩
          exact ⟨.of (S5 _ _ hol), hD5, by rw [List.length_map]; omega⟩
        · rintro D hD i x ys H5 hi ⟨bs, lb, rfl, hD5, S5, hb, nd5, al5⟩
          obtain ⟨z, hz, rfl⟩ := of_map_get hi
          have il : i < ord.length := (List.getElem?_eq_some_iff.mp hz).1
          have hp := List.getElem?_eq_getElem (l := addrs ts f0 ord) (i := i) (by rw [addrs_len]; exact il)
          obtain ⟨m1, m2⟩ := mvAt i _ hp
          revert hp m1 m2
          generalize (addrs ts f0 ord)[i]'(by rw [addrs_len]; exact il) = p
          intro hp m1 m2
          rw [hz] at m1
          cases m1
          have mz : p.1 ∈ ord := List.mem_of_getElem? hz
          obtain ⟨t, mt, et⟩ := W.th _ mz
          obtain ⟨k, kl, ek⟩ := List.getElem_of_mem mt
          have htk : ts[k]? = some t := by rw [List.getElem?_eq_getElem kl, ek]
          obtain ⟨aa, haa, r1, r2, r3⟩ := R.at_ htk
          have vk := hv k aa t haa htk
          rw [et] at vk
          have eth : thAt ts p.1 = t := by rw [← et]; exact thAt_mem L mt
          obtain ⟨b1, b2⟩ := ok.small t mt
          have vz := val p.1 (.inr mz)
          rw [m2] at vz
          have pm5 := S5 _ _ hpm
          have hd5 := S5 _ _ hd
          have r1' := S5 _ _ (W.same _ _ r1)
          have r2' := S5 _ _ (W.same _ _ r2)
          have r3' := S5 _ _ (W.same _ _ r3)
          simp! [capSt, tTrue, pm5, vz]
          refine compL_ (fun q1 H7 => q1 = aa.2.1 ∧ H7 = H5) (fun Q2 hQ => ?_) ?_
          · simp! [hd5, vk, r1']
            exact hQ _ _ ⟨rfl, rfl⟩
          rintro q1 H7 ⟨rfl, rfl⟩
          refine compL (H1 := H7) aa.2.1 _ (fun Q2 h2 => h2) (.of r2') (fun D2 j ys H8 => ys = ((t.2.1.take j).map (mvOf (addrs ts f0 ord))).map V.int ∧ H8 = upd H7 D2 (.lst ys)) (fun D2 hD2 => ⟨rfl, rfl⟩) ?_ (by rw [sizeLine_eq, List.length_map]; omega) ?_ ?_
          · rintro D2 hD2 j ys H8 hj ⟨rfl, rfl⟩
            exact ⟨.of (upd_old r2' hD2), upd_same, by simp; omega⟩
          · rintro D2 hD2 j x ys H8 hj ⟨rfl, rfl⟩
            obtain ⟨h, hjh, rfl⟩ := of_map_get hj
            have pd8 := upd_old (u := .lst (((t.2.1.take j).map (mvOf (addrs ts f0 ord))).map V.int)) pm5 hD2
            have vh := val h (inOrd _ mz h (by rw [eth]; exact List.mem_of_getElem? hjh))
            simp! [capSt, tTrue, pd8, vh, upd_upd]
            rw [List.take_succ, hjh, List.map_append, List.map_append]; rfl
          · rintro D2 hD2 ys H8 ⟨rfl, rfl⟩
            have tkl : t.2.1.take (t.2.1.map V.int).length = t.2.1 := by rw [List.length_map, List.take_length]
            rw [tkl]
            have S8 : Same H7 (upd H7 D2 (.lst ((t.2.1.map (mvOf (addrs ts f0 ord))).map V.int))) := .laid hD2
            have hD8 : upd H7 D2 (.lst ((t.2.1.map (mvOf (addrs ts f0 ord))).map V.int)) D2 = some (.lst ((t.2.1.map (mvOf (addrs ts f0 ord))).map V.int)) := upd_same
            have nD2 : D2 ≠ D := (ne_of_none hD5 hD2).symm
            revert S8 hD8
            generalize upd H7 D2 (.lst ((t.2.1.map (mvOf (addrs ts f0 ord))).map V.int)) = H8
            intro S8 hD8
            have hd8 := S8 _ _ hd5
            have r18 := S8 _ _ r1'
            have r38 := S8 _ _ r3'
            simp! [hd8, vk, r18, r38]
            refine ⟨_, .inl (.of r38), fun l nl => ?_⟩
            have nl' : l ≠ D := (ne_of_none (S8 _ _ hD5) nl).symm
            have S9 := S8.step nl (u := .lst (t.2.2.map V.int))
            have hl9 : upd H8 l (.lst (t.2.2.map V.int)) l = some (.lst (t.2.2.map V.int)) := upd_same
            have hD9 := upd_old (u := .lst (t.2.2.map V.int)) hD8 nl
            revert S9 hl9 hD9
            generalize upd H8 l (.lst (t.2.2.map V.int)) = H9
            intro S9 hl9 hD9 tp ntp
            have S10 := S9.step ntp (u := .tup [.int p.2, .ref D2, .ref l])
            have ntp' : tp ≠ D := (ne_of_none (S9 _ _ hD5) ntp).symm
            refine ⟨S10 _ _ hD5, bs ++ [(tp, D2, l)], by rw [List.length_append, lb]; rfl, by rw [List.map_append]; rfl, fun q o h => ?_, fun k' b p' h1 h2 => ?_, ls_new nd5 al5 (W.same.trans S5) hD2 S8 hD8 nl nD2 nl' (by rw [upd_ne nD2]; exact upd_old hD9 ntp) (by rw [upd_ne nl']; exact upd_old hl9 ntp) (fun q o h n => by rw [upd_ne n]; exact S10 _ _ h)⟩
            · rw [upd_ne (ne_of_none h hD)]; exact S10 _ _ (S5 _ _ h)
            · by_cases c : k' < bs.length
              · rw [List.getElem?_append_left c] at h1
                obtain ⟨f1, f2, f3, n1, n2, n3⟩ := hb k' b p' h1 h2
                exact ⟨by rw [upd_ne n1]; exact S10 _ _ f1, by rw [upd_ne n2]; exact S10 _ _ f2, by rw [upd_ne n3]; exact S10 _ _ f3, n1, n2, n3⟩
              · have e : k' = bs.length := by
                  have := (List.getElem?_eq_some_iff.mp h1).1
                  rw [List.length_append, List.length_singleton] at this
                  omega
                subst e
                rw [List.getElem?_append_right (Nat.le_refl _), Nat.sub_self] at h1
                cases h1
                rw [lb, hp] at h2
                cases h2
                refine ⟨by rw [upd_ne ntp']; exact upd_same, by rw [upd_ne nD2]; show _ = some (HO.lst ((((thAt ts p.1).2.1.map (mvOf (addrs ts f0 ord)))).map V.int)); rw [eth]; exact upd_old hD9 ntp, by rw [upd_ne nl']; show _ = some (HO.lst ((thAt ts p.1).2.2.map V.int)); rw [eth]; exact upd_old hl9 ntp, ntp', nD2, nl'⟩
        · rintro D hD ys H5 ⟨bs, lb, rfl, hD5, S5, hb, nd5, al5⟩
          rw [List.length_map] at lb
          have RD5 : RowsAt HO.lst H5 D bs (fulls ts f0 ord) := by
            refine ⟨hD5, by unfold fulls; rw [List.length_map, addrs_len]; exact lb, fun k b t h1 h2 => ?_⟩
            unfold fulls at h2
            rw [List.getElem?_map] at h2
            cases e : (addrs ts f0 ord)[k]? with
            | none => rw [e] at h2; cases h2
            | some p =>
              rw [e] at h2
              cases h2
              obtain ⟨f1, f2, f3, _⟩ := hb k b p h1 e
              exact ⟨f1, f2, f3⟩
          have hol5 := S5 _ _ hol
          have hpm5 := S5 _ _ hpm
          refine compL (H1 := H5) ol _ (fun Q2 h2 => by simp! []; exact h2) (.of hol5) (fun D2 i ys H6 => ∃ prs : List Addr, prs.length = i ∧ ys = prs.map V.ref ∧ H6 D2 = some (.lst ys) ∧ Same H5 H6 ∧ ∀ (k : Nat) (b : Addr) (p : Int × Int), prs[k]? = some b → (addrs ts f0 ord)[k]? = some p → H6 b = some (.tup [.int p.1, .int p.2]) ∧ b ≠ D2)
            (fun D2 hD2 => ⟨[], rfl, rfl, upd_same, .laid hD2, fun k b p h => by simp at h⟩) ?_ (by rw [List.length_map, sizeLine_eq]; omega) ?_ ?_
          · rintro D2 hD2 i ys H6 hi ⟨prs, lp, rfl, hD6, S6, hb⟩
            exact ⟨.of (S6 _ _ hol5), hD6, by rw [List.length_map]; omega⟩
          · rintro D2 hD2 i x ys H6 hi ⟨prs, lp, rfl, hD6, S6, hb6⟩
            obtain ⟨z, hz, rfl⟩ := of_map_get hi
            have il : i < ord.length := (List.getElem?_eq_some_iff.mp hz).1
            have hp := List.getElem?_eq_getElem (l := addrs ts f0 ord) (i := i) (by rw [addrs_len]; exact il)
            obtain ⟨m1, m2⟩ := mvAt i _ hp
            revert hp m1 m2
            generalize (addrs ts f0 ord)[i]'(by rw [addrs_len]; exact il) = p
            intro hp m1 m2
            rw [hz] at m1
            cases m1
            have vz := val p.1 (.inr (List.mem_of_getElem? hz))
            rw [m2] at vz
            have pm6 := S6 _ _ hpm5
            simp! [capSt, tTrue, pm6, vz]
            intro tp ntp
            have ntp' : tp ≠ D2 := (ne_of_none hD6 ntp).symm
            refine ⟨upd_old hD6 ntp, prs ++ [tp], by rw [List.length_append, lp]; rfl, by rw [List.map_append]; rfl, fun q o h => ?_, fun k' b p' h1 h2 => ?_⟩
            · rw [upd_ne (ne_of_none h hD2)]; exact upd_old (S6 _ _ h) ntp
            · by_cases c : k' < prs.length
              · rw [List.getElem?_append_left c] at h1
                obtain ⟨f1, n1⟩ := hb6 k' b p' h1 h2
                exact ⟨by rw [upd_ne n1]; exact upd_old f1 ntp, n1⟩
              · have e : k' = prs.length := by
                  have := (List.getElem?_eq_some_iff.mp h1).1
                  rw [List.length_append, List.length_singleton] at this
                  omega
                subst e
                rw [List.getElem?_append_right (Nat.le_refl _), Nat.sub_self] at h1
                cases h1
                rw [lp, hp] at h2
                cases h2
                exact ⟨by rw [upd_ne ntp']; exact upd_same, ntp'⟩
          · rintro D2 hD2 ys H6 ⟨prs, lp, rfl, hD6, S6, hb6⟩
            rw [List.length_map] at lp
            intro r nr'
            have PR : PrAt H6 D2 prs (addrs ts f0 ord) := ⟨hD6, by rw [addrs_len]; exact lp, fun i p x h1 h2 => (hb6 i p x h1 h2).1⟩
            exact q r D D2 prs bs ord _ (fun h hh => by
              by_cases z : h = 0
              · exact .inl z
              · have := (mem_layO (hs := stream ts roots ord) (ord := [])).mpr (.inr ⟨hh, z⟩)
                rw [cart.fix] at this
                exact .inr (W.th h this)) cart upd_same ((RD5.same S6).same (.laid nr')) (PR.fr (M := fun _ => False) (.laid nr') id) (((W.same.trans S5).trans S6).step nr') (W.same.free hD) nd5 (fun q hq => (al5 q hq).2)

end
section
variable {P : Program} {w : World} {K : PySem.W.Frag} {mg : Str → Option Value} {base : Heap} {a : Ad}

def sp_toldq : Sp := fun vs H Q _ => ∃ (l1 l2 : Addr) (as bs : List (Addr × Addr × Addr)) (ts : List Th), vs = [.ref l1, .ref l2] ∧ RowsAt HO.tup H l1 as ts ∧ RowsAt HO.lst H l2 bs ts ∧ ts.length ≤ 1000 ∧ (∀ t ∈ ts, t.2.1.length ≤ 9 ∧ t.2.2.length ≤ 9) ∧ ∀ H', Same H H' → Q (.bl true) H'
theorem flat_ints (xs : List Int) : (xs.map V.int).all flatV = true := by
  rw [List.all_map]; exact List.all_eq_true.mpr fun _ _ => rfl
theorem eqVs_refl (xs : List Int) : eqVs (xs.map V.int) (xs.map V.int) = true := by
  unfold eqVs
  rw [Bool.and_eq_true]
  refine ⟨by simp, ?_⟩
  induction xs with
  | nil => rfl
  | cons x r ih => rw [List.map_cons, List.zip_cons_cons, List.all_cons, ih, Bool.and_true]; simp [eqV]
set_option maxHeartbeats 1000000 in
theorem ok_law_told (T : Txt K mg a) : FnOk P w K mg base (CX1 P w) 2 a.f_law_told a.d_law_told ["found", "things"] sp_toldq := by
  refine T.F_law_told.okC sc_law_told (fun vs H Q E h => ?_) (fun cdv A outer s H vs Q E hr h => ?_)
  · obtain ⟨l1, l2, as, bs, ts, rfl, _⟩ := h
    rfl
  · obtain ⟨l1, l2, as, bs, ts, rfl, r1, r2, lt, sm, q⟩ := h
    have hu := hu_of hr
    have t1 := r1.top
    have t2 := r2.top
    refine ⟨_, (pss_cons (ps_if (PW.pt (pw_or (pt_not (pt_val (pe_callB call_isF (by rfl) T.z_isinstance (by decide +kernel) (pa_cons (pv 0) (pa_cons (pe_bltn (v := .ty "list") (u := .type "list") (by rfl) T.z_list (by decide +kernel) (by rfl)) pa_nil))))) (pw_or1 (pt_cmpR op_ne (pe_callB call_lenF (by rfl) T.z_len (by decide +kernel) (pa_cons (pv 0) pa_nil)) (pe_callB call_lenF (by rfl) T.z_len (by decide +kernel) (pa_cons (pv 1) pa_nil)) (nomark _))))) (pss_one (ps_ret pe_bl)) pss_nil)
      (pss_cons (ps_for PassesOwn.never (by rfl) (pi_zip2 (by rfl) T.z_zip (pa_cons (pv 0) (pa_cons (pv 1) pa_nil))) (pg_tup (n := 2) (by rfl) (pgs_cons (pg_name (i := 2) sc_law_told.nd (by rfl) (Or.inl rfl)) (pgs_cons (pg_name (i := 3) sc_law_told.nd (by rfl) (Or.inl rfl)) pgs_nil)))
      (pss_cons (ps_if (PW.pt (pw_or (pt_not (pt_val (pe_callB call_isF (by rfl) T.z_isinstance (by decide +kernel) (pa_cons (pv 2) (pa_cons (pe_bltn (v := .ty "tuple") (u := .type "tuple") (by rfl) T.z_tuple (by decide +kernel) (by rfl)) pa_nil))))) (pw_or (pt_cmpR op_ne (pe_callB call_lenF (by rfl) T.z_len (by decide +kernel) (pa_cons (pv 2) pa_nil)) pe_int (nomark _)) (pw_or (pt_not (pt_val (pe_call (ok_law_whole T) (hr.mono (by decide)) (by rfl) T.m_law_whole T.F_law_whole.kp T.b_law_whole .nil pass1 (pa_cons (pe_ix ix_F (pv 2) pe_int (fun _ _ => rfl)) pa_nil)))) (pw_or1 (pt_cmpR op_ne (pe_ix ix_F (pv 2) pe_int (fun _ _ => rfl)) (pe_ix ix_F (pv 3) pe_int (fun _ _ => rfl)) (nomark _))))))) (pss_one (ps_ret pe_bl)) pss_nil)
      (pss_one (ps_for PassesOwn.never (by rfl) (pi_list (pe_lst (pa_cons (pe_tup (pa_cons (pe_ix ix_F (pv 2) pe_int (fun _ _ => rfl)) (pa_cons (pe_ix ix_F (pv 3) pe_int (fun _ _ => rfl)) pa_nil))) (pa_cons (pe_tup (pa_cons (pe_ix ix_F (pv 2) pe_int (fun _ _ => rfl)) (pa_cons (pe_ix ix_F (pv 3) pe_int (fun _ _ => rfl)) pa_nil))) pa_nil)))) (pg_tup (n := 2) (by rfl) (pgs_cons (pg_name (i := 4) sc_law_told.nd (by rfl) (Or.inl rfl)) (pgs_cons (pg_name (i := 5) sc_law_told.nd (by rfl) (Or.inl rfl)) pgs_nil)))
      (pss_cons (ps_if (PW.pt (pw_or (pt_not (pt_val (pe_callB call_isF (by rfl) T.z_isinstance (by decide +kernel) (pa_cons (pv 4) (pa_cons (pe_bltn (v := .ty "tuple") (u := .type "tuple") (by rfl) T.z_tuple (by decide +kernel) (by rfl)) pa_nil))))) (pw_or1 (pt_cmpR (op_neF hu) (pe_callTy call_list_of (by rfl) T.z_list (by decide +kernel) (pa_cons (pv 4) pa_nil)) (pv 5) (nomark _))))) (pss_one (ps_ret pe_bl)) pss_nil)
      (pss_one (ps_if (pt_cmpR op_ne (pe_callB call_lenF (by rfl) T.z_len (by decide +kernel) (pa_cons (pe_comp (N' := ["word"]) (cap := [none]) ⟨rfl, (by decide +kernel), (by decide +kernel), (by rfl), rfl, (by rfl)⟩ (by rfl) (pi_tup (pv 4)) (fun C_ ex_ s_ H_ => (pg_name (i := 0) (show (["word"] : List Str).Nodup by decide +kernel) (by rfl) (Or.inl rfl))) gkp_name (fun C_ ex_ s_ H_ => (pifs_one (pt_val (pe_call (ok_law_whole T) (by exact hr.mono (by decide)) (by rfl) T.m_law_whole T.F_law_whole.kp T.b_law_whole .nil pass1 (pa_cons (pv 0) pa_nil))))) (fun C_ ex_ s_ H_ => (pv 0))) pa_nil)) (pe_callB call_lenF (by rfl) T.z_len (by decide +kernel) (pa_cons (pv 5) pa_nil)) (nomark _)) (pss_one (ps_ret pe_bl)) pss_nil)))))))
      (pss_one (ps_ret pe_bl)))), ?_⟩
    simp! [t1, t2, List.length_map, r1.len, r2.len]
    refine forZ (H1 := H) l1 l2 _ _ ?_ (fun i σ H2 => ∃ v2 v3 v4 v5, σ = [some (.ref l1), some (.ref l2), v2, v3, v4, v5] ∧ Same H H2) ⟨_, _, _, _, rfl, fun _ _ h => h⟩ (by rw [List.length_map, List.length_map, r1.len, r2.len]) (fun i σ H2 _ ⟨_, _, _, _, _, S⟩ => ⟨.of (S _ _ t1), .of (S _ _ t2)⟩) ?_ ?_
    · intro Q2 h2
      simp! []
      exact h2
    · rintro i x y p σ H2 hx hy ⟨v2, v3, v4, v5, rfl, S⟩ hp
      obtain ⟨a1, ha1, rfl⟩ := of_map_get hx
      obtain ⟨b1, hb1, rfl⟩ := of_map_get hy
      have hi : i < ts.length := by rw [← r1.len]; exact (List.getElem?_eq_some_iff.mp ha1).1
      obtain ⟨A1, A2, A3⟩ := r1.row i a1 _ ha1 (List.getElem?_eq_getElem hi)
      obtain ⟨B1, B2, B3⟩ := r2.row i b1 _ hb1 (List.getElem?_eq_getElem hi)
      obtain ⟨s1, s2⟩ := sm _ (List.getElem_mem hi)
      revert A1 A2 A3 B1 B2 B3 s1 s2
      generalize ts[i] = t
      intro A1 A2 A3 B1 B2 B3 s1 s2
      have S2 := S.step hp (u := .tup [.ref a1.1, .ref b1.1])
      refine gTup_of upd_same rfl ?_
      have A1' := S2 _ _ A1
      have B1' := S2 _ _ B1
      simp! [A1', B1']
      refine ⟨t.1, rfl, ?_⟩
      simp! [A1', B1']
      refine forL_ (fun l H3 => ∃ p1 p2, Same H H3 ∧ H3 l = some (.lst [.ref p1, .ref p2]) ∧ H3 p1 = some (.tup [.ref a1.2.1, .ref b1.2.1]) ∧ H3 p2 = some (.tup [.ref a1.2.2, .ref b1.2.2])) (fun Q2 hQ => ?_) ?_
      · simp! [A1', B1']
        intro p1 h1
        have A1'' := upd_old (u := .tup [.ref a1.2.1, .ref b1.2.1]) A1' h1
        have B1'' := upd_old (u := .tup [.ref a1.2.1, .ref b1.2.1]) B1' h1
        simp! [A1'', B1'']
        intro p2 h2 l hl
        exact hQ l _ ⟨p1, p2, ((S2.step h1).step h2).step hl, upd_same, upd_old (upd_old upd_same h2) hl, upd_old upd_same hl⟩
      · rintro l H3 ⟨p1, p2, S3, hl, hp1, hp2⟩
        refine forL (H1 := H3) l _ (fun Q2 h2 => h2) (fun j σ H4 => ∃ v4 v5, σ = [some (.ref l1), some (.ref l2), some (.ref a1.1), some (.ref b1.1), v4, v5] ∧ Same H3 H4) ⟨_, _, rfl, fun _ _ h => h⟩ (fun j σ H4 _ ⟨_, _, _, S4⟩ => .of (S4 _ _ hl)) ?_ ?_
        · rintro j x σ H4 hj ⟨v4, v5, rfl, S4⟩
          have S5 := S3.trans S4
          have key : ∃ (q r u : Addr) (xs : List Int), x = .ref q ∧ H4 q = some (.tup [.ref r, .ref u]) ∧ H4 r = some (.tup (xs.map V.int)) ∧ H4 u = some (.lst (xs.map V.int)) ∧ xs.length ≤ 9 := by
            match j, hj with
            | 0, hj => cases hj; exact ⟨_, _, _, _, rfl, S4 _ _ hp1, S5 _ _ A2, S5 _ _ B2, s1⟩
            | 1, hj => cases hj; exact ⟨_, _, _, _, rfl, S4 _ _ hp2, S5 _ _ A3, S5 _ _ B3, s2⟩
            | j + 2, hj => simp at hj
          obtain ⟨q1, r, u, xs, rfl, k1, k2, k3, k4⟩ := key
          refine gTup_of k1 rfl ?_
          simp! [k2, k3]
          refine ⟨_, .inr (.of k2), fun l5 h5 => ?_⟩
          have n1 := ne_of_none k3 h5
          simp! [k3, upd_ne n1]
          refine ⟨flat_ints xs, flat_ints xs, ?_⟩
          rw [eqVs_refl]
          simp! []
          have k2' := upd_old (u := .lst (xs.map V.int)) k2 h5
          refine compT (H1 := upd H4 l5 (.lst (xs.map V.int))) r _ ?_ (.of k2') (fun D i2 ys H5 => ys = (xs.take i2).map V.int ∧ H5 = upd (upd H4 l5 (.lst (xs.map V.int))) D (.lst ys)) (fun D hD => ⟨rfl, rfl⟩) ?_ (by rw [sizeLine_eq]; simp; omega) ?_ ?_
          · intro Q2 h2
            simp! []
            exact h2
          · rintro D hD i2 ys H5 hi2 ⟨rfl, rfl⟩
            exact ⟨.of (upd_old k2' hD), upd_same, by simp; omega⟩
          · rintro D hD i2 x ys H5 hi2 ⟨rfl, rfl⟩
            obtain ⟨z, hz, rfl⟩ := of_map_get hi2
            simp! [capSt]
            refine ⟨z, rfl, ?_⟩
            simp! [upd_upd]
            rw [List.take_succ, hz, List.map_append]; rfl
          · rintro D hD ys H5 ⟨rfl, rfl⟩
            have et : xs.take (xs.map V.int).length = xs := by rw [List.length_map, List.take_length]
            rw [et]
            have k3' := upd_old (u := .lst (xs.map V.int)) (upd_old (u := .lst (xs.map V.int)) k3 h5) hD
            simp! [k3', List.length_map]
            exact (S4.step h5).step hD
        · rintro σ H4 ⟨v4, v5, rfl, S4⟩
          exact ⟨_, _, _, _, rfl, S3.trans S4⟩
    · rintro σ H2 ⟨v2, v3, v4, v5, rfl, S⟩
      exact q H2 S

def prD (ps : List (Int × Int)) : PyData := .list (ps.map fun p => .tuple [.int p.1, .int p.2])
theorem prD_can : ∀ {ps : List (Int × Int)}, PyData.canLayAll0 (ps.map fun p => .tuple [.int p.1, .int p.2]) = true
  | [] => by rw [List.map_nil, PyData.canLayAll0]
  | p :: r => by
    rw [List.map_cons, PyData.canLayAll0, prD_can]
    simp [PyData.canLay0, PyData.canLayAll0]
theorem prD_depth : ∀ {ps : List (Int × Int)}, PyData.depthAll (ps.map fun p => .tuple [.int p.1, .int p.2]) ≤ 1
  | [] => by rw [List.map_nil, PyData.depthAll]; omega
  | p :: r => by
    have ih := prD_depth (ps := r)
    rw [List.map_cons, PyData.depthAll]
    have : PyData.depth (.tuple [.int p.1, .int p.2]) = 1 := by simp [PyData.depth, PyData.depthAll]
    omega
theorem prD_shaped {ps : List (Int × Int)} : SeqAt.shaped (prD ps) = true := by
  unfold SeqAt.shaped prD
  rw [Bool.and_eq_true]
  refine ⟨by rw [PyData.canLay0]; exact prD_can, decide_eq_true ?_⟩
  have := prD_depth (ps := ps)
  rw [PyData.depth]; omega
theorem prD_eq {ps : List (Int × Int)} : PyData.eqv (prD ps) (prD ps) = true := SeqAt.eqv_refl _ (by unfold prD; rw [PyData.canLay0]; exact prD_can)
theorem PrAt.rep {H : Hp} {l : Addr} {as : List Addr} {ps : List (Int × Int)} (x : PrAt H l as ps) : RepD H (.ref l) (prD ps) := by
  refine .lst x.top (by rw [List.length_map, List.length_map, x.len]) fun i v d h1 h2 => ?_
  obtain ⟨p, hp, rfl⟩ := of_map_get h1
  rw [List.getElem?_map] at h2
  cases e : ps[i]? with
  | none => rw [e] at h2; cases h2
  | some z =>
    rw [e] at h2
    cases h2
    refine .tup (x.row i p z hp e) rfl fun j v d h1 h2 => ?_
    match j, h1, h2 with
    | 0, h1, h2 => cases h1; cases h2; exact .int _
    | 1, h1, h2 => cases h1; cases h2; exact .int _
    | j + 2, h1, h2 => simp at h1
def sp_pairs : Sp := fun vs H Q _ => ∃ (l1 l2 : Addr) (as bs : List Addr) (ps : List (Int × Int)), vs = [.ref l1, .ref l2] ∧ PrAt H l1 as ps ∧ PrAt H l2 bs ps ∧ ps.length ≤ 1000 ∧ ∀ H', Same H H' → Q (.bl true) H'
set_option maxHeartbeats 1000000 in
theorem ok_law_pairs (T : Txt K mg a) : FnOk P w K mg base (CX1 P w) 2 a.f_law_pairs a.d_law_pairs ["found", "due"] sp_pairs := by
  refine T.F_law_pairs.okC sc_law_pairs (fun vs H Q E h => ?_) (fun cdv A outer s H vs Q E hr h => ?_)
  · obtain ⟨l1, l2, as, bs, ps, rfl, _⟩ := h
    rfl
  · obtain ⟨l1, l2, as, bs, ps, rfl, p1, p2, lp, q⟩ := h
    have hu := hu_of hr
    refine ⟨_, (pss_cons (ps_if (PW.pt (pw_or (pt_not (pt_val (pe_callB call_isF (by rfl) T.z_isinstance (by decide +kernel) (pa_cons (pv 0) (pa_cons (pe_bltn (v := .ty "list") (u := .type "list") (by rfl) T.z_list (by decide +kernel) (by rfl)) pa_nil))))) (pw_or1 (pt_cmpR (op_neP hr.units) (pv 0) (pv 1) (nomark _))))) (pss_one (ps_ret pe_bl)) pss_nil)
      (pss_one (ps_ret (pe_cmpR op_eq (pe_callB call_lenF (by rfl) T.z_len (by decide +kernel) (pa_cons (pe_comp (N' := ["one"]) (cap := [none]) ⟨rfl, (by decide +kernel), (by decide +kernel), (by rfl), rfl, (by rfl)⟩ (by rfl) (pi_list (pv 0)) (fun C_ ex_ s_ H_ => (pg_name (i := 0) (show (["one"] : List Str).Nodup by decide +kernel) (by rfl) (Or.inl rfl))) gkp_name (fun C_ ex_ s_ H_ => (pifs_one (PW.pt (pw_and (pt_val (pe_call (ok_law_whole T) (by exact hr.mono (by decide)) (by rfl) T.m_law_whole T.F_law_whole.kp T.b_law_whole .nil pass1 (pa_cons (pe_ix ix_F (pv 0) pe_int (fun _ _ => rfl)) pa_nil))) (pw_and1 (pt_val (pe_call (ok_law_whole T) (by exact hr.mono (by decide)) (by rfl) T.m_law_whole T.F_law_whole.kp T.b_law_whole .nil pass1 (pa_cons (pe_ix ix_F (pv 0) pe_int (fun _ _ => rfl)) pa_nil)))))))) (fun C_ ex_ s_ H_ => (pv 0))) pa_nil)) (pe_callB call_lenF (by rfl) T.z_len (by decide +kernel) (pa_cons (pv 1) pa_nil)) (nomark _))))), ?_⟩
    have t1 := p1.top
    have t2 := p2.top
    simp! [t1]
    refine ⟨_, _, p1.rep, p2.rep, prD_shaped, prD_shaped, ?_⟩
    rw [prD_eq]
    refine ⟨_, rfl, ?_⟩
    rw [if_neg (by simp)]
    refine compL (H1 := H) l1 _ (fun Q2 h2 => by simp! []; exact h2) (.of t1) (fun D i ys H5 => ys = (as.take i).map V.ref ∧ H5 = upd H D (.lst ys)) (fun D hD => ⟨rfl, rfl⟩) ?_ (by rw [List.length_map, p1.len, sizeLine_eq]; omega) ?_ ?_
    · rintro D hD i ys H5 hi ⟨rfl, rfl⟩
      exact ⟨.of (upd_old t1 hD), upd_same, by simp; omega⟩
    · rintro D hD i x ys H5 hi ⟨rfl, rfl⟩
      obtain ⟨p, hp, rfl⟩ := of_map_get hi
      have il : i < ps.length := by rw [← p1.len]; exact (List.getElem?_eq_some_iff.mp hp).1
      have row := upd_old (u := .lst ((as.take i).map V.ref)) (p1.row i p _ hp (List.getElem?_eq_getElem il)) hD
      simp! [capSt, row, upd_upd]
      refine ⟨_, rfl, ?_⟩
      simp! [capSt, row, upd_upd]
      refine ⟨_, rfl, ?_⟩
      rw [List.take_succ, hp, List.map_append]
      simp! []
      exact ⟨rfl, upd_upd⟩
    · rintro D hD ys H5 ⟨rfl, rfl⟩
      rw [List.length_map, List.take_length]
      have t2' := upd_old (u := .lst (as.map V.ref)) t2 hD
      simp! [t2', List.length_map, p2.len, p1.len]
      exact q _ (.laid hD)

end
section
variable {P : Program} {w : World} {K : PySem.W.Frag} {mg : Str → Option Value} {base : Heap} {a : Ad}

theorem ls_get : ∀ {as : List (Addr × Addr × Addr)} {k : Nat} {x : Addr × Addr × Addr}, as[k]? = some x → (lsOf as)[2 * k]? = some x.2.1 ∧ (lsOf as)[2 * k + 1]? = some x.2.2
  | [], k, x, h => by simp at h
  | y :: r, 0, x, h => by cases h; exact ⟨rfl, rfl⟩
  | y :: r, k + 1, x, h => by
    have ih := ls_get (as := r) (k := k) (by simpa using h)
    rw [show 2 * (k + 1) = 2 * k + 1 + 1 by omega]
    show (y.2.1 :: y.2.2 :: lsOf r)[2 * k + 1 + 1]? = _ ∧ (y.2.1 :: y.2.2 :: lsOf r)[2 * k + 1 + 1 + 1]? = _
    rw [List.getElem?_cons_succ, List.getElem?_cons_succ, List.getElem?_cons_succ, List.getElem?_cons_succ]
    exact ih
theorem ls_mem {as : List (Addr × Addr × Addr)} {q : Addr} (h : q ∈ lsOf as) : ∃ x ∈ as, q = x.2.1 ∨ q = x.2.2 := by
  obtain ⟨x, hx, hq⟩ := List.mem_flatMap.mp h
  simp only [List.mem_cons, List.not_mem_nil, or_false] at hq
  exact ⟨x, hx, hq⟩
theorem ls_tag {g : Addr → Tag} : ∀ {as : List (Addr × Addr × Addr)} {n : Nat}, (∀ (k : Nat) (x : Addr × Addr × Addr), as[k]? = some x → g x.2.1 = (2, n + k, 1) ∧ g x.2.2 = (2, n + k, 2)) → (lsOf as).Nodup ∧ ∀ q ∈ lsOf as, (g q).1 = 2 ∧ n ≤ (g q).2.1
  | [], n, _ => ⟨List.nodup_nil, fun _ h => absurd h List.not_mem_nil⟩
  | y :: r, n, h => by
    obtain ⟨h1, h2⟩ := h 0 y rfl
    obtain ⟨i1, i2⟩ := ls_tag (as := r) (n := n + 1) fun k x hx => by
      have := h (k + 1) x (by simpa using hx)
      rw [show n + 1 + k = n + (k + 1) by omega]
      exact this
    have ne : y.2.1 ≠ y.2.2 := fun e => by rw [e, h2] at h1; simp at h1
    have out : ∀ z, z = y.2.1 ∨ z = y.2.2 → z ∉ lsOf r := fun z hz m => by
      have := (i2 z m).2
      rcases hz with e | e
      · rw [e, h1] at this; exact absurd (show n + 1 ≤ n + 0 from this) (by omega)
      · rw [e, h2] at this; exact absurd (show n + 1 ≤ n + 0 from this) (by omega)
    show (y.2.1 :: y.2.2 :: lsOf r).Nodup ∧ ∀ q ∈ y.2.1 :: y.2.2 :: lsOf r, _
    refine ⟨List.nodup_cons.mpr ⟨fun m => ?_, List.nodup_cons.mpr ⟨out _ (.inr rfl), i1⟩⟩, fun q hq => ?_⟩
    · rcases List.mem_cons.mp m with e | m
      · exact ne e
      · exact out _ (.inl rfl) m
    · rcases List.mem_cons.mp hq with e | hq
      · rw [e, h1]; exact ⟨rfl, Nat.le_refl _⟩
      · rcases List.mem_cons.mp hq with e | hq
        · rw [e, h2]; exact ⟨rfl, Nat.le_refl _⟩
        · exact ⟨(i2 q hq).1, by have := (i2 q hq).2; omega⟩
theorem bag_there {H : Hp} {b c : Addr} {cs : List Int} (x : BagAt H b c cs) : ∃ o, H b = some o := by obtain ⟨⟨i, v, st, n, e, _⟩, _⟩ := x; exact ⟨_, e⟩
def HLog (ts : List Th) : Prop := ∀ t ∈ ts, ∀ h ∈ t.2.1, h.natAbs.log2 < 1920
/-- a yard, what it should tell, and where its words end -/
structure Hs where
  yd : Yd
  tl : Addr
  as : List (Addr × Addr × Addr)
  ts : List Th
  s : Int
  f : Int
def Hs.ow (h : Hs) : List Addr := h.yd.p :: h.yd.dw :: h.yd.ds :: h.tl :: lsOf h.as
structure HsAt (C : Addr) (H : Hp) (h : Hs) : Prop where
  yard : YardAt C H h.yd (wordAt h.ts) (h.ts.map thTri) h.f
  rows : RowsAt HO.lst H h.tl h.as h.ts
  lay : Lay h.s h.ts h.f
  small : ∀ t ∈ h.ts, t.2.1.length ≤ 9 ∧ t.2.2.length ≤ 9
  good : HLog h.ts
  s0 : 1 ≤ h.s
  nd : h.ow.Nodup
theorem rows_frl {H H' : Hp} {l : Addr} {as : List (Addr × Addr × Addr)} {ts : List Th} {M : Addr → Prop} (x : RowsAt HO.lst H l as ts) (f : Fr M H H') (h1 : ¬ M l) (h2 : ∀ q ∈ lsOf as, ¬ M q) : RowsAt HO.lst H' l as ts :=
  ⟨f.keep _ _ x.top h1, x.len, fun k a t ha ht => by
    obtain ⟨e1, e2, e3⟩ := x.row k a t ha ht
    obtain ⟨g1, g2⟩ := ls_get ha
    exact ⟨f.tups _ _ e1, f.keep _ _ e2 (h2 _ (List.mem_of_getElem? g1)), f.keep _ _ e3 (h2 _ (List.mem_of_getElem? g2))⟩⟩
theorem rows_alloc {H : Hp} {l : Addr} {as : List (Addr × Addr × Addr)} {ts : List Th} (x : RowsAt HO.lst H l as ts) {q : Addr} (h : q ∈ lsOf as) : ∃ xs, H q = some (.lst xs) := by
  obtain ⟨y, hy, e⟩ := ls_mem h
  obtain ⟨k, hk⟩ := List.mem_iff_getElem?.mp hy
  have kl : k < ts.length := by rw [← x.len]; exact (List.getElem?_eq_some_iff.mp hk).1
  obtain ⟨_, e2, e3⟩ := x.row k y _ hk (List.getElem?_eq_getElem kl)
  rcases e with rfl | rfl
  · exact ⟨_, e2⟩
  · exact ⟨_, e3⟩
section
variable {C b c hl : Addr} {cs : List Int} {H H' : Hp} {h h' : Hs} {M : Addr → Prop}
theorem HsAt.fr (x : HsAt C H h) (f : Fr M H H') (n : ∀ q ∈ h.ow, ¬ M q) : HsAt C H' h := by
  have m : ∀ q, q = h.yd.p ∨ q = h.yd.dw ∨ q = h.yd.ds ∨ q = h.tl ∨ q ∈ lsOf h.as → ¬ M q := fun q hq => n q (by unfold Hs.ow; simp only [List.mem_cons]; exact hq)
  exact ⟨x.yard.fr f (m _ (by simp)) (m _ (by simp)) (m _ (by simp)), rows_frl x.rows f (m _ (by simp)) (fun q hq => m q (by simp [hq])), x.lay, x.small, x.good, x.s0, x.nd⟩
theorem HsAt.same (x : HsAt C H h) (S : Same H H') : HsAt C H' h := x.fr (M := fun _ => False) (.of_same S) fun _ _ z => z
theorem HsAt.alloc (x : HsAt C H h) {q : Addr} (hq : q ∈ h.ow) : ∃ o, H q = some o := by
  unfold Hs.ow at hq
  simp only [List.mem_cons] at hq
  obtain ⟨kw, hw, _⟩ := x.yard.words
  obtain ⟨ks, hs, _⟩ := x.yard.sizes
  rcases hq with rfl | rfl | rfl | rfl | hq
  · exact ⟨_, x.yard.ins⟩
  · exact ⟨_, hw⟩
  · exact ⟨_, hs⟩
  · exact ⟨_, x.rows.top⟩
  · obtain ⟨xs, e⟩ := rows_alloc x.rows hq; exact ⟨_, e⟩
/-- what the bag and the house are to the defs that fill yards -/
theorem HsAt.wo (x : HsAt C H h) (B : BagAt H b c cs) (nb : b ∉ h.ow) (nc : c ∉ h.ow) : ∃ g, Wo C b c h.tl h.yd cs g H h.as h.ts h.s h.f ∧ ∀ q, (g q).1 = 2 → q ∈ lsOf h.as := by
  have nd := x.nd
  have N : [h.tl, h.yd.ds, h.yd.dw, h.yd.p, c, b].Nodup ∧ ∀ q ∈ [h.tl, h.yd.ds, h.yd.dw, h.yd.p, c, b], q ∉ lsOf h.as := by
    unfold Hs.ow at nd nb nc
    simp only [List.nodup_cons, List.mem_cons, not_or, List.not_mem_nil, not_false_eq_true, or_false] at nd nb nc ⊢
    obtain ⟨⟨b1, b2, b3, b4⟩, ⟨c1, c2, c3⟩, ⟨d1, d2⟩, e1, e2⟩ := nd
    obtain ⟨p2, p3, p4, p5, p6⟩ := nb
    obtain ⟨q2, q3, q4, q5, q6⟩ := nc
    refine ⟨⟨⟨Ne.symm d1, Ne.symm c2, Ne.symm b3, Ne.symm q5, Ne.symm p5⟩, ⟨Ne.symm c1, Ne.symm b2, Ne.symm q4, Ne.symm p4⟩, ⟨Ne.symm b1, Ne.symm q3, Ne.symm p3⟩, ⟨Ne.symm q2, Ne.symm p2⟩, B.ne, ?_⟩, ?_⟩
    · simp
    · rintro q (rfl | rfl | rfl | rfl | rfl | rfl)
      · exact e1
      · exact d2
      · exact c3
      · exact b4
      · exact q6
      · exact p6
  have ndl : (lsOf h.as).Nodup := by
    unfold Hs.ow at nd
    simp only [List.nodup_cons] at nd
    exact nd.2.2.2.2
  refine ⟨fun q => if q ∈ lsOf h.as then (2, (lsOf h.as).idxOf q / 2, (lsOf h.as).idxOf q % 2 + 1) else tagOf [h.tl, h.yd.ds, h.yd.dw, h.yd.p, c, b] [(1, 0, 0), (10, 0, 2), (10, 0, 1), (10, 0, 0), (0, 1, 0), (0, 0, 0)] q, ⟨B, x.yard, x.rows, fun k y hk => ?_, x.lay, x.small, ?_, ?_, ?_, ?_, ?_, ?_⟩, fun q hq => ?_⟩
  · obtain ⟨g1, g2⟩ := ls_get hk
    obtain ⟨l1, e1⟩ := List.getElem?_eq_some_iff.mp g1
    obtain ⟨l2, e2⟩ := List.getElem?_eq_some_iff.mp g2
    have i1 : (lsOf h.as).idxOf y.2.1 = 2 * k := by rw [← e1]; exact ndl.idxOf_getElem _ l1
    have i2 : (lsOf h.as).idxOf y.2.2 = 2 * k + 1 := by rw [← e2]; exact ndl.idxOf_getElem _ l2
    rw [if_pos (List.mem_of_getElem? g1), if_pos (List.mem_of_getElem? g2), i1, i2]
    refine ⟨?_, ?_⟩
    · rw [show 2 * k / 2 = k by omega, show 2 * k % 2 = 0 by omega]
    · rw [show (2 * k + 1) / 2 = k by omega, show (2 * k + 1) % 2 = 1 by omega]
  · rw [if_neg (N.2 _ (by simp))]; exact tag_at (i := 5) N.1 rfl
  · rw [if_neg (N.2 _ (by simp))]; exact tag_at (i := 4) N.1 rfl
  · rw [if_neg (N.2 _ (by simp))]; exact tag_at (i := 0) N.1 rfl
  · rw [if_neg (N.2 _ (by simp))]; exact tag_at (i := 3) N.1 rfl
  · rw [if_neg (N.2 _ (by simp))]; exact tag_at (i := 2) N.1 rfl
  · rw [if_neg (N.2 _ (by simp))]; exact tag_at (i := 1) N.1 rfl
  · by_cases m : q ∈ lsOf h.as
    · exact m
    · dsimp only at hq
      rw [if_neg m] at hq
      unfold tagOf at hq
      generalize List.idxOf q [h.tl, h.yd.ds, h.yd.dw, h.yd.p, c, b] = i at hq
      match i, hq with
      | 0, hq => simp at hq
      | 1, hq => simp at hq
      | 2, hq => simp at hq
      | 3, hq => simp at hq
      | 4, hq => simp at hq
      | 5, hq => simp at hq
      | i + 6, hq => simp at hq
theorem Wo.nd {tl : Addr} {yd : Yd} {g : Addr → Tag} {as : List (Addr × Addr × Addr)} {ts : List Th} {s fr : Int} (x : Wo C b c tl yd cs g H as ts s fr) : (yd.p :: yd.dw :: yd.ds :: tl :: lsOf as).Nodup ∧ ∀ q ∈ yd.p :: yd.dw :: yd.ds :: tl :: lsOf as, q ≠ b ∧ q ≠ c := by
  obtain ⟨n1, n2⟩ := ls_tag (g := g) (as := as) (n := 0) fun k y hk => by rw [Nat.zero_add]; exact x.tags k y hk
  have o : ∀ q, (g q).1 ≠ 2 → q ∉ lsOf as := fun q h m => h (n2 q m).1
  have ne : ∀ p q, g p ≠ g q → p ≠ q := fun p q h e => h (by rw [e])
  refine ⟨?_, fun q hq => ?_⟩
  · simp only [List.nodup_cons, List.mem_cons, not_or]
    exact ⟨⟨ne _ _ (by rw [x.gp, x.gdw]; simp), ne _ _ (by rw [x.gp, x.gds]; simp), ne _ _ (by rw [x.gp, x.gtl]; simp), o _ (by rw [x.gp]; simp)⟩, ⟨ne _ _ (by rw [x.gdw, x.gds]; simp), ne _ _ (by rw [x.gdw, x.gtl]; simp), o _ (by rw [x.gdw]; simp)⟩, ⟨ne _ _ (by rw [x.gds, x.gtl]; simp), o _ (by rw [x.gds]; simp)⟩, o _ (by rw [x.gtl]; simp), n1⟩
  · simp only [List.mem_cons] at hq
    rcases hq with rfl | rfl | rfl | rfl | hq
    · exact ⟨ne _ _ (by rw [x.gp, x.gb]; simp), ne _ _ (by rw [x.gp, x.gc]; simp)⟩
    · exact ⟨ne _ _ (by rw [x.gdw, x.gb]; simp), ne _ _ (by rw [x.gdw, x.gc]; simp)⟩
    · exact ⟨ne _ _ (by rw [x.gds, x.gb]; simp), ne _ _ (by rw [x.gds, x.gc]; simp)⟩
    · exact ⟨ne _ _ (by rw [x.gtl, x.gb]; simp), ne _ _ (by rw [x.gtl, x.gc]; simp)⟩
    · have := (n2 q hq).1
      exact ⟨fun e => by rw [e, x.gb] at this; simp at this, fun e => by rw [e, x.gc] at this; simp at this⟩
end

end
section
variable {P : Program} {w : World} {K : PySem.W.Frag} {mg : Str → Option Value} {base : Heap} {a : Ad}

def sp_is (C : Addr) : Sp := fun vs H Q _ => ∃ (y : Yd) (z f : Int) (W : Int → Option Int) (S : List (Int × Int × Int)), vs = [.ref y.p, .int z] ∧ YardAt C H y W S f ∧
  ((∃ t ∈ S, t.1 = z) → Q (.bl true) H) ∧ ((∀ t ∈ S, t.1 ≠ z) → Q (.bl false) H)
theorem ok_Yard_is_thing (T : Txt K mg a) : FnOk P w K mg base (CX1 P w) 1 a.f_Yard_is_thing a.d_Yard_is_thing ["self", "at"] (sp_is a.c_Yard) := by
  refine T.F_Yard_is_thing.okC sc_Yard_is_thing (fun vs H Q E h => ?_) (fun cdv A outer s H vs Q E hr h => ?_)
  · obtain ⟨y, z, f, W, S, rfl, _⟩ := h
    rfl
  · obtain ⟨y, z, f, W, S, rfl, ⟨hp, _, ⟨ks, hs, ek, vk, nk⟩, ne⟩, q1, q2⟩ := h
    have hu := hu_of hr
    refine ⟨_, (pss_one (ps_ret (pe_cmp (pc_dinF hu (pv 1) (pe_fld (pv 0) (by rfl)))))), ?_⟩
    simp! [T.cl_Yard, T.n_free, T.n_words, T.n_sizes, hp, hs, yF_sizes, yF_len]
    by_cases c : ∀ t ∈ S, t.1 ≠ z
    · rw [nk z c]
      exact q2 c
    · have ⟨t, ht, e⟩ : ∃ t ∈ S, t.1 = z := by
        by_cases d : ∃ t ∈ S, t.1 = z
        · exact d
        · exact absurd (fun t ht e => d ⟨t, ht, e⟩) c
      obtain ⟨q, e1, e2⟩ := vk t ht
      rw [← e, e1]
      exact q1 ⟨t, ht, e⟩
def sp_word (C X : Addr) : Sp := fun vs H Q E => ∃ (y : Yd) (z f : Int) (W : Int → Option Int) (S : List (Int × Int × Int)), vs = [.ref y.p, .int z] ∧ YardAt C H y W S f ∧ z.natAbs.log2 < 1920 ∧
  (∀ x, W z = some x → Q (.int x) H) ∧ (W z = none → E (.ref X) none H)
theorem ok_Yard_word (T : Txt K mg a) : FnOk P w K mg base (CX1 P w) 1 a.f_Yard_word a.d_Yard_word ["self", "spot"] (sp_word a.c_Yard a.c_NoSpot) := by
  refine T.F_Yard_word.okX sc_Yard_word (fun vs H Q E h => ?_) (fun cdv A outer s H vs Q E hr h => ?_)
  · obtain ⟨y, z, f, W, S, rfl, _⟩ := h
    rfl
  · obtain ⟨y, z, f, W, S, rfl, ⟨hp, ⟨kw, hw, vw, lw⟩, _, ne⟩, lz, q1, q2⟩ := h
    have hu := hu_of hr
    refine ⟨_, (pss_cons (ps_if (pt_cmp (pc_dnotinF hu (pv 1) (pe_fld (pv 0) (by rfl)))) (pss_one (ps_raise (by rfl) T.x_NoSpot (by rfl) T.m_NoSpot flies_cx (pa_cons (pe_fstr (by decide) (pv 1)) pa_nil))) pss_nil)
      (pss_one (ps_ret (pe_dgetF hu (pe_fld (pv 0) (by rfl)) (pv 1) (fun _ _ => rfl))))), ?_⟩
    simp! [T.cl_Yard, T.n_free, T.n_words, T.n_sizes, hp, hw, yF_words, yF_len, lz, vw]
    cases e : W z with
    | none => exact fun _ => q2 e
    | some x => exact ⟨_, rfl, q1 x e⟩

end
section
variable {P : Program} {w : World} {K : PySem.W.Frag} {mg : Str → Option Value} {base : Heap} {a : Ad}

def sp_sasked (C : Addr) : Sp := fun vs H Q _ => ∃ (y : Yd) (tl : Addr) (as : List (Addr × Addr × Addr)) (ts : List Th) (s f z : Int), vs = [.ref y.p, .ref tl, .int z] ∧ YardAt C H y (wordAt ts) (ts.map thTri) f ∧ RowsAt HO.lst H tl as ts ∧ Lay s ts f ∧ ts.length ≤ 1000 ∧ z.natAbs.log2 < 1920 ∧ ∀ H', Same H H' → Q (.bl true) H'
set_option maxHeartbeats 4000000 in
theorem ok_law_size_asked (T : Txt K mg a) : FnOk P w K mg base (CX1 P w) 2 a.f_law_size_asked a.d_law_size_asked ["yard", "things", "at"] (sp_sasked a.c_Yard) := by
  refine T.F_law_size_asked.okC sc_law_size_asked (fun vs H Q E h => ?_) (fun cdv A outer s H vs Q E hr h => ?_)
  · obtain ⟨y, tl, as, ts, s, f, z, rfl, _⟩ := h
    rfl
  · obtain ⟨y, tl, as, ts, s, f, z, rfl, Y, R, L, lt, lz, q⟩ := h
    have hu := hu_of hr
    refine ⟨_, (pss_cons (ps_setc (i := 3) sc_law_size_asked.nd (by rfl) (Or.inl rfl) (N' := ["thing", "at"]) (cap := [none, some 2]) ⟨rfl, (by decide +kernel), (by decide +kernel), (by rfl), rfl, (by rfl)⟩ (by rfl) (pi_list (pv 1)) (fun C_ ex_ s_ H_ => (pg_name (i := 0) (show (["thing", "at"] : List Str).Nodup by decide +kernel) (by rfl) (Or.inl rfl))) gkp_name (fun C_ ex_ s_ H_ => (pifs_one (pt_cmpR op_eq (pe_ix ix_F (pv 0) pe_int (fun _ _ => rfl)) (pv 1) (nomark _)))) (fun C_ ex_ s_ H_ => (pe_tup (pa_cons (pe_callB call_lenF (by rfl) T.z_len (by decide +kernel) (pa_cons (pe_ix ix_F (pv 0) pe_int (fun _ _ => rfl)) pa_nil)) (pa_cons (pe_callB call_lenF (by rfl) T.z_len (by decide +kernel) (pa_cons (pe_ix ix_F (pv 0) pe_int (fun _ _ => rfl)) pa_nil)) pa_nil)))))
      (pss_cons (ps_set (i := 4) sc_law_size_asked.nd (by rfl) (Or.inl rfl) (pe_meth (pv 0) T.cl_Yard T.M_Yard_is_thing (ok_Yard_is_thing T) (hr.mono (by decide)) T.b_Yard_is_thing .nil pass1 (pa_cons (pv 2) pa_nil)))
      (pss_cons (ps_if (PW.pt (pw_or (pt_not (pt_val (pe_callB call_isF (by rfl) T.z_isinstance (by decide +kernel) (pa_cons (pv 4) (pa_cons (pe_bltn (v := .ty "bool") (u := .type "bool") (by rfl) T.z_bool (by decide +kernel) (by rfl)) pa_nil))))) (pw_or1 (pt_cmpR op_ne (pv 4) (pe_cmpR (op_neE hu) (pv 3) (pe_lst pa_nil) (nomark _)) (nomark _))))) (pss_one (ps_ret pe_bl)) pss_nil)
      (pss_cons (ps_set (i := 5) sc_law_size_asked.nd (by rfl) (Or.inl rfl) pe_bl)
      (pss_cons (ps_set (i := 6) sc_law_size_asked.nd (by rfl) (Or.inl rfl) pe_non)
      (pss_cons (ps_tryAs (i := 7) T.xt (by rfl) T.m_HoldError (by rfl) (by rfl) sc_law_size_asked.nd (by rfl) (by rfl) (fun pn_ W_ R_ hW_ => (pss_one (ps_set (i := 6) sc_law_size_asked.nd (by rfl) (Or.inl rfl) (pe_methE (pv 0) T.cl_Yard T.M_Yard_size_of (ok_Yard_size_of T) (hr.mono (by decide)) T.b_Yard_size_of .nil hW_ (pa_cons (pv 2) pa_nil))))) (fun e_ => (pss_cons (ps_set (i := 5) sc_law_size_asked.nd (by rfl) (Or.inl rfl) (pe_and (pe_callB (call_isX T.xt) (by rfl) T.z_isinstance (by decide +kernel) (pa_cons (pv 7) (pa_cons (pe_glob (v := .ref a.c_NoThing) (by rfl) T.m_NoThing (by rfl)) pa_nil))) (pe_one (pe_callB (call_isX T.xt) (by rfl) T.z_isinstance (by decide +kernel) (pa_cons (pv 7) (pa_cons (pe_bltn (v := .ty "ValueError") (u := .type "ValueError") (by rfl) T.z_ValueError (by decide +kernel) (by rfl)) pa_nil))))))
      (pss_one (ps_set (i := 5) sc_law_size_asked.nd (by rfl) (Or.inl rfl) (pe_and (pv 5) (pe_one (pe_not (pe_callB (call_isX T.xt) (by rfl) T.z_isinstance (by decide +kernel) (pa_cons (pv 7) (pa_cons (pe_tup (pa_cons (pe_glob (v := .ref a.c_NoSpot) (by rfl) T.m_NoSpot (by rfl)) (pa_cons (pe_glob (v := .ref a.c_NoText) (by rfl) T.m_NoText (by rfl)) (pa_cons (pe_glob (v := .ref a.c_NotFormed) (by rfl) T.m_NotFormed (by rfl)) (pa_cons (pe_glob (v := .ref a.c_NoTable) (by rfl) T.m_NoTable (by rfl)) (pa_cons (pe_glob (v := .ref a.c_Faulty) (by rfl) T.m_Faulty (by rfl)) pa_nil)))))) pa_nil)))))))))))
      (pss_cons (ps_if (pt_cmpR (op_eqE hu) (pv 3) (pe_lst pa_nil) (nomark _)) (pss_one (ps_ret (pv 5))) pss_nil)
      (pss_one (ps_ret (pe_cmpR (op_eqF hu) (pv 6) (pe_ix ix_F (pv 3) pe_int (fun _ _ => rfl)) (nomark _))))))))))), ?_⟩
    generalize hT : tSeq (tAsg _ (gName 5)) (tAsg _ (gName 5)) = th
    have ins := Y.ins
    have nd := T.xt.nd
    have m1' : a.c_NoThing ∈ [a.c_HoldError, a.c_NoSpot, a.c_NoThing, a.c_NoText, a.c_NotFormed, a.c_NoTable, a.c_Faulty] := by simp
    have ex := (RowsAt.mk R.top R.len R.row : RowsAt HO.lst H tl as ts)
    simp! []
    refine compL (H1 := H) tl (as.map fun x => V.ref x.1) (fun Q2 h2 => by simp! []; exact h2) (.of R.top) (fun D i ys H2 => Same H H2 ∧ H2 D = some (.lst ys) ∧ (((∀ t ∈ ts.take i, t.1 ≠ z) ∧ ys = []) ∨ ∃ t ∈ ts.take i, t.1 = z ∧ ∃ q1, ys = [.ref q1] ∧ q1 ≠ D ∧ H2 q1 = some (.tup [.int t.2.1.length, .int t.2.2.length]))) (fun D hD => ⟨.laid hD, upd_same, .inl ⟨fun _ h => absurd h List.not_mem_nil, rfl⟩⟩) ?_ (by rw [sizeLine_eq, List.length_map, R.len]; omega) ?_ ?_
    · rintro D hD i ys H2 hi ⟨S, h2, hy⟩
      refine ⟨.of (S _ _ R.top), h2, ?_⟩
      rcases hy with ⟨_, rfl⟩ | ⟨t, mt, _, q1, rfl, _⟩
      · exact Nat.zero_le _
      · have := List.length_pos_of_mem mt
        rw [List.length_take] at this
        show 1 ≤ i
        omega
    · rintro D hD i x ys H2 hx ⟨S, h2, hy⟩
      obtain ⟨aa, ha, rfl⟩ := of_map_get hx
      have il : i < ts.length := by rw [← R.len]; exact (List.getElem?_eq_some_iff.mp ha).1
      obtain ⟨r1, r2, r3⟩ := R.row i aa _ ha (List.getElem?_eq_getElem il)
      have r1' := S _ _ r1
      have r2' := S _ _ r2
      have r3' := S _ _ r3
      have tk : ts.take (i + 1) = ts.take i ++ [ts[i]] := by rw [List.take_succ, List.getElem?_eq_getElem il]; rfl
      simp! [capSt, r1', r2', r3', List.length_map]
      by_cases c : ts[i].1 = z
      · rw [if_pos c]
        have hno : ys = [] := by
          rcases hy with ⟨_, rfl⟩ | ⟨t, mt, et, _⟩
          · rfl
          · obtain ⟨j, hj⟩ := List.mem_iff_getElem?.mp mt
            have jl : j < i := by have := (List.getElem?_eq_some_iff.mp hj).1; rw [List.length_take] at this; omega
            rw [List.getElem?_take_of_lt jl] at hj
            have jl2 := (List.getElem?_eq_some_iff.mp hj).1
            have r := List.pairwise_iff_getElem.mp L.rising j i (by rw [List.length_map]; exact jl2) (by rw [List.length_map]; exact il) jl
            rw [List.getElem_map, List.getElem_map, (List.getElem?_eq_some_iff.mp hj).2, et, c] at r
            exact absurd r (Int.lt_irrefl _)
        subst hno
        intro q1 nq1
        have q1D : q1 ≠ D := fun e => by rw [e, h2] at nq1; cases nq1
        refine ⟨upd_old h2 nq1, fun w o e => ?_, .inr ⟨ts[i], List.mem_of_getElem? (i := i) (by rw [List.getElem?_take_of_lt (by omega)]; exact List.getElem?_eq_getElem il), c, q1, rfl, q1D, by rw [upd_ne q1D]; exact upd_same⟩⟩
        rw [upd_ne (ne_of_none e hD)]
        exact upd_old (S _ _ e) nq1
      · rw [if_neg c]
        refine ⟨S, h2, ?_⟩
        rcases hy with ⟨hn, e⟩ | ⟨t, mt, et, q1, e⟩
        · refine .inl ⟨fun t ht => ?_, e⟩
          rw [tk] at ht
          rcases List.mem_append.mp ht with m | m
          · exact hn t m
          · rw [List.mem_singleton.mp m]; exact c
        · exact .inr ⟨t, by rw [tk]; exact List.mem_append_left _ mt, et, q1, e⟩
    · rintro D hD ys H2 ⟨S, h2, hy⟩
      rw [List.length_map, R.len, List.take_length] at hy
      have Y2 := Y.same S
      refine ⟨y.dx, _, Y2.ins, yF_meth.2.1, y, z, f, _, _, rfl, Y2, fun th1 => ?_, fun hno => ?_⟩
      · obtain ⟨t3, mt3, et3⟩ := th1
        obtain ⟨t, mt, rfl⟩ := List.mem_map.mp mt3
        have et : t.1 = z := et3
        rcases hy with ⟨hn, _⟩ | ⟨t', mt', et', q1, rfl, _, hq⟩
        · exact absurd et (hn t mt)
        have := L.inj mt' mt (et'.trans et.symm)
        subst this
        refine ⟨_, rfl, ?_⟩
        rw [if_neg (by decide)]
        intro p np
        have h3 := upd_old (u := .lst []) h2 np
        have hq3 := upd_old (u := .lst []) hq np
        have S3 := S.step np (u := .lst [])
        have Y3 := Y.same S3
        revert h3 hq3 S3 Y3
        generalize upd H2 p (.lst []) = H3
        intro h3 hq3 S3 Y3
        refine ⟨D, rfl, _, by rw [h3]; rfl, by rw [h3]; rfl, rfl, ?_⟩
        rw [if_neg (fun n => n rfl)]
        refine ⟨y.dx, _, Y3.ins, yF_meth.2.2.1, y, z, f, _, _, rfl, Y3, lz, fun hh mm q2 hm2 hq2 => ?_, fun hn => absurd et' (hn _ (List.mem_map.mpr ⟨t', mt', rfl⟩))⟩
        obtain ⟨u, mu, eu⟩ := List.mem_map.mp hm2
        have := L.inj mu mt' ((congrArg (·.1) eu).trans et'.symm)
        subst this
        cases eu
        intro p4 np4
        have h4 := upd_old (u := .lst []) h3 np4
        have hq4 := upd_old (u := .lst []) hq3 np4
        have hq24 := upd_old (u := .lst []) hq2 np4
        have S4 := S3.step np4 (u := .lst [])
        revert h4 hq4 hq24 S4
        generalize upd H3 p4 (.lst []) = H4
        intro h4 hq4 hq24 S4
        refine ⟨D, rfl, _, by rw [h4]; rfl, by rw [h4]; rfl, ?_⟩
        rw [if_neg (by simp)]
        simp! [h4, hq4, hq24]
        refine ⟨rfl, rfl, ?_⟩
        have ee : eqVs [V.int u.2.1.length, V.int u.2.2.length] [V.int u.2.1.length, V.int u.2.2.length] = true := by simp [eqVs, eqV]
        rw [ee]
        exact q _ S4
      · rcases hy with ⟨_, rfl⟩ | ⟨t', mt', et', _⟩
        case inr => exact absurd et' (hno _ (List.mem_map.mpr ⟨t', mt', rfl⟩))
        refine ⟨_, rfl, ?_⟩
        rw [if_neg (by decide)]
        intro p np
        have h3 := upd_old (u := .lst []) h2 np
        have S3 := S.step np (u := .lst [])
        have Y3 := Y.same S3
        revert h3 S3 Y3
        generalize upd H2 p (.lst []) = H3
        intro h3 S3 Y3
        refine ⟨D, rfl, _, by rw [h3]; rfl, by rw [h3]; rfl, rfl, ?_⟩
        rw [if_neg (fun n => n rfl)]
        refine ⟨y.dx, _, Y3.ins, yF_meth.2.2.1, y, z, f, _, _, rfl, Y3, lz, fun hh mm q2 hm2 hq2 => absurd rfl (hno _ hm2), fun hn => ⟨a.c_NoThing, m1', rfl, fun ea he => ?_⟩⟩
        subst hT
        have hE : upd H3 ea (excO a.c_NoThing ea) ea = some (excO a.c_NoThing ea) := upd_same
        have SE : Same H (upd H3 ea (excO a.c_NoThing ea)) := S3.step he
        have hDE := upd_old (u := excO a.c_NoThing ea) h3 he
        revert hE SE hDE
        generalize upd H3 ea (excO a.c_NoThing ea) = H4
        intro hE SE hDE
        simp! [goneD]
        refine ⟨ea, _, hE, m1', .inl ⟨rfl, m1', ?_⟩⟩
        rw [if_pos (.inl rfl)]
        refine ⟨ea, _, hE, m1', rfl, fun p2 np2 => ⟨ea, _, upd_old hE np2, m1', .inr ⟨rfl, [a.c_NoSpot, a.c_NoText, a.c_NotFormed, a.c_NoTable, a.c_Faulty], rfl, fun d hd => ?_, ?_⟩⟩⟩
        · simp only [List.mem_cons, List.not_mem_nil, or_false] at hd ⊢
          rcases hd with h | h | h | h | h <;> simp [h]
        have an : ([a.c_NoSpot, a.c_NoText, a.c_NotFormed, a.c_NoTable, a.c_Faulty].any fun d => decide (a.c_NoThing = d ∨ d = a.c_HoldError)) = false := by
          simp only [List.any_cons, List.any_nil, Bool.or_false, Bool.or_eq_false_iff, decide_eq_false_iff_not, not_or]
          refine ⟨⟨?_, ?_⟩, ⟨?_, ?_⟩, ⟨?_, ?_⟩, ⟨?_, ?_⟩, ?_, ?_⟩
          all_goals
            intro e
            rw [e] at nd
            simp at nd
        rw [an]
        have SF := SE.step np2 (u := .tup [.ref a.c_NoSpot, .ref a.c_NoText, .ref a.c_NotFormed, .ref a.c_NoTable, .ref a.c_Faulty])
        have hF := upd_old (u := .tup [.ref a.c_NoSpot, .ref a.c_NoText, .ref a.c_NotFormed, .ref a.c_NoTable, .ref a.c_Faulty]) hDE np2
        revert SF hF
        generalize upd H4 p2 _ = H5
        intro SF hF p3 np3
        have hF3 := upd_old (u := .lst []) hF np3
        refine ⟨_, by rw [hF3]; rfl, by rw [hF3]; rfl, ?_⟩
        rw [if_pos (by decide)]
        exact q _ (SF.step np3)

end
section
variable {P : Program} {w : World} {K : PySem.W.Frag} {mg : Str → Option Value} {base : Heap} {a : Ad}

def sp_nospot (C : Addr) : Sp := fun vs H Q _ => ∃ (y : Yd) (ts : List Th) (s f z wy : Int), vs = [.ref y.p, .int z, .int wy] ∧ YardAt C H y (wordAt ts) (ts.map thTri) f ∧ ts.length ≤ 1000 ∧ z.natAbs.log2 < 1920 ∧ (wordAt ts z = none ∨ wy ≠ 0 ∧ ∃ t ∈ ts, t.1 = z) ∧ ∀ H', Same H H' → Q (.bl true) H'
set_option maxHeartbeats 4000000 in
theorem ok_law_no_spot (T : Txt K mg a) : FnOk P w K mg base (CX1 P w) 2 a.f_law_no_spot a.d_law_no_spot ["yard", "spot", "way"] (sp_nospot a.c_Yard) := by
  refine T.F_law_no_spot.okC sc_law_no_spot (fun vs H Q E h => ?_) (fun cdv A outer s H vs Q E hr h => ?_)
  · obtain ⟨y, ts, s, f, z, wy, rfl, _⟩ := h
    rfl
  · obtain ⟨y, ts, s, f, z, wy, rfl, Y, lt, lz, no, q⟩ := h
    have hu := hu_of hr
    refine ⟨_, (pss_cons (ps_set (i := 3) sc_law_no_spot.nd (by rfl) (Or.inl rfl) pe_bl)
      (pss_cons (ps_tryAs (i := 4) T.xt (by rfl) T.m_HoldError (by rfl) (by rfl) sc_law_no_spot.nd (by rfl) (by rfl) (fun pn_ W_ R_ hW_ => (pss_one (ps_if (pt_cmpR op_eq (pv 2) pe_int (nomark _)) (pss_one (ps_expr (pe_methE (pv 0) T.cl_Yard T.M_Yard_word (ok_Yard_word T) (hr.mono (by decide)) T.b_Yard_word .nil hW_ (pa_cons (pv 1) pa_nil)))) (pss_one (ps_expr (pe_methE (pv 0) T.cl_Yard T.M_Yard_set_word (ok_Yard_set_word T) (hr.mono (by decide)) T.b_Yard_set_word .nil hW_ (pa_cons (pv 1) (pa_cons pe_int pa_nil)))))))) (fun e_ => (pss_cons (ps_set (i := 3) sc_law_no_spot.nd (by rfl) (Or.inl rfl) (pe_and (pe_callB (call_isX T.xt) (by rfl) T.z_isinstance (by decide +kernel) (pa_cons (pv 4) (pa_cons (pe_glob (v := .ref a.c_NoSpot) (by rfl) T.m_NoSpot (by rfl)) pa_nil))) (pe_one (pe_callB (call_isX T.xt) (by rfl) T.z_isinstance (by decide +kernel) (pa_cons (pv 4) (pa_cons (pe_bltn (v := .ty "ValueError") (u := .type "ValueError") (by rfl) T.z_ValueError (by decide +kernel) (by rfl)) pa_nil))))))
      (pss_one (ps_set (i := 3) sc_law_no_spot.nd (by rfl) (Or.inl rfl) (pe_and (pv 3) (pe_one (pe_not (pe_callB (call_isX T.xt) (by rfl) T.z_isinstance (by decide +kernel) (pa_cons (pv 4) (pa_cons (pe_tup (pa_cons (pe_glob (v := .ref a.c_NoThing) (by rfl) T.m_NoThing (by rfl)) (pa_cons (pe_glob (v := .ref a.c_NoText) (by rfl) T.m_NoText (by rfl)) (pa_cons (pe_glob (v := .ref a.c_NotFormed) (by rfl) T.m_NotFormed (by rfl)) (pa_cons (pe_glob (v := .ref a.c_NoTable) (by rfl) T.m_NoTable (by rfl)) (pa_cons (pe_glob (v := .ref a.c_Faulty) (by rfl) T.m_Faulty (by rfl)) pa_nil)))))) pa_nil)))))))))))
      (pss_one (ps_ret (pv 3))))), ?_⟩
    generalize hT : tSeq (tAsg _ (gName 3)) (tAsg _ (gName 3)) = th
    have ins := Y.ins
    have nd := T.xt.nd
    have m1' : a.c_NoSpot ∈ [a.c_HoldError, a.c_NoSpot, a.c_NoThing, a.c_NoText, a.c_NotFormed, a.c_NoTable, a.c_Faulty] := by simp
    by_cases c : wy = 0
    · have w0 : wordAt ts z = none := by
        rcases no with h | ⟨h, _⟩
        · exact h
        · exact absurd c h
      simp! [c]
      refine ⟨y.dx, _, ins, yF_meth.2.2.2.1, y, z, f, _, _, rfl, Y, lz, fun x hx => absurd (w0.symm.trans hx) (by simp), fun _ => ⟨a.c_NoSpot, m1', rfl, fun ea he => ?_⟩⟩
      subst hT
      have hE : upd H ea (excO a.c_NoSpot ea) ea = some (excO a.c_NoSpot ea) := upd_same
      have SE : Same H (upd H ea (excO a.c_NoSpot ea)) := .laid he
      revert hE SE
      generalize upd H ea (excO a.c_NoSpot ea) = H4
      intro hE SE
      simp! [goneD]
      refine ⟨ea, _, hE, m1', .inl ⟨rfl, m1', ?_⟩⟩
      rw [if_pos (.inl rfl)]
      refine ⟨ea, _, hE, m1', rfl, fun p2 np2 => ⟨ea, _, upd_old hE np2, m1', .inr ⟨rfl, [a.c_NoThing, a.c_NoText, a.c_NotFormed, a.c_NoTable, a.c_Faulty], rfl, fun d hd => ?_, ?_⟩⟩⟩
      · simp only [List.mem_cons, List.not_mem_nil, or_false] at hd ⊢
        rcases hd with h | h | h | h | h <;> simp [h]
      have an : ([a.c_NoThing, a.c_NoText, a.c_NotFormed, a.c_NoTable, a.c_Faulty].any fun d => decide (a.c_NoSpot = d ∨ d = a.c_HoldError)) = false := by
        simp only [List.any_cons, List.any_nil, Bool.or_false, Bool.or_eq_false_iff, decide_eq_false_iff_not, not_or]
        refine ⟨⟨?_, ?_⟩, ⟨?_, ?_⟩, ⟨?_, ?_⟩, ⟨?_, ?_⟩, ?_, ?_⟩
        all_goals
          intro e
          rw [e] at nd
          simp at nd
      rw [an]
      exact q _ (SE.step np2)
    · have w0 : wordAt ts z = none ∨ ∃ t ∈ ts.map thTri, t.1 = z := by
        rcases no with h | ⟨_, t, ht, e⟩
        · exact .inl h
        · exact .inr ⟨thTri t, List.mem_map.mpr ⟨t, ht, rfl⟩, e⟩
      simp! [c]
      refine ⟨y.dx, _, ins, yF_meth.2.2.2.2.1, y, z, 7, f, _, _, rfl, Y, by rw [List.length_map]; exact lt, lz, fun x H' hx h2 => ?_, fun _ => ⟨a.c_NoSpot, m1', rfl, fun ea he => ?_⟩⟩
      · rcases w0 with h | ⟨t, ht, e⟩
        · exact absurd (h.symm.trans hx) (by simp)
        · exact absurd e (h2 t ht)
      subst hT
      have hE : upd H ea (excO a.c_NoSpot ea) ea = some (excO a.c_NoSpot ea) := upd_same
      have SE : Same H (upd H ea (excO a.c_NoSpot ea)) := .laid he
      revert hE SE
      generalize upd H ea (excO a.c_NoSpot ea) = H4
      intro hE SE
      simp! [goneD]
      refine ⟨ea, _, hE, m1', .inl ⟨rfl, m1', ?_⟩⟩
      rw [if_pos (.inl rfl)]
      refine ⟨ea, _, hE, m1', rfl, fun p2 np2 => ⟨ea, _, upd_old hE np2, m1', .inr ⟨rfl, [a.c_NoThing, a.c_NoText, a.c_NotFormed, a.c_NoTable, a.c_Faulty], rfl, fun d hd => ?_, ?_⟩⟩⟩
      · simp only [List.mem_cons, List.not_mem_nil, or_false] at hd ⊢
        rcases hd with h | h | h | h | h <;> simp [h]
      have an : ([a.c_NoThing, a.c_NoText, a.c_NotFormed, a.c_NoTable, a.c_Faulty].any fun d => decide (a.c_NoSpot = d ∨ d = a.c_HoldError)) = false := by
        simp only [List.any_cons, List.any_nil, Bool.or_false, Bool.or_eq_false_iff, decide_eq_false_iff_not, not_or]
        refine ⟨⟨?_, ?_⟩, ⟨?_, ?_⟩, ⟨?_, ?_⟩, ⟨?_, ?_⟩, ?_, ?_⟩
        all_goals
          intro e
          rw [e] at nd
          simp at nd
      rw [an]
      exact q _ (SE.step np2)

end
section
variable {P : Program} {w : World} {K : PySem.W.Frag} {mg : Str → Option Value} {base : Heap} {a : Ad}
theorem none_kp {b l : Addr} {H H1 : Hp} (k : Kp b H H1) (n : H1 l = none) (lb : l ≠ b) : H l = none := by
  cases e : H l with
  | none => rfl
  | some o =>
    have := k l o e lb
    rw [n] at this
    cases this
theorem Kp.new {b l : Addr} {H H2 : Hp} {u : HO} (k : Kp b H H2) (h : H l = none) : Kp b H (upd H2 l u) := fun q o e n => by
  rw [upd_ne (fun z => by rw [z, h] at e; cases e)]
  exact k q o e n
theorem fulls_good {ts : List Th} {s f f0 : Int} {roots ord : List Int} (L : Lay s ts f) (cart : Cart ts roots ord) (nd : ord.Nodup) : GoodH (fulls ts f0 ord) := by
  intro t ht h hh
  obtain ⟨p, hp, rfl⟩ := List.mem_map.mp ht
  unfold fullT at hh
  obtain ⟨z, hz, rfl⟩ := List.mem_map.mp hh
  by_cases c : z = 0
  · left
    unfold mvOf
    rw [if_pos c]
  have mp : p.1 ∈ ord := by
    have := addrs_keys (ts := ts) (ord := ord) (f := f0)
    rw [← this]
    exact List.mem_map.mpr ⟨p, hp, rfl⟩
  have zo : z ∈ ord := by
    have : z ∈ stream ts roots ord := List.mem_append_right _ (List.mem_flatMap.mpr ⟨p.1, mp, hz⟩)
    have := (mem_layO (hs := stream ts roots ord) (ord := [])).mpr (.inr ⟨this, c⟩)
    rw [cart.fix] at this
    exact this
  rw [← addrs_keys (ts := ts) (ord := ord) (f := f0)] at zo
  obtain ⟨p2, hp2, rfl⟩ := List.mem_map.mp zo
  obtain ⟨i, hi⟩ := List.mem_iff_getElem?.mp hp2
  right
  refine ⟨fullT ts (addrs ts f0 ord) p2, List.mem_map.mpr ⟨p2, hp2, rfl⟩, ?_⟩
  show p2.2 = _
  unfold mvOf
  rw [if_neg c, lookup_at (by rw [addrs_keys]; exact nd) hi]
  rfl
theorem fulls_small {ts : List Th} {f : Int} {ord : List Int} (sm : ∀ t ∈ ts, t.2.1.length ≤ 9 ∧ t.2.2.length ≤ 9) : ∀ t ∈ fulls ts f ord, t.2.1.length ≤ 9 ∧ t.2.2.length ≤ 9 := fun t ht => by
  obtain ⟨p, hp, rfl⟩ := List.mem_map.mp ht
  unfold fullT thAt
  cases e : ts.find? fun t => t.1 == p.1 with
  | none => simp
  | some u =>
    have := sm u (List.mem_of_find?_eq_some e)
    simp; omega
theorem fulls_lay {ts : List Th} {f : Int} {ord : List Int} : Lay f (fulls ts f ord) (endOf ts f ord) := by
  have := mix_lay (ts := ts) (f := f) (ord := ord) (i := (addrs ts f ord).length)
  rw [mix_all] at this
  exact this
theorem HsAt.thok {C : Addr} {H : Hp} {h : Hs} (x : HsAt C H h) (l : h.ts.length ≤ 500) (f1 : h.f ≤ 10 ^ 60 + 10 ^ 9) : ThOk h.ts := ⟨by omega, x.small, fun t ht => by
  have a1 := x.lay.mem ht
  have a2 := thSz_pos t
  have a3 := x.s0
  refine log_small' ?_
  have p : (10 : Int) ^ 60 + 10 ^ 9 < 10 ^ 61 := by decide
  have e : ((10 ^ 61 : Nat) : Int) = 10 ^ 61 := by decide
  have b : t.1.natAbs < 10 ^ 61 := by
    rw [← e] at p
    generalize (10 : Nat) ^ 61 = N at *
    omega
  exact Nat.lt_trans b (by decide)⟩

def sp_casked (C : Addr) : Sp := fun vs H Q _ => ∃ (y : Yd) (tl rl : Addr) (as : List (Addr × Addr × Addr)) (ts : List Th) (s f : Int) (roots : List Int), vs = [.ref y.p, .ref tl, .ref rl, .int f] ∧ YardAt C H y (wordAt ts) (ts.map thTri) f ∧ RowsAt HO.lst H tl as ts ∧ Lay s ts f ∧ ThOk ts ∧ H rl = some (.lst (roots.map V.int)) ∧ CartOk ts f roots ∧ f ≤ 10 ^ 60 + 10 ^ 9 ∧ ∀ H', Same H H' → Q (.bl true) H'
theorem full_log {ts : List Th} {f : Int} {ord : List Int} (sm : ∀ t ∈ ts, t.2.1.length ≤ 9 ∧ t.2.2.length ≤ 9) (f0 : 0 ≤ f) (f1 : f ≤ 10 ^ 60 + 10 ^ 9) (lo : ord.length ≤ 1000) : ∀ t ∈ fulls ts f ord, t.2.1.length ≤ 9 ∧ t.2.2.length ≤ 9 ∧ t.1.natAbs.log2 < 1920 := fun t ht => by
  have := fulls_small sm t ht
  refine ⟨this.1, this.2, ?_⟩
  have a1 := (fulls_lay (ts := ts) (f := f) (ord := ord)).mem ht
  have a2 := thSz_pos t
  have a3 := endOf_le sm (ord := ord) (f := f)
  refine log_small' ?_
  have p : (10 : Int) ^ 60 + 10 ^ 9 + 19000 < 10 ^ 61 := by decide
  have e : ((10 ^ 61 : Nat) : Int) = 10 ^ 61 := by decide
  have b : t.1.natAbs < 10 ^ 61 := by
    rw [← e] at p
    generalize (10 : Nat) ^ 61 = N at *
    omega
  exact Nat.lt_trans b (by decide)
set_option maxHeartbeats 4000000 in
theorem ok_law_carted_asked (T : Txt K mg a) : FnOk P w K mg base (CX1 P w) 5 a.f_law_carted_asked a.d_law_carted_asked ["yard", "things", "roots", "free"] (sp_casked a.c_Yard) := by
  refine T.F_law_carted_asked.okC sc_law_carted_asked (fun vs H Q E h => ?_) (fun cdv A outer s H vs Q E hr h => ?_)
  · obtain ⟨y, tl, rl, as, ts, s, f, roots, rfl, _⟩ := h
    rfl
  · obtain ⟨y, tl, rl, as, ts, s, f, roots, rfl, Y, R, L, ok, hrl, co, f1, q⟩ := h
    have hu := hu_of hr
    have lts := ok.len
    refine ⟨_, (pss_cons (ps_set (i := 4) sc_law_carted_asked.nd (by rfl) (Or.inl rfl) (pe_call (ok_law_carted T) (hr.mono (by decide)) (by rfl) T.m_law_carted T.F_law_carted.kp T.b_law_carted .nil pass1 (pa_cons (pv 1) (pa_cons (pv 2) (pa_cons (pv 3) pa_nil)))))
      (pss_cons (ps_set (i := 5) sc_law_carted_asked.nd (by rfl) (Or.inl rfl) pe_bl)
      (pss_cons (ps_set (i := 6) sc_law_carted_asked.nd (by rfl) (Or.inl rfl) pe_non)
      (pss_cons (ps_tryAs (i := 7) T.xt (by rfl) T.m_HoldError (by rfl) (by rfl) sc_law_carted_asked.nd (by rfl) (by rfl) (fun pn_ W_ R_ hW_ => (pss_one (ps_set (i := 6) sc_law_carted_asked.nd (by rfl) (Or.inl rfl) (pe_callE (ok_carted T) (hr.mono (by decide)) (by rfl) T.m_carted T.F_carted.kp T.b_carted .nil hW_ (pa_cons (pv 0) (pa_cons (pe_callTy (call_list_ofK (K := K) (by rfl)) (by rfl) T.z_list (by decide +kernel) (pa_cons (pv 2) pa_nil)) pa_nil)))))) (fun e_ => (pss_cons (ps_set (i := 5) sc_law_carted_asked.nd (by rfl) (Or.inl rfl) (pe_and (pe_callB (call_isX T.xt) (by rfl) T.z_isinstance (by decide +kernel) (pa_cons (pv 7) (pa_cons (pe_glob (v := .ref a.c_NoThing) (by rfl) T.m_NoThing (by rfl)) pa_nil))) (pe_one (pe_callB (call_isX T.xt) (by rfl) T.z_isinstance (by decide +kernel) (pa_cons (pv 7) (pa_cons (pe_bltn (v := .ty "ValueError") (u := .type "ValueError") (by rfl) T.z_ValueError (by decide +kernel) (by rfl)) pa_nil))))))
      (pss_one (ps_set (i := 5) sc_law_carted_asked.nd (by rfl) (Or.inl rfl) (pe_and (pv 5) (pe_one (pe_not (pe_callB (call_isX T.xt) (by rfl) T.z_isinstance (by decide +kernel) (pa_cons (pv 7) (pa_cons (pe_tup (pa_cons (pe_glob (v := .ref a.c_NoSpot) (by rfl) T.m_NoSpot (by rfl)) (pa_cons (pe_glob (v := .ref a.c_NoText) (by rfl) T.m_NoText (by rfl)) (pa_cons (pe_glob (v := .ref a.c_NotFormed) (by rfl) T.m_NotFormed (by rfl)) (pa_cons (pe_glob (v := .ref a.c_NoTable) (by rfl) T.m_NoTable (by rfl)) (pa_cons (pe_glob (v := .ref a.c_Faulty) (by rfl) T.m_Faulty (by rfl)) pa_nil)))))) pa_nil)))))))))))
      (pss_cons (ps_if (pt_cmp (pc_isN (pv 4))) (pss_one (ps_ret (pv 5))) pss_nil)
      (pss_cons (ps_if (PW.pt (pw_or (pt_cmp (pc_isN (pv 6))) (pw_or (pt_not (pt_val (pe_callB call_isF (by rfl) T.z_isinstance (by decide +kernel) (pa_cons (pv 6) (pa_cons (pe_bltn (v := .ty "tuple") (u := .type "tuple") (by rfl) T.z_tuple (by decide +kernel) (by rfl)) pa_nil))))) (pw_or1 (pt_cmpR op_ne (pe_callB call_lenF (by rfl) T.z_len (by decide +kernel) (pa_cons (pv 6) pa_nil)) pe_int (nomark _)))))) (pss_one (ps_ret pe_bl)) pss_nil)
      (pss_cons (ps_if (PW.pt (pw_or (pt_not (pt_val (pe_call (ok_law_pairs T) (hr.mono (by decide)) (by rfl) T.m_law_pairs T.F_law_pairs.kp T.b_law_pairs .nil pass1 (pa_cons (pe_ix ix_F (pv 6) pe_int (fun _ _ => rfl)) (pa_cons (pe_ix ix_F (pv 4) pe_int (fun _ _ => rfl)) pa_nil))))) (pw_or1 (pt_not (pt_val (pe_call (ok_law_told T) (hr.mono (by decide)) (by rfl) T.m_law_told T.F_law_told.kp T.b_law_told .nil pass1 (pa_cons (pe_meth0 (pe_ix ix_F (pv 6) pe_int (fun _ _ => rfl)) T.cl_Yard T.M_Yard_told (ok_Yard_told T) (hr.mono (by decide)) T.b_Yard_told .nil pass1) (pa_cons (pe_ix ix_F (pv 4) pe_int (fun _ _ => rfl)) pa_nil)))))))) (pss_one (ps_ret pe_bl)) pss_nil)
      (pss_one (ps_ret (pe_cmpR op_eq (pe_fld (pe_ix ix_F (pv 6) pe_int (fun _ _ => rfl)) (by rfl)) (pe_ix ix_F (pv 4) pe_int (fun _ _ => rfl)) (nomark _))))))))))), ?_⟩
    generalize hT : tSeq (tAsg _ (gName 5)) (tAsg _ (gName 5)) = th
    generalize hG : tSeq (tIfS (tB (tIsN (tVar 4))) _ _) _ = tail
    have nd := T.xt.nd
    have m1' : a.c_NoThing ∈ [a.c_HoldError, a.c_NoSpot, a.c_NoThing, a.c_NoText, a.c_NotFormed, a.c_NoTable, a.c_Faulty] := by simp
    simp! []
    refine ⟨tl, rl, as, ts, s, f, f, roots, rfl, R, L, ok, hrl, co, fun H1 bad S1 => ?_, fun r dl pl prs bs ord H1 gd ct hr1 RD1 PR1 S1 _ _ _ => ?_⟩
    · have hrl1 := S1 _ _ hrl
      simp! [tCallE]
      refine ⟨_, .inl (.of hrl1), fun l nl => ?_⟩
      have S2 := S1.step nl (u := .lst (roots.map V.int))
      have hl2 : upd H1 l (.lst (roots.map V.int)) l = some (.lst (roots.map V.int)) := upd_same
      revert S2 hl2
      generalize upd H1 l (.lst (roots.map V.int)) = H2
      intro S2 hl2
      refine ⟨y, l, ts, s, f, roots, rfl, Y.same S2, L, ok, hl2, co, fun H3 _ S3 => ⟨a.c_NoThing, m1', rfl, fun ea he => ?_⟩, fun r yf pl prs ord H3 gd ct => (bad_not bad ct gd).elim⟩
      subst hT
      have hE : upd H3 ea (excO a.c_NoThing ea) ea = some (excO a.c_NoThing ea) := upd_same
      have SE : Same H (upd H3 ea (excO a.c_NoThing ea)) := (S2.trans S3).step he
      revert hE SE
      generalize upd H3 ea (excO a.c_NoThing ea) = H4
      intro hE SE
      simp! [goneD]
      refine ⟨ea, _, hE, m1', .inl ⟨rfl, m1', ?_⟩⟩
      rw [if_pos (.inl rfl)]
      refine ⟨ea, _, hE, m1', rfl, fun p2 np2 => ⟨ea, _, upd_old hE np2, m1', .inr ⟨rfl, [a.c_NoSpot, a.c_NoText, a.c_NotFormed, a.c_NoTable, a.c_Faulty], rfl, fun d hd => ?_, ?_⟩⟩⟩
      · simp only [List.mem_cons, List.not_mem_nil, or_false] at hd ⊢
        rcases hd with h | h | h | h | h <;> simp [h]
      have an : ([a.c_NoSpot, a.c_NoText, a.c_NotFormed, a.c_NoTable, a.c_Faulty].any fun d => decide (a.c_NoThing = d ∨ d = a.c_HoldError)) = false := by
        simp only [List.any_cons, List.any_nil, Bool.or_false, Bool.or_eq_false_iff, decide_eq_false_iff_not, not_or]
        refine ⟨⟨?_, ?_⟩, ⟨?_, ?_⟩, ⟨?_, ?_⟩, ⟨?_, ?_⟩, ?_, ?_⟩
        all_goals
          intro e
          rw [e] at nd
          simp at nd
      rw [an]
      subst hG
      simp! []
      exact q _ (SE.step np2)
    · have hrl1 := S1 _ _ hrl
      simp! [tCallE]
      refine ⟨_, .inl (.of hrl1), fun l nl => ?_⟩
      have S12 : Same H1 (upd H1 l (.lst (roots.map V.int))) := .laid nl
      have S2 := S1.step nl (u := .lst (roots.map V.int))
      have hl2 : upd H1 l (.lst (roots.map V.int)) l = some (.lst (roots.map V.int)) := upd_same
      revert S2 hl2 S12
      generalize upd H1 l (.lst (roots.map V.int)) = H2
      intro S12 S2 hl2
      refine ⟨y, l, ts, s, f, roots, rfl, Y.same S2, L, ok, hl2, co, fun H3 bad _ => (bad_not bad ct gd).elim, fun r5 yf pl5 prs5 ord5 H5 gd5 ct5 nd5 th5 hr5 Y5 PR5 S5 n1 n2 n3 n4 => ?_⟩
      have eo : ord5 = ord := ct5.uniq ct
      subst eo
      have S15 := S12.trans S5
      have hr15 := S15 _ _ hr1
      have oln := nodup_len nd5 th5
      subst hG
      simp! [hr5, hr15]
      rw [if_neg (fun h => h rfl)]
      have PRd := PR1.fr (M := fun _ => False) (.of_same S15) id
      refine ⟨pl5, pl, prs5, prs, addrs ts f ord5, rfl, PR5, PRd, by rw [addrs_len]; omega, fun H6 S6 => ⟨true, rfl, ?_⟩⟩
      rw [if_neg (by simp)]
      have hr56 := S6 _ _ hr5
      have hr16 := S6 _ _ hr15
      have Y6 := Y5.same S6
      have S16 := S15.trans S6
      have lf : (fulls ts f ord5).length ≤ 1000 := by
        unfold fulls
        rw [List.length_map, addrs_len]; omega
      have fl := full_log (ord := ord5) ok.small co.f0 f1 (by omega)
      refine ⟨_, by rw [hr56]; rfl, _, atI_0, yf.p, rfl, yf.dx, _, Y6.ins, yF_meth.2.2.2.2.2.2.2.2, yf, f, _, fulls ts f ord5, rfl, Y6, fulls_lay, lf, fl, fun l7 as7 H7 S7 nl7 R7 => ?_⟩
      have hr17 := S7 _ _ hr16
      refine ⟨_, by rw [hr17]; rfl, _, atI_0, l7, dl, as7, bs, fulls ts f ord5, rfl, R7, RD1.same (S16.trans S7), lf, fun t ht => ⟨(fl t ht).1, (fl t ht).2.1⟩, fun H8 S8 => ⟨true, rfl, ?_⟩⟩
      rw [if_neg (by simp)]
      have hr18 := S8 _ _ hr17
      have hr58 := S8 _ _ (S7 _ _ hr56)
      have Y8 := (Y6.same S7).same S8
      have i8 := Y8.ins
      simp! [hr18, hr58, i8, T.cl_Yard, T.n_free, yF_free, yF_len]
      exact q _ ((((S1.trans S15).trans S6).trans S7).trans S8)

end
section
variable {P : Program} {w : World} {K : PySem.W.Frag} {mg : Str → Option Value} {base : Heap} {a : Ad}
theorem thAt_i {C : Addr} {H : Hp} {h : Hs} (x : HsAt C H h) {i : Nat} {t : Th} (ht : h.ts[i]? = some t) : ∃ bb : Addr × Addr × Addr, H h.tl = some (.lst (h.as.map fun a => V.ref a.1)) ∧ atI (h.as.map fun a => V.ref a.1) ((i : Nat) : Int) = some (V.ref bb.1) ∧ H bb.1 = some (.tup [.int t.1, .ref bb.2.1, .ref bb.2.2]) ∧ H bb.2.1 = some (.lst (t.2.1.map V.int)) ∧ H bb.2.2 = some (.lst (t.2.2.map V.int)) := by
  obtain ⟨bb, hbb, r1, r2, r3⟩ := x.rows.at_ ht
  exact ⟨bb, x.rows.top, atI_nat (by rw [List.getElem?_map, hbb]; rfl), r1, r2, r3⟩
theorem HsAt.setf {C : Addr} {H H' : Hp} {h : Hs} {ts' : List Th} (x : HsAt C H h) (Y : YardAt C H' h.yd (wordAt ts') (ts'.map thTri) h.f) (R : RowsAt HO.lst H' h.tl h.as ts') (em : ts'.map thTri = h.ts.map thTri) (F : Fr (fun q => q = h.yd.dw ∨ q ∈ lsOf h.as) H H') (gd : HLog ts') : HsAt C H' { h with ts := ts' } := by
  refine ⟨Y, R, Lay.of_tri em.symm x.lay, fun t ht => ?_, gd, x.s0, x.nd⟩
  · have : thTri t ∈ h.ts.map thTri := by rw [← em]; exact List.mem_map.mpr ⟨t, ht, rfl⟩
    obtain ⟨u, hu, eu⟩ := List.mem_map.mp this
    have := x.small u hu
    simp [thTri] at eu
    omega

theorem HLog.set {ts : List Th} {k j : Nat} {t : Th} {v : Int} (g : HLog ts) (hk : ts[k]? = some t) (hv : v.natAbs.log2 < 1920) : HLog (ts.set k (setF t j v)) := by
  intro u hu h hh
  rcases List.mem_or_eq_of_mem_set hu with m | e
  · exact g u m h hh
  · subst e
    have mt := List.mem_of_getElem? hk
    unfold setF at hh
    split at hh
    · rcases List.mem_or_eq_of_mem_set hh with m | e
      · exact g t mt h m
      · rw [e]; exact hv
    · exact g t mt h hh
/-- a house whose fields were set -/
structure Sk (C b c : Addr) (cs : List Int) (H : Hp) (h : Hs) (ts' : List Th) (H' : Hp) : Prop where
  at_ : HsAt C H' { h with ts := ts' }
  bag : BagAt H' b c cs
  em : ts'.map thTri = h.ts.map thTri
  fr : Fr (fun q => q = b ∨ q ∈ h.ow) H H'
theorem mem_ow {q : Addr} {h : Hs} : q ∈ h.ow ↔ q = h.yd.p ∨ q = h.yd.dw ∨ q = h.yd.ds ∨ q = h.tl ∨ q ∈ lsOf h.as := by unfold Hs.ow; simp only [List.mem_cons]
section
variable {C b c : Addr} {cs : List Int} {H H' H2 : Hp} {h : Hs} {ts' ts2 : List Th}
theorem Sk.drawn (x : Sk C b c cs H h ts' H') (nb : b ∉ h.ow) (B : BagAt H2 b c cs) (k : Kp b H' H2) : Sk C b c cs H h ts' H2 :=
  ⟨x.at_.fr (x.bag.kfr k) (fun q hq e => nb (e ▸ hq)), B, x.em, x.fr.trans ((x.bag.kfr k).mono fun q m => .inl m)⟩
theorem Sk.same (x : Sk C b c cs H h ts' H') (S : Same H' H2) : Sk C b c cs H h ts' H2 := ⟨x.at_.same S, x.bag.keep S, x.em, x.fr.trans (.of_same S)⟩
theorem Sk.len (x : Sk C b c cs H h ts' H') : ts'.length = h.ts.length := by have := congrArg List.length x.em; simpa using this
theorem Sk.setf (x : Sk C b c cs H h ts' H') (nb : b ∉ h.ow) (nc : c ∉ h.ow) (Y : YardAt C H2 h.yd (wordAt ts2) (ts2.map thTri) h.f) (R : RowsAt HO.lst H2 h.tl h.as ts2) (em : ts2.map thTri = ts'.map thTri) (F : Fr (fun q => q = h.yd.dw ∨ q ∈ lsOf h.as) H' H2) (gd : HLog ts2) : Sk C b c cs H h ts2 H2 := by
  have io : ∀ q, q = h.yd.dw ∨ q ∈ lsOf h.as → q ∈ h.ow := fun q m => mem_ow.mpr (by rcases m with m | m <;> simp [m])
  exact ⟨x.at_.setf (ts' := ts2) Y R em F gd, x.bag.fr' F (fun m => nb (io _ m)) (fun m => nc (io _ m)), em.trans x.em, x.fr.trans (F.mono fun q m => .inr (io q m))⟩
end
/-- what is to be put right again -/
structure UnAt (H : Hp) (ul : Addr) (ps : List Addr) (us : List (Nat × Nat × Int)) : Prop where
  top : H ul = some (.lst (ps.map V.ref))
  len : ps.length = us.length
  row : ∀ (i : Nat) (p : Addr) (u : Nat × Nat × Int), ps[i]? = some p → us[i]? = some u → H p = some (.tup [.int u.1, .int u.2.1, .int u.2.2])
def UnOk (ts : List Th) (us : List (Nat × Nat × Int)) : Prop := ∀ u ∈ us, ∃ t, ts[u.1]? = some t ∧ u.2.1 < t.2.1.length ∧ u.2.2.natAbs.log2 < 1920
theorem UnOk.tri {ts ts' : List Th} {us : List (Nat × Nat × Int)} (x : UnOk ts us) (em : ts'.map thTri = ts.map thTri) : UnOk ts' us := fun u hu => by
  obtain ⟨t, ht, h2, h3⟩ := x u hu
  have e := congrArg (·[u.1]?) em
  simp only [List.getElem?_map, ht] at e
  cases e2 : ts'[u.1]? with
  | none => rw [e2] at e; cases e
  | some t' =>
    rw [e2] at e
    simp [thTri] at e
    exact ⟨t', rfl, by omega, h3⟩
def sp_bad : Sp := fun vs H Q _ => ∃ (b c : Addr) (cs : List Int) (low st fr : Int), vs = [.ref b, .int low, .int st, .int fr] ∧ BagAt H b c cs ∧ 0 ≤ low ∧ low ≤ st ∧ st ≤ fr ∧ fr ≤ 10 ^ 60 + 10 ^ 9 ∧ ∀ (r : Int) (H' : Hp), r.natAbs ≤ 10 ^ 61 → BagAt H' b c cs → Kp b H H' → Q (.int r) H'
theorem big_log {r : Int} (h : r.natAbs ≤ 10 ^ 61) : r.natAbs.log2 < 1920 := log_small' (Nat.lt_of_le_of_lt h (by decide))
set_option maxHeartbeats 4000000 in
theorem ok_law_bad (T : Txt K mg a) : FnOk P w K mg base (CX1 P w) 2 a.f_law_bad a.d_law_bad ["bag", "low", "start", "free"] sp_bad := by
  refine T.F_law_bad.okC sc_law_bad (fun vs H Q E h => ?_) (fun cdv A outer s H vs Q E hr h => ?_)
  · obtain ⟨b, c, cs, low, st, fr, rfl, _⟩ := h
    rfl
  · obtain ⟨b, c, cs, low, st, fr, rfl, B, l0, l1, l2, l3, q⟩ := h
    have hu := hu_of hr
    have big : ((10 ^ 61 : Nat) : Int) = 10 * 10 ^ 60 := by decide
    have b6 : (10 : Int) ^ 9 + 5 < 10 ^ 60 := by decide
    have b7 : (10 : Int) ^ 60 * 3 ≤ 10 ^ 70 := by decide
    have CP60 : CPow 10 60 := ⟨by decide, by decide, by decide⟩
    have e60 : (10 : Int) ^ Int.toNat 60 = 10 ^ 60 := rfl
    refine ⟨_, (pss_cons (ps_set (i := 4) sc_law_bad.nd (by rfl) (Or.inl rfl) (pe_call (ok_law_draw T) (hr.mono (by decide)) (by rfl) T.m_law_draw T.F_law_draw.kp T.b_law_draw .nil pass1 (pa_cons (pv 0) (pa_cons pe_int pa_nil))))
      (pss_cons (ps_if (pt_cmpR op_eq (pv 4) pe_int (nomark _)) (pss_one (ps_ret (pe_op op_sub (pe_un un_neg pe_int) (pe_call (ok_law_draw T) (hr.mono (by decide)) (by rfl) T.m_law_draw T.F_law_draw.kp T.b_law_draw .nil pass1 (pa_cons (pv 0) (pa_cons (pe_op op_sub (pe_op op_pow pe_int pe_int) pe_int) pa_nil)))))) pss_nil)
      (pss_cons (ps_if (pt_cmpR op_eq (pv 4) pe_int (nomark _)) (pss_one (ps_ret (pe_call (ok_law_draw T) (hr.mono (by decide)) (by rfl) T.m_law_draw T.F_law_draw.kp T.b_law_draw .nil pass1 (pa_cons (pv 0) (pa_cons (pe_op op_pow pe_int pe_int) pa_nil))))) pss_nil)
      (pss_cons (ps_if (pt_cmpR op_eq (pv 4) pe_int (nomark _)) (pss_one (ps_ret (pe_op op_add (pv 1) (pe_call (ok_law_draw T) (hr.mono (by decide)) (by rfl) T.m_law_draw T.F_law_draw.kp T.b_law_draw .nil pass1 (pa_cons (pv 0) (pa_cons (pe_callB (call_max2 (by rfl)) (by rfl) T.z_max (by decide +kernel) (pa_cons pe_int (pa_cons (pe_op op_sub (pv 2) (pv 1)) pa_nil))) pa_nil)))))) pss_nil)
      (pss_one (ps_ret (pe_op op_add (pe_op op_sub (pv 2) pe_int) (pe_call (ok_law_draw T) (hr.mono (by decide)) (by rfl) T.m_law_draw T.F_law_draw.kp T.b_law_draw .nil pass1 (pa_cons (pv 0) (pa_cons (pe_op op_add (pe_op op_sub (pv 3) (pv 2)) pe_int) pa_nil)))))))))), ?_⟩
    simp! []
    refine ⟨b, c, cs, _, rfl, B, by decide, by decide, fun x H1 x0 x1 B1 k1 => ?_⟩
    simp! []
    refine ite2 (fun c0 => ?_) fun c0 => ?_
    · refine ⟨CP60, b, c, cs, _, rfl, B1, by decide, by decide, fun y H2 y0 y1 B2 k2 => ?_⟩
      rw [e60] at y1
      simp! []
      refine q _ _ ?_ B2 (k1.trans k2)
      generalize (10 : Int) ^ 60 = N at *
      generalize (10 : Nat) ^ 61 = M at *
      omega
    refine ite2 (fun c1 => ?_) fun c1 => ?_
    · refine ⟨CP60, b, c, cs, _, rfl, B1, by decide, by decide, fun y H2 y0 y1 B2 k2 => ?_⟩
      rw [e60] at y1
      refine q _ _ ?_ B2 (k1.trans k2)
      generalize (10 : Int) ^ 60 = N at *
      generalize (10 : Nat) ^ 61 = M at *
      omega
    refine ite2 (fun c2 => ?_) fun c2 => ?_
    · refine ⟨b, c, cs, _, rfl, B1, ?_, ?_, fun y H2 y0 y1 B2 k2 => ?_⟩
      · split <;> omega
      · split
        · generalize (10 : Int) ^ 60 = N at *
          generalize (10 : Int) ^ 70 = M at *
          omega
        · decide
      simp! []
      refine q _ _ ?_ B2 (k1.trans k2)
      split at y1
      all_goals
        generalize (10 : Int) ^ 60 = N at *
        generalize (10 : Nat) ^ 61 = M at *
        omega
    · refine ⟨b, c, cs, _, rfl, B1, by omega, ?_, fun y H2 y0 y1 B2 k2 => ?_⟩
      · generalize (10 : Int) ^ 60 = N at *
        generalize (10 : Int) ^ 70 = M at *
        omega
      simp! []
      refine q _ _ ?_ B2 (k1.trans k2)
      generalize (10 : Int) ^ 60 = N at *
      generalize (10 : Nat) ^ 61 = M at *
      omega

end
section
variable {P : Program} {w : World} {K : PySem.W.Frag} {mg : Str → Option Value} {base : Heap} {a : Ad}

theorem none_fr {M : Addr → Prop} {H H' : Hp} {q : Addr} (F : Fr M H H') (n : H' q = none) (m : ¬ M q) : H q = none := by
  cases e : H q with
  | none => rfl
  | some o => have := F.keep q o e m; rw [n] at this; cases this
def sp_spoilt (C : Addr) : Sp := fun vs H Q _ => ∃ (b c : Addr) (cs : List Int) (h : Hs) (low : Int), vs = [.ref b, .ref h.yd.p, .ref h.tl, .int low, .int h.s] ∧ BagAt H b c cs ∧ HsAt C H h ∧ b ∉ h.ow ∧ c ∉ h.ow ∧ h.ts.length ≤ 480 ∧ h.f ≤ 10 ^ 60 + 10 ^ 8 ∧ 0 ≤ low ∧ low ≤ h.s ∧
  ∀ (ts' : List Th) (ul : Addr) (ps : List Addr) (us : List (Nat × Nat × Int)) (H' : Hp), Sk C b c cs H h ts' H' → UnAt H' ul ps us → UnOk h.ts us → us.length ≤ 4 → H ul = none → Q (.ref ul) H'
set_option maxHeartbeats 4000000 in
theorem ok_law_spoilt (T : Txt K mg a) : FnOk P w K mg base (CX1 P w) 4 a.f_law_spoilt a.d_law_spoilt ["bag", "yard", "things", "low", "start"] (sp_spoilt a.c_Yard) := by
  refine T.F_law_spoilt.okC sc_law_spoilt (fun vs H Q E h => ?_) (fun cdv A outer s H vs Q E hr h => ?_)
  · obtain ⟨b, c, cs, h, low, rfl, _⟩ := h
    rfl
  · obtain ⟨b, c, cs, h, low, rfl, B, X, nb, nc, lts, f1, l0, l1, q⟩ := h
    have hu := hu_of hr
    refine ⟨_, (pss_cons (ps_set (i := 5) sc_law_spoilt.nd (by rfl) (Or.inl rfl) (pe_call (ok_law_free T) (hr.mono (by decide)) (by rfl) T.m_law_free T.F_law_free.kp T.b_law_free .nil pass1 (pa_cons (pv 4) (pa_cons (pv 2) pa_nil))))
      (pss_cons (ps_set (i := 6) sc_law_spoilt.nd (by rfl) (Or.inl rfl) (pe_lst pa_nil))
      (pss_cons (ps_for PassesOwn.never (by rfl) (pi_range1 (by rfl) T.z_range (pa_cons (pe_call (ok_law_draw T) (hr.mono (by decide)) (by rfl) T.m_law_draw T.F_law_draw.kp T.b_law_draw .nil pass1 (pa_cons (pv 0) (pa_cons pe_int pa_nil))) pa_nil)) (pg_name (i := 7) sc_law_spoilt.nd (by rfl) (Or.inl rfl))
      (pss_cons (ps_setc (i := 8) sc_law_spoilt.nd (by rfl) (Or.inl rfl) (N' := ["at", "things"]) (cap := [none, some 2]) ⟨rfl, (by decide +kernel), (by decide +kernel), (by rfl), rfl, (by rfl)⟩ (by rfl) (pi_range1 (by rfl) T.z_range (pa_cons (pe_callB call_lenF (by rfl) T.z_len (by decide +kernel) (pa_cons (pv 2) pa_nil)) pa_nil)) (fun C_ ex_ s_ H_ => (pg_name (i := 0) (show (["at", "things"] : List Str).Nodup by decide +kernel) (by rfl) (Or.inl rfl))) gkp_name (fun C_ ex_ s_ H_ => (pifs_one (pt_cmpR (op_neE (by exact hu)) (pe_ix ix_F (pe_ix ix_F (pv 1) (pv 0) (fun _ _ => rfl)) pe_int (fun _ _ => rfl)) (pe_lst pa_nil) (nomark _)))) (fun C_ ex_ s_ H_ => (pv 0)))
      (pss_cons (ps_set (i := 9) sc_law_spoilt.nd (by rfl) (Or.inl rfl) (pe_call (ok_law_bad T) (hr.mono (by decide)) (by rfl) T.m_law_bad T.F_law_bad.kp T.b_law_bad .nil pass1 (pa_cons (pv 0) (pa_cons (pv 3) (pa_cons (pv 4) (pa_cons (pv 5) pa_nil))))))
      (pss_one (ps_if (pt_cmpR (op_neE hu) (pv 8) (pe_lst pa_nil) (nomark _)) (pss_cons (ps_set (i := 10) sc_law_spoilt.nd (by rfl) (Or.inl rfl) (pe_ix ix_F (pv 8) (pe_call (ok_law_draw T) (hr.mono (by decide)) (by rfl) T.m_law_draw T.F_law_draw.kp T.b_law_draw .nil pass1 (pa_cons (pv 0) (pa_cons (pe_callB call_lenF (by rfl) T.z_len (by decide +kernel) (pa_cons (pv 8) pa_nil)) pa_nil))) (fun _ _ => rfl)))
      (pss_cons (ps_set (i := 11) sc_law_spoilt.nd (by rfl) (Or.inl rfl) (pe_call (ok_law_draw T) (hr.mono (by decide)) (by rfl) T.m_law_draw T.F_law_draw.kp T.b_law_draw .nil pass1 (pa_cons (pv 0) (pa_cons (pe_callB call_lenF (by rfl) T.z_len (by decide +kernel) (pa_cons (pe_ix ix_F (pe_ix ix_F (pv 2) (pv 10) (fun _ _ => rfl)) pe_int (fun _ _ => rfl)) pa_nil)) pa_nil))))
      (pss_cons (ps_set (i := 6) sc_law_spoilt.nd (by rfl) (Or.inl rfl) (pe_op op_cat (pe_lst (pa_cons (pe_tup (pa_cons (pv 10) (pa_cons (pv 11) (pa_cons (pe_ix ix_F (pe_ix ix_F (pe_ix ix_F (pv 2) (pv 10) (fun _ _ => rfl)) pe_int (fun _ _ => rfl)) (pv 11) (fun _ _ => rfl)) pa_nil)))) pa_nil)) (pv 6)))
      (pss_one (ps_expr (pe_call (ok_law_field T) (hr.mono (by decide)) (by rfl) T.m_law_field T.F_law_field.kp T.b_law_field .nil pass1 (pa_cons (pv 1) (pa_cons (pv 2) (pa_cons (pv 10) (pa_cons (pv 11) (pa_cons (pv 9) pa_nil))))))))))) pss_nil)))))
      (pss_one (ps_ret (pv 6)))))), ?_⟩
    simp! []
    refine ⟨h.tl, h.as, h.ts, h.s, h.f, rfl, X.rows, X.lay, by omega, fun H1 S1 ul0 nu => ?_⟩
    have S01 := S1.step nu (u := .lst [])
    have X1 := X.same S01
    have B1 := B.keep S01
    have hu1 : upd H1 ul0 (.lst []) ul0 = some (.lst []) := upd_same
    have nu0 := S1.free nu
    revert X1 B1 S01 hu1
    generalize upd H1 ul0 (.lst []) = H2
    intro S01 X1 B1 hu1
    have ub : ul0 ≠ b := fun e => by obtain ⟨u, hb⟩ := bag_there B; rw [e, hb] at nu0; cases nu0
    refine for1_ (Pre := fun n H3 => 0 ≤ n ∧ n < 4 ∧ Sk a.c_Yard b c cs H h h.ts H3 ∧ H3 ul0 = some (.lst [])) (fun Q2 hQ => ?_) ?_
    · simp! []
      refine ⟨b, c, cs, _, rfl, B1, by decide, by decide, fun x H3 x0 x1 B3 k3 => hQ _ _ ⟨x0, x1, ?_, k3 _ _ hu1 ub⟩⟩
      have W0 : Sk a.c_Yard b c cs H h h.ts H2 := ⟨X1, B1, rfl, .of_same S01⟩
      exact W0.drawn nb B3 k3
    rintro n H3 ⟨n0, n1, W3, hu3⟩
    obtain ⟨nN, rfl⟩ := Int.eq_ofNat_of_zero_le n0
    refine for1 (H1 := H3) (nN : Int) (fun Q2 h2 => h2) (by omega) (by omega) (fun i σ H4 => ∃ (ts' : List Th) (ul : Addr) (ps : List Addr) (us : List (Nat × Nat × Int)) (v7 v8 v9 v10 v11 : Option V), σ = [some (.ref b), some (.ref h.yd.p), some (.ref h.tl), some (.int low), some (.int h.s), some (.int h.f), some (.ref ul), v7, v8, v9, v10, v11] ∧ Sk a.c_Yard b c cs H h ts' H4 ∧ UnAt H4 ul ps us ∧ UnOk h.ts us ∧ us.length ≤ i ∧ H ul = none)
      ⟨h.ts, ul0, [], [], _, _, _, _, _, rfl, W3, ⟨hu3, rfl, fun i p u h => by simp at h⟩, fun u hu => absurd hu List.not_mem_nil, Nat.le_refl _, nu0⟩ ?_ ?_
    · clear W3 hu3 X1 B1 S01 hu1
      rintro i σ H4 hi ⟨ts', ul, ps, us, v7, v8, v9, v10, v11, rfl, W, U, uok, ulen, nul⟩
      have lt := W.len
      have lte : ts'.length ≤ 480 := by omega
      have top := W.at_.rows.top
      have la : h.as.length = ts'.length := W.at_.rows.len
      simp! [top, la, List.length_map]
      refine comp1 (H1 := H4) (ts'.length : Int) (fun Q2 h2 => by simp! [top, la, lenF, List.length_map]; exact h2) (by omega) (by omega) (fun D i ys H5 => ∃ ks : List Nat, ys = ks.map (fun k : Nat => V.int (k : Int)) ∧ H5 D = some (.lst ys) ∧ Same H4 H5 ∧ ks.length ≤ i ∧ ∀ k ∈ ks, ∃ t, ts'[k]? = some t ∧ t.2.1 ≠ [])
        (fun D hD => ⟨[], rfl, upd_same, .laid hD, Nat.le_refl _, fun _ h => absurd h List.not_mem_nil⟩) (fun D hD j ys H5 _ ⟨ks, e, h1, _, h3, _⟩ => ⟨h1, by rw [e, List.length_map]; exact h3⟩) (by rw [sizeLine_eq]; omega) ?_ ?_
      · rintro D hD j ys H5 hj ⟨ks, rfl, h1, S5, h3, h4⟩
        have jl : j < ts'.length := by omega
        obtain ⟨bb, r0, r1, r2, r3, r4⟩ := thAt_i (W.at_.same S5) (i := j) (List.getElem?_eq_getElem jl)
        rw [Int.zero_add]
        simp! [capSt, r0, r1, r2]
        intro p np
        have r3p := upd_old (u := .lst []) r3 np
        have h1p := upd_old (u := .lst []) h1 np
        have S5p := S5.step np (u := .lst [])
        revert r3p h1p S5p
        generalize upd H5 p (.lst []) = H6
        intro r3p h1p S5p
        refine ⟨_, by rw [r3p]; rfl, by rw [r3p]; rfl, ?_⟩
        refine ite2 (fun ne => ?_) fun _ => ?_
        · simp! [h1p]
          refine ⟨ks ++ [j], by rw [List.map_append]; rfl, same_new S5p hD, by rw [List.length_append]; exact Nat.succ_le_succ h3, fun k hk => ?_⟩
          rcases List.mem_append.mp hk with hk | hk
          · exact h4 k hk
          · rw [List.mem_singleton.mp hk]
            exact ⟨_, List.getElem?_eq_getElem jl, fun e => by rw [e] at ne; cases ne⟩
        · exact ⟨ks, rfl, h1p, S5p, by omega, h4⟩
      · rintro D hD ys H5 ⟨ks, rfl, h1, S5, h3, h4⟩
        have W5 := W.same S5
        refine ⟨b, c, cs, low, h.s, h.f, rfl, W5.bag, l0, l1, X.lay.le, Int.le_trans f1 (by decide), fun r H6 rb B6 k6 => ?_⟩
        have W6 := W5.drawn nb B6 k6
        have Db : D ≠ b := fun e => by obtain ⟨u, hb⟩ := bag_there W.bag; rw [e, hb] at hD; cases hD
        have h16 := k6 _ _ h1 Db
        have ulb : ul ≠ b := fun e => by obtain ⟨u, hb⟩ := bag_there B; rw [e, hb] at nul; cases nul
        have U6 : UnAt H6 ul ps us := ⟨k6 _ _ (S5 _ _ U.top) ulb, U.len, fun i p u e1 e2 => (W5.bag.kfr k6).tups _ _ (S5 _ _ (U.row i p u e1 e2))⟩
        intro p np
        have h16p := upd_old (u := .lst []) h16 np
        have S6p : Same H6 (upd H6 p (.lst [])) := .laid np
        revert h16p S6p
        generalize upd H6 p (.lst []) = H7
        intro h16p S6p
        have W7 := W6.same S6p
        have U7 : UnAt H7 ul ps us := ⟨S6p _ _ U6.top, U6.len, fun i p u e1 e2 => S6p _ _ (U6.row i p u e1 e2)⟩
        refine ⟨D, rfl, _, by rw [h16p]; rfl, by rw [h16p]; rfl, ite2 (fun ne => ?_) fun _ => ⟨ts', W7, ps, us, U7, uok, by omega, nul⟩⟩
        have k0 : 0 < ks.length := by
          cases e : ks with
          | nil => rw [e] at ne; cases ne
          | cons _ _ => exact Nat.succ_pos _
        refine ⟨ks.length, by simp [lenF, h16p], b, c, cs, _, rfl, W7.bag, by omega, by omega, fun x H8 x0 x1 B8 k8 => ?_⟩
        have W8 := W7.drawn nb B8 k8
        obtain ⟨xN, rfl⟩ := Int.eq_ofNat_of_zero_le x0
        have xl : xN < ks.length := by omega
        obtain ⟨t, ht, tne⟩ := h4 _ (List.getElem_mem xl)
        have h18 := k8 _ _ h16p Db
        obtain ⟨bb, r0, r1, r2, r3, r4⟩ := thAt_i W8.at_ (i := ks[xN]) ht
        have a1 : atI (ks.map fun k : Nat => V.int (k : Int)) (xN : Int) = some (V.int (ks[xN] : Nat)) := atI_nat (by rw [List.getElem?_map, List.getElem?_eq_getElem xl]; rfl)
        refine ⟨D, rfl, _, rfl, _, by rw [h18]; rfl, _, a1, _, rfl, ?_⟩
        simp! [r0, r1, r2, r3, List.length_map]
        have mt := List.mem_of_getElem? ht
        have sm := W8.at_.small t mt
        have t0 : 0 < t.2.1.length := List.length_pos_iff.mpr tne
        refine ⟨b, c, cs, _, rfl, B8, by omega, by omega, fun y H9 y0 y1 B9 k9 => ?_⟩
        have W9 := W8.drawn nb B9 k9
        obtain ⟨jj, rfl⟩ := Int.eq_ofNat_of_zero_le y0
        have jl : jj < t.2.1.length := by omega
        obtain ⟨b9, s0, s1, s2, s3, s4⟩ := thAt_i W9.at_ (i := ks[xN]) ht
        have a2 : atI (t.2.1.map V.int) (jj : Int) = some (V.int t.2.1[jj]) := atI_nat (by rw [List.getElem?_map, List.getElem?_eq_getElem jl]; rfl)
        refine ⟨_, by rw [s0]; rfl, _, s1, _, rfl, _, by rw [s2]; rfl, _, atI_1, _, rfl, _, rfl, _, by rw [s3]; rfl, _, a2, fun p1 np1 p2 np2 => ?_⟩
        have U9 : UnAt H9 ul ps us := ⟨k9 _ _ (k8 _ _ U7.top ulb) ulb, U7.len, fun i p u e1 e2 => (W8.bag.kfr k9).tups _ _ ((W7.bag.kfr k8).tups _ _ (U7.row i p u e1 e2))⟩
        have hp2 : upd (upd H9 p1 (.tup [.int ks[xN], .int jj, .int t.2.1[jj]])) p2 (.lst [.ref p1]) p2 = some (.lst [.ref p1]) := upd_same
        have hp1 := upd_old (u := .lst [.ref p1]) (upd_same (H := H9) (a := p1) (o := .tup [.int ks[xN], .int jj, .int t.2.1[jj]])) np2
        have SA : Same H9 (upd (upd H9 p1 (.tup [.int ks[xN], .int jj, .int t.2.1[jj]])) p2 (.lst [.ref p1])) := Same.step (.laid np1) np2
        revert hp2 hp1 SA
        generalize upd (upd H9 p1 (.tup [.int ks[xN], .int jj, .int t.2.1[jj]])) p2 (.lst [.ref p1]) = HA
        intro hp2 hp1 SA
        have plen : ps.length ≤ 4 := by have := U.len; omega
        refine ⟨p2, ul, [.ref p1], ps.map V.ref, rfl, rfl, hp2, SA _ _ U9.top, by rw [sizeLine_eq, List.length_map, List.length_singleton]; omega, fun ul2 nul2 => ?_⟩
        have hl2 : upd HA ul2 (.lst ([.ref p1] ++ ps.map V.ref)) ul2 = some (.lst ([.ref p1] ++ ps.map V.ref)) := upd_same
        have SB := SA.step nul2 (u := .lst ([.ref p1] ++ ps.map V.ref))
        have hp1B := upd_old (u := .lst ([.ref p1] ++ ps.map V.ref)) hp1 nul2
        have nul9 := SA.free nul2
        revert hl2 SB hp1B
        generalize upd HA ul2 (.lst ([.ref p1] ++ ps.map V.ref)) = HB
        intro hl2 SB hp1B
        have WB := W9.same SB
        obtain ⟨g, Wg, hg⟩ := WB.at_.wo WB.bag nb nc
        refine ⟨g, h.yd, h.tl, h.as, ts', t, h.s, h.f, r, ks[xN], jj, rfl, WB.at_.yard, WB.at_.rows, Wg.tags, WB.at_.lay, by omega, ht, by omega, ?_, by rw [Wg.gtl]; simp, fun HC YC RC FC => ?_⟩
        · have a1 := WB.at_.lay.mem mt
          have a3 : 1 ≤ h.s := X.s0
          have a4 : thSz t = 1 + t.2.1.length + t.2.2.length := rfl
          dsimp only at a1
          refine log_small' (Nat.lt_of_le_of_lt (m := 10 ^ 61) ?_ (by decide))
          have p : (10 : Int) ^ 60 + 10 ^ 8 < ((10 ^ 61 : Nat) : Int) := by decide
          generalize (10 : Nat) ^ 61 = N at *
          omega
        · have WC := WB.setf nb nc YC RC (map_set_same (f := thTri) ht (setF_tri (t := t) (j := jj) (v := r))) (FC.mono fun q m => m.imp id (hg q)) (WB.at_.good.set ht (big_log rb))
          have n9 : ¬ (ul2 = b ∨ ul2 ∈ h.ow) := fun m => by
            rcases m with m | m
            · obtain ⟨u, hb⟩ := bag_there W9.bag
              rw [← m, nul9] at hb; cases hb
            · obtain ⟨u, hb⟩ := W9.at_.alloc (q := ul2) m
              rw [nul9] at hb; cases hb
          have nulH : H ul2 = none := none_fr W9.fr nul9 n9
          refine ⟨_, ul2, rfl, WC, p1 :: ps, (ks[xN], jj, t.2.1[jj]) :: us, ⟨?_, by rw [List.length_cons, List.length_cons, U.len], fun i p u e1 e2 => ?_⟩, fun u hu => ?_, by rw [List.length_cons]; omega, nulH⟩
          · exact FC.keep _ _ hl2 (fun m => n9 (.inr (mem_ow.mpr (by rcases m with m | m; · simp [m]
                                                                     · simp [hg _ m]))))
          · cases i with
            | zero =>
              cases e1
              cases e2
              exact FC.tups _ _ hp1B
            | succ i => exact FC.tups _ _ (SB _ _ (U9.row i p u (by simpa using e1) (by simpa using e2)))
          · rcases List.mem_cons.mp hu with e | m
            · subst e
              have hh := W9.at_.good t mt _ (List.getElem_mem jl)
              have := (UnOk.tri (ts := ts') (ts' := h.ts) (us := [(ks[xN], jj, t.2.1[jj])]) (fun u hu => by rw [List.mem_singleton.mp hu]; exact ⟨t, ht, jl, hh⟩) W.em.symm)
              exact this _ (by simp)
            · exact uok u m
    · rintro σ H4 ⟨ts', ul, ps, us, v7, v8, v9, v10, v11, rfl, W, U, uok, ulen, nul⟩
      simp! []
      exact q ts' ul ps us H4 W U uok (by omega) nul

end
section
variable {P : Program} {w : World} {K : PySem.W.Frag} {mg : Str → Option Value} {base : Heap} {a : Ad}
theorem yard_made {C x dx dw ds : Addr} {st : Int} {H H' : Hp} (hx : H x = none) (hdx : H dx = none) (nx : dx ≠ x) (n1 : upd (upd H dx (.own x)) x (.ins C dx []) dw = none) (n2 : upd (upd H dx (.own x)) x (.ins C dx []) ds = none)
    (f : Fr (· = x) (upd (upd H dx (.own x)) x (.ins C dx [])) H') (Y : YardAt C H' ⟨x, dx, dw, ds⟩ (fun _ => none) [] st) : Same H H' ∧ ∀ L, NL L H → NL (ds :: dw :: x :: L) H' := by
  have hdx' : upd (upd H dx (.own x)) x (.ins C dx []) dx = some (.own x) := by rw [upd_ne nx]; exact upd_same
  have hxx : upd (upd H dx (.own x)) x (.ins C dx []) x = some (.ins C dx []) := upd_same
  have a1 : dw ≠ x := (ne_of_none hxx n1).symm
  have a2 : dw ≠ dx := (ne_of_none hdx' n1).symm
  have a3 : ds ≠ x := (ne_of_none hxx n2).symm
  have a4 : ds ≠ dx := (ne_of_none hdx' n2).symm
  have s : Same H H' := fun q o e => f.keep q o (by rw [upd_ne (ne_of_none e hx), upd_ne (ne_of_none e hdx)]; exact e) (ne_of_none e hx)
  rw [upd_ne a1, upd_ne a2] at n1
  rw [upd_ne a3, upd_ne a4] at n2
  refine ⟨s, fun L N => ?_⟩
  obtain ⟨kw, hw, _⟩ := Y.words
  obtain ⟨ks, hs, _⟩ := Y.sizes
  have fr : ∀ q, H q = none → q ∉ L := fun q hq m => by obtain ⟨o, e⟩ := N.2 q m; rw [hq] at e; cases e
  have N2 := N.same s
  refine ⟨?_, fun q hq => ?_⟩
  · simp only [List.nodup_cons, List.mem_cons, not_or]
    exact ⟨⟨Y.ne.symm, a3, fr _ n2⟩, ⟨a1, fr _ n1⟩, fr _ hx, N.1⟩
  · rcases List.mem_cons.mp hq with e | hq
    · rw [e]; exact ⟨_, hs⟩
    · rcases List.mem_cons.mp hq with e | hq
      · rw [e]; exact ⟨_, hw⟩
      · rcases List.mem_cons.mp hq with e | hq
        · rw [e]; exact ⟨_, Y.ins⟩
        · exact N2.2 q hq
theorem layO_mem0 {hs : List Int} {z : Int} : z ∈ layO [] hs ↔ z ∈ hs ∧ z ≠ 0 := by
  rw [mem_layO]
  constructor
  · rintro (e | e)
    · cases e
    · exact e
  · exact .inr

theorem gd_stream {ts : List Th} {roots ord : List Int} (g : GoodH ts) (r : ∀ h ∈ roots, h = 0 ∨ ∃ t ∈ ts, t.1 = h) : ∀ h ∈ stream ts roots ord, Gd ts h := fun h m => by
  rcases List.mem_append.mp m with m | m
  · exact r h m
  · obtain ⟨z, _, hz⟩ := List.mem_flatMap.mp m
    unfold holdsAt thAt at hz
    cases e : ts.find? fun t => t.1 == z with
    | none => rw [e] at hz; cases hz
    | some u => rw [e] at hz; exact g u (List.mem_of_find?_eq_some e) h hz
theorem not_bad {ts : List Th} {roots : List Int} (g : GoodH ts) (r : ∀ h ∈ roots, h = 0 ∨ ∃ t ∈ ts, t.1 = h) : ¬ Bad ts roots := by
  rintro ⟨done, o1, h, go, pre, nh⟩
  exact nh (gd_stream g r h (pre.mem (by simp)))
theorem good_log {ts : List Th} (g : GoodH ts) (ok : ThOk ts) : HLog ts := fun t ht h hh => by
  rcases g t ht h hh with e | ⟨u, hu, e⟩
  · rw [e]; decide
  · rw [← e]; exact ok.log u hu
theorem lay_ok {ts : List Th} {s f : Int} (L : Lay s ts f) (sm : ∀ t ∈ ts, t.2.1.length ≤ 9 ∧ t.2.2.length ≤ 9) (l : ts.length ≤ 500) (s0 : 1 ≤ s) (f1 : f ≤ 10 ^ 60 + 10 ^ 9) : ThOk ts := ⟨by omega, sm, fun t ht => by
  have a1 := L.mem ht
  have a2 := thSz_pos t
  refine log_small' ?_
  have p : (10 : Int) ^ 60 + 10 ^ 9 < 10 ^ 61 := by decide
  have e : ((10 ^ 61 : Nat) : Int) = 10 ^ 61 := by decide
  have b : t.1.natAbs < 10 ^ 61 := by
    rw [← e] at p
    generalize (10 : Nat) ^ 61 = N at *
    omega
  exact Nat.lt_trans b (by decide)⟩
def sp_built (C : Addr) : Sp := fun vs H Q _ => ∃ (b c : Addr) (cs : List Int) (ag : Int), vs = [.ref b, .int ag] ∧ BagAt H b c cs ∧ ∀ (p : Addr) (h : Hs) (low : Int) (H' : Hp), H' p = some (.tup [.ref h.yd.p, .ref h.tl, .int low, .int h.s]) → HsAt C H' h → BagAt H' b c cs → b ∉ h.ow → c ∉ h.ow → 0 < h.ts.length → h.ts.length ≤ 400 → h.f ≤ 10 ^ 60 → 1 ≤ low → low ≤ h.s → Q (.ref p) H'
set_option maxHeartbeats 4000000 in
theorem ok_law_built (T : Txt K mg a) : FnOk P w K mg base (CX1 P w) 5 a.f_law_built a.d_law_built ["bag", "again"] (sp_built a.c_Yard) := by
  refine T.F_law_built.okC sc_law_built (fun vs H Q E h => ?_) (fun cdv A outer s H vs Q E hr h => ?_)
  · obtain ⟨b, c, cs, ag, rfl, _⟩ := h
    rfl
  · obtain ⟨b, c, cs, ag, rfl, B, q⟩ := h
    have hu := hu_of hr
    refine ⟨_, (pss_cons (ps_set (i := 2) sc_law_built.nd (by rfl) (Or.inl rfl) (pe_call (ok_law_start T) (hr.mono (by decide)) (by rfl) T.m_law_start T.F_law_start.kp T.b_law_start .nil pass1 (pa_cons (pv 0) pa_nil)))
      (pss_cons (ps_set (i := 3) sc_law_built.nd (by rfl) (Or.inl rfl) (pe_make T.M_Yard (ok_Yard___init T) (hr.mono (by decide)) (by rfl) T.m_Yard T.b_Yard___init .nil pass1 (pa_cons (pv 2) pa_nil)))
      (pss_cons (ps_set (i := 4) sc_law_built.nd (by rfl) (Or.inl rfl) (pe_call (ok_law_filled T) (hr.mono (by decide)) (by rfl) T.m_law_filled T.F_law_filled.kp T.b_law_filled .nil pass1 (pa_cons (pv 0) (pa_cons (pv 3) pa_nil))))
      (pss_cons (ps_if (pt_cmpR op_eq (pv 1) pe_int (nomark _)) (pss_one (ps_ret (pe_tup (pa_cons (pv 3) (pa_cons (pv 4) (pa_cons (pv 2) (pa_cons (pv 2) pa_nil))))))) pss_nil)
      (pss_cons (ps_set (i := 5) sc_law_built.nd (by rfl) (Or.inl rfl) (pe_call (ok_law_free T) (hr.mono (by decide)) (by rfl) T.m_law_free T.F_law_free.kp T.b_law_free .nil pass1 (pa_cons (pv 2) (pa_cons (pv 4) pa_nil))))
      (pss_cons (ps_set (i := 6) sc_law_built.nd (by rfl) (Or.inl rfl) (pe_op op_cat (pe_lst (pa_cons (pe_ix ix_F (pe_ix ix_F (pv 4) (pe_call (ok_law_draw T) (hr.mono (by decide)) (by rfl) T.m_law_draw T.F_law_draw.kp T.b_law_draw .nil pass1 (pa_cons (pv 0) (pa_cons (pe_callB call_lenF (by rfl) T.z_len (by decide +kernel) (pa_cons (pv 4) pa_nil)) pa_nil))) (fun _ _ => rfl)) pe_int (fun _ _ => rfl)) pa_nil)) (pe_call (ok_law_roots T) (hr.mono (by decide)) (by rfl) T.m_law_roots T.F_law_roots.kp T.b_law_roots .nil pass1 (pa_cons (pv 0) (pa_cons (pv 4) pa_nil)))))
      (pss_one (ps_ret (pe_tup (pa_cons (pe_ix ix_F (pe_call (ok_carted T) (hr.mono (by decide)) (by rfl) T.m_carted T.F_carted.kp T.b_carted .nil pass1 (pa_cons (pv 3) (pa_cons (pv 6) pa_nil))) pe_int (fun _ _ => rfl)) (pa_cons (pe_ix ix_F (pe_call (ok_law_carted T) (hr.mono (by decide)) (by rfl) T.m_law_carted T.F_law_carted.kp T.b_law_carted .nil pass1 (pa_cons (pv 4) (pa_cons (pv 6) (pa_cons (pv 5) pa_nil)))) pe_int (fun _ _ => rfl)) (pa_cons (pv 2) (pa_cons (pv 5) pa_nil))))))))))))), ?_⟩
    simp! []
    refine ⟨b, c, cs, rfl, B, fun s0 H3 s00 s01 B3 k3 => ?_⟩
    simp! []
    have N3 : NL [c, b] H3 := ⟨by simp [B3.ne], fun q hq => by
      simp only [List.mem_cons, List.not_mem_nil, or_false] at hq
      rcases hq with rfl | rfl
      · exact ⟨_, B3.at_⟩
      · exact bag_there B3⟩
    intro x0 dx0 hx0 hdx0 nx0
    refine ⟨x0, dx0, s0, rfl, upd_same, fun dw0 ds0 H5 hdw0 hds0 Y0 F0 => ⟨rfl, ?_⟩⟩
    obtain ⟨S45, N5⟩ := yard_made hx0 hdx0 nx0 hdw0 hds0 F0 Y0
    replace N5 := N5 _ N3
    refine ⟨b, c, ⟨x0, dx0, dw0, ds0⟩, cs, s0, rfl, B3.keep S45, Y0, N5, s00, s01, fun tl g as ts fr H6 W l0 l400 gd => ?_⟩
    generalize hyd : (⟨x0, dx0, dw0, ds0⟩ : Yd) = yd at W
    have ex : x0 = yd.p := by rw [← hyd]
    rw [ex]
    clear hyd Y0 N5 hx0 hdx0 nx0 hdw0 hds0 F0 S45
    have lb := Law.Lay.bound W.lay W.small
    obtain ⟨nd1, nd2⟩ := W.nd
    have fb : fr ≤ 10 ^ 59 + 7600 := by omega
    have fb' : fr ≤ 10 ^ 60 + 10 ^ 9 := Int.le_trans fb (by decide)
    have ok := lay_ok W.lay W.small (by omega) s00 fb'
    have lg := good_log gd ok
    have X : HsAt a.c_Yard H6 ⟨yd, tl, as, ts, s0, fr⟩ := ⟨W.yard, W.rows, W.lay, W.small, lg, s00, nd1⟩
    have nb : b ∉ (⟨yd, tl, as, ts, s0, fr⟩ : Hs).ow := fun m => (nd2 _ m).1 rfl
    have nc : c ∉ (⟨yd, tl, as, ts, s0, fr⟩ : Hs).ow := fun m => (nd2 _ m).2 rfl
    have B6 := W.bag
    by_cases c0 : ag = 0
    · simp! [c0]
      intro p np
      exact q p ⟨yd, tl, as, ts, s0, fr⟩ s0 _ upd_same (X.same (Same.laid np)) (B6.keep (Same.laid np)) nb nc l0 l400 (Int.le_trans fb (by decide)) s00 (Int.le_refl _)
    have topX := X.rows.top
    have la : as.length = ts.length := X.rows.len
    simp! [c0, topX]
    refine ⟨tl, as, ts, s0, fr, rfl, X.rows, X.lay, by omega, fun H7 S7 => ?_⟩
    have X7 := X.same S7
    have B7 := B6.keep S7
    have top7 := X7.rows.top
    simp! [top7, List.length_map, la]
    refine ⟨b, c, cs, _, rfl, B7, by omega, by omega, fun x H8 x0 x1 B8 k8 => ?_⟩
    have X8 := X7.fr (B7.kfr k8) fun q hq e => nb (e ▸ hq)
    obtain ⟨xN, rfl⟩ := Int.eq_ofNat_of_zero_le x0
    have xl : xN < ts.length := by omega
    obtain ⟨bb, r0, r1, r2, r3, r4⟩ := thAt_i X8 (i := xN) (List.getElem?_eq_getElem xl)
    refine ⟨_, rfl, _, by rw [r0]; rfl, _, r1, _, rfl, _, by rw [r2]; rfl, _, atI_0, fun p np => ?_⟩
    have hp : upd H8 p (.lst [.int ts[xN].1]) p = some (.lst [.int ts[xN].1]) := upd_same
    have S9 : Same H8 (upd H8 p (.lst [.int ts[xN].1])) := .laid np
    revert hp S9
    generalize upd H8 p (.lst [.int ts[xN].1]) = H9
    intro hp S9
    have X9 := X8.same S9
    have B9 := B8.keep S9
    have pb : p ≠ b := fun e => by obtain ⟨u, hb⟩ := bag_there B8; rw [e, hb] at np; cases np
    have dr : ∀ {H'}, BagAt H' b c cs → Kp b H9 H' → HsAt a.c_Yard H' ⟨yd, tl, as, ts, s0, fr⟩ := fun B' k' => X9.fr (B9.kfr k') fun q hq e => nb (e ▸ hq)
    refine ⟨b, c, tl, cs, as, ts, rfl, B9, fun H' B' k' => (dr B' k').rows, l0, by omega, fun rl roots H10 nrl hrl lr gr B10 k10 => ?_⟩
    have X10 := dr B10 k10
    refine ⟨p, rl, _, _, rfl, rfl, k10 _ _ hp pb, hrl, by rw [sizeLine_eq, List.length_map, List.length_singleton]; omega, fun l1 nl1 => ?_⟩
    have hl1 : upd H10 l1 (.lst ([.int ts[xN].1] ++ roots.map V.int)) l1 = some (.lst ((ts[xN].1 :: roots).map V.int)) := upd_same
    have S11 : Same H10 (upd H10 l1 (.lst ([.int ts[xN].1] ++ roots.map V.int))) := .laid nl1
    revert hl1 S11
    generalize upd H10 l1 (.lst ([.int ts[xN].1] ++ roots.map V.int)) = H11
    intro hl1 S11
    have X11 := X10.same S11
    have B11 := B10.keep S11
    have gr2 : ∀ h ∈ ts[xN].1 :: roots, h = 0 ∨ ∃ t ∈ ts, t.1 = h := fun h hh => by
      rcases List.mem_cons.mp hh with e | m
      · exact .inr ⟨ts[xN], List.getElem_mem xl, e.symm⟩
      · exact gr h m
    have co : CartOk ts fr (ts[xN].1 :: roots) := ⟨fun h hh => by
        rcases gr2 h hh with e | ⟨t, ht, e⟩
        · rw [e]; decide
        · rw [← e]; exact ok.log t ht, lg, by rw [List.length_cons]; omega, by have := X.lay.le; show 0 ≤ fr; have e2 : (⟨yd, tl, as, ts, s0, fr⟩ : Hs).s = s0 := rfl; dsimp only at this; omega, Int.le_trans fb (by decide)⟩
    refine ⟨yd, l1, ts, s0, fr, _, rfl, X11.yard, X11.lay, ok, hl1, co, fun H' bad => (not_bad gd gr2 bad).elim, fun r5 yf pl5 prs5 ord5 H12 gd5 ct5 nd5 th5 hr5 Y5 PR5 S5 n1 n2 n3 n4 => ⟨r5, rfl, _, by rw [hr5]; rfl, _, atI_0, ?_⟩⟩
    refine ⟨tl, l1, as, ts, s0, fr, fr, _, rfl, (X11.same S5).rows, X11.lay, ok, S5 _ _ hl1, co, fun H' bad => (not_bad gd gr2 bad).elim, fun r dl pl prs bs ord H13 gd6 ct hr1 RD1 PR1 S13 ndl lnd lfr => ⟨r, rfl, _, by rw [hr1]; rfl, _, atI_0, fun p np => ?_⟩⟩
    have eo : ord5 = ord := ct5.uniq ct
    subst eo
    have S14 : Same H13 (upd H13 p (.tup [.ref yf.p, .ref dl, .int s0, .int fr])) := .laid np
    have oln := nodup_len nd5 th5
    have Y13 := (Y5.same S13).same S14
    have R13 := RD1.same S14
    have B13 := ((B11.keep S5).keep S13).keep S14
    have frs : 1 ≤ fr := by have := X.lay.le; dsimp only at this; omega
    obtain ⟨kw, hw, _⟩ := Y5.words
    obtain ⟨ks, hs, _⟩ := Y5.sizes
    obtain ⟨u12, hb12⟩ := bag_there (B11.keep S5)
    obtain ⟨u11, hb11⟩ := bag_there B11
    have hc11 := B11.at_
    have hc12 := (B11.keep S5).at_
    have no : ∀ q u, H12 q = some u → q ≠ dl ∧ q ∉ lsOf bs := fun q u e => ⟨fun z => (by rw [z, ndl] at e; cases e), fun m => (by rw [(lfr q m).1] at e; cases e)⟩
    have ty : yf.p ≠ yf.dw ∧ yf.p ≠ yf.ds := ⟨fun e => (by have := Y5.ins; rw [e, hw] at this; cases this), fun e => (by have := Y5.ins; rw [e, hs] at this; cases this)⟩
    have fe := endOf_le ok.small (ord := ord5) (f := fr)
    refine q p ⟨yf, dl, bs, fulls ts fr ord5, fr, endOf ts fr ord5⟩ s0 _ upd_same ⟨Y13, R13, fulls_lay, fulls_small ok.small, ?_, frs, ?_⟩ B13 ?_ ?_ ?_ ?_ ?_ s00 (by have := X.lay.le; dsimp only at this; exact this)
    · refine good_log (fulls_good (roots := ts[xN].1 :: roots) X.lay ct5 nd5) (lay_ok fulls_lay (fulls_small ok.small) ?_ frs ?_)
      · unfold fulls; rw [List.length_map, addrs_len]; omega
      · have : (10 : Int) ^ 59 + 7600 + 7600 ≤ 10 ^ 60 + 10 ^ 9 := by decide
        omega
    · unfold Hs.ow
      simp only [List.nodup_cons, List.mem_cons, not_or]
      exact ⟨⟨ty.1, ty.2, (no _ _ Y5.ins).1, (no _ _ Y5.ins).2⟩, ⟨Y5.ne, (no _ _ hw).1, (no _ _ hw).2⟩, ⟨(no _ _ hs).1, (no _ _ hs).2⟩, fun m => (lfr _ m).2 rfl, lnd⟩
    · intro m
      unfold Hs.ow at m
      simp only [List.mem_cons] at m
      rcases m with e | e | e | e | e
      · rw [e, n1] at hb11; cases hb11
      · rw [e, n2] at hb11; cases hb11
      · rw [e, n3] at hb11; cases hb11
      · exact (no _ _ hb12).1 e
      · exact (no _ _ hb12).2 e
    · intro m
      unfold Hs.ow at m
      simp only [List.mem_cons] at m
      rcases m with e | e | e | e | e
      · rw [e, n1] at hc11; cases hc11
      · rw [e, n2] at hc11; cases hc11
      · rw [e, n3] at hc11; cases hc11
      · exact (no _ _ hc12).1 e
      · exact (no _ _ hc12).2 e
    · show 0 < (fulls ts fr ord5).length
      unfold fulls
      rw [List.length_map, addrs_len]
      have t0 : ts[xN].1 ≠ 0 := by
        have := X.lay.mem (List.getElem_mem xl)
        dsimp only at this
        omega
      have := layO_mem0.mpr ⟨show ts[xN].1 ∈ stream ts (ts[xN].1 :: roots) ord5 from List.mem_append_left _ (List.mem_cons_self ..), t0⟩
      rw [ct5.fix] at this
      exact List.length_pos_of_mem this
    · show (fulls ts fr ord5).length ≤ 400
      unfold fulls
      rw [List.length_map, addrs_len]; omega
    · show endOf ts fr ord5 ≤ 10 ^ 60
      have : (10 : Int) ^ 59 + 7600 + 7600 ≤ 10 ^ 60 := by decide
      omega

end
section
variable {P : Program} {w : World} {K : PySem.W.Frag} {mg : Str → Option Value} {base : Heap} {a : Ad}

def sp_refused (C : Addr) : Sp := fun vs H Q _ => ∃ (b c : Addr) (cs : List Int) (h : Hs) (low od : Int), vs = [.ref b, .ref h.yd.p, .int low, .int h.s, .int h.f, .int od] ∧ BagAt H b c cs ∧ HsAt C H h ∧ b ∉ h.ow ∧ h.ts.length ≤ 480 ∧ h.f ≤ 10 ^ 60 + 10 ^ 8 ∧ 1 ≤ low ∧ low ≤ h.s ∧
  ∀ (H' : Hp), HsAt C H' h → BagAt H' b c cs → Kp b H H' → Q (.bl true) H'
set_option maxHeartbeats 4000000 in
theorem ok_law_spots_refused (T : Txt K mg a) : FnOk P w K mg base (CX1 P w) 3 a.f_law_spots_refused a.d_law_spots_refused ["bag", "yard", "low", "start", "free", "order"] (sp_refused a.c_Yard) := by
  refine T.F_law_spots_refused.okC sc_law_spots_refused (fun vs H Q E h => ?_) (fun cdv A outer s H vs Q E hr h => ?_)
  · obtain ⟨b, c, cs, h, low, od, rfl, _⟩ := h
    rfl
  · obtain ⟨b, c, cs, h, low, od, rfl, B, X, nb, lts, f1, l0, l1, q⟩ := h
    have hu := hu_of hr
    have CP9 : CPow 10 9 := ⟨by decide, by decide, by decide⟩
    have e9 : (10 : Int) ^ Int.toNat 9 = 10 ^ 9 := rfl
    have sf := X.lay.le
    refine ⟨_, (pss_cons (ps_set (i := 6) sc_law_spots_refused.nd (by rfl) (Or.inl rfl) (pe_lst (pa_cons (pe_op op_sub (pe_op op_sub (pv 3) pe_int) (pe_call (ok_law_draw T) (hr.mono (by decide)) (by rfl) T.m_law_draw T.F_law_draw.kp T.b_law_draw .nil pass1 (pa_cons (pv 0) (pa_cons (pe_op op_pow pe_int pe_int) pa_nil)))) (pa_cons (pe_op op_add (pv 4) (pe_call (ok_law_draw T) (hr.mono (by decide)) (by rfl) T.m_law_draw T.F_law_draw.kp T.b_law_draw .nil pass1 (pa_cons (pv 0) (pa_cons (pe_op op_pow pe_int pe_int) pa_nil)))) (pa_cons (pe_op op_sub pe_int (pe_call (ok_law_draw T) (hr.mono (by decide)) (by rfl) T.m_law_draw T.F_law_draw.kp T.b_law_draw .nil pass1 (pa_cons (pv 0) (pa_cons (pe_op op_pow pe_int pe_int) pa_nil)))) pa_nil)))))
      (pss_cons (ps_set (i := 6) sc_law_spots_refused.nd (by rfl) (Or.inl rfl) (pe_op op_cat (pe_op op_cat (pv 6) (pe_comp (N' := ["k", "low", "bag", "start"]) (cap := [none, some 2, some 0, some 3]) ⟨rfl, (by decide +kernel), (by decide +kernel), (by rfl), rfl, (by rfl)⟩ (by rfl) (pi_range1 (by rfl) T.z_range (pa_cons pe_int pa_nil)) (fun C_ ex_ s_ H_ => (pg_name (i := 0) (show (["k", "low", "bag", "start"] : List Str).Nodup by decide +kernel) (by rfl) (Or.inl rfl))) gkp_name (fun C_ ex_ s_ H_ => pifs_nil) (fun C_ ex_ s_ H_ => (pe_op op_add (pv 1) (pe_call (ok_law_draw T) (by exact hr.mono (by decide)) (by rfl) T.m_law_draw T.F_law_draw.kp T.b_law_draw .nil pass1 (pa_cons (pv 2) (pa_cons (pe_callB (call_max2 (by rfl)) (by rfl) T.z_max (by decide +kernel) (pa_cons pe_int (pa_cons (pe_op op_sub (pv 3) (pv 1)) pa_nil))) pa_nil))))))) (pe_lst (pa_cons (pv 2) (pa_cons (pe_op op_sub (pv 3) pe_int) pa_nil)))))
      (pss_cons (ps_expr (pe_bm PySem.F.plainAttrs_list PySem.F.slot_list_append PySem.F.type_list_append mt_append (pv 6) (pa_cons (pe_call (ok_law_bad T) (hr.mono (by decide)) (by rfl) T.m_law_bad T.F_law_bad.kp T.b_law_bad .nil pass1 (pa_cons (pv 0) (pa_cons (pv 2) (pa_cons (pv 3) (pa_cons (pv 4) pa_nil))))) pa_nil)))
      (pss_cons (ps_for PassesOwn.never (by rfl) (pi_list (pv 6)) (pg_name (i := 7) sc_law_spots_refused.nd (by rfl) (Or.inl rfl))
      (pss_one (ps_if (PW.pt (pw_or (pt_cmpR op_lt (pv 7) (pv 3) (nomark _)) (pw_or1 (pt_cmpR op_ge (pv 7) (pv 4) (nomark _))))) (pss_cons (ps_if (pt_not (pt_val (pe_call (ok_law_no_spot T) (hr.mono (by decide)) (by rfl) T.m_law_no_spot T.F_law_no_spot.kp T.b_law_no_spot .nil pass1 (pa_cons (pv 1) (pa_cons (pv 7) (pa_cons (pv 5) pa_nil)))))) (pss_one (ps_ret pe_bl)) pss_nil)
      (pss_one (ps_if (pt_not (pt_val (pe_call (ok_law_no_spot T) (hr.mono (by decide)) (by rfl) T.m_law_no_spot T.F_law_no_spot.kp T.b_law_no_spot .nil pass1 (pa_cons (pv 1) (pa_cons (pv 7) (pa_cons (pe_op op_sub pe_int (pv 5)) pa_nil)))))) (pss_one (ps_ret pe_bl)) pss_nil))) pss_nil)))
      (pss_one (ps_ret pe_bl)))))), ?_⟩
    generalize hG : tSeq (tFor _ _ _) _ = tail
    have FIN : ∀ (l : Addr) (zs : List Int) (H2 : Hp), H2 l = some (.lst (zs.map V.int)) → (∀ z ∈ zs, z.natAbs ≤ 10 ^ 61) → HsAt a.c_Yard H2 h → BagAt H2 b c cs → Kp b H H2 → tail { nx := fun _ H' => Q .non H', rt := Q } [some (.ref b), some (.ref h.yd.p), some (.int low), some (.int h.s), some (.int h.f), some (.int od), some (.ref l), none] H2 := by
      intro l zs H2 hl bz X2 B2 k2
      subst hG
      simp! []
      refine forL (H1 := H2) l (zs.map V.int) (fun Q2 h2 => by simp! []; exact h2) (fun i σ H3 => ∃ v7 : Option V, σ = [some (.ref b), some (.ref h.yd.p), some (.int low), some (.int h.s), some (.int h.f), some (.int od), some (.ref l), v7] ∧ Same H2 H3) ⟨_, rfl, fun _ _ e => e⟩ (fun i σ H3 _ ⟨_, _, S⟩ => .of (S _ _ hl)) ?_ ?_
      · rintro i x σ H3 hi ⟨v7, rfl, S3⟩
        obtain ⟨z, hz, rfl⟩ := of_map_get hi
        have zb := bz z (List.mem_of_getElem? hz)
        have X3 := X2.same S3
        simp! []
        have no : (z < h.s ∨ h.f ≤ z) → ∀ (wy : Int) (H4 : Hp) (Q2 : VK), Same H2 H4 → (∀ H5, Same H2 H5 → Q2 (.bl true) H5) → sp_nospot a.c_Yard [.ref h.yd.p, .int z, .int wy] H4 Q2 E0 := fun hz wy H4 Q2 S4 k => ⟨h.yd, h.ts, h.s, h.f, z, wy, rfl, (X2.same S4).yard, by omega, big_log zb, .inl (X.lay.noWord hz), fun H5 S5 => k _ (S4.trans S5)⟩
        have go : (z < h.s ∨ h.f ≤ z) → sp_nospot a.c_Yard [.ref h.yd.p, .int z, .int od] H3 (fun x H1 => ∃ c, x = V.bl c ∧ if c = false then Q (V.bl false) H1 else sp_nospot a.c_Yard [V.ref h.yd.p, V.int z, V.int (1 - od)] H1 (fun x H1 => ∃ c, x = V.bl c ∧ if c = false then Q (V.bl false) H1 else Same H2 H1) E0) E0 := fun hz => by
          refine no hz od H3 _ S3 fun H5 S5 => ⟨true, rfl, ?_⟩
          rw [if_neg (by simp)]
          refine no hz _ H5 _ S5 fun H6 S6 => ⟨true, rfl, ?_⟩
          rw [if_neg (by simp)]
          exact S6
        refine ite2 (fun c => go (.inl c)) fun _ => ite2 (fun c => go (.inr c)) fun _ => S3
      · rintro σ H3 ⟨v7, rfl, S3⟩
        simp! []
        exact q _ (X2.same S3) (B2.keep S3) (k2.trans fun q o e _ => S3 q o e)
    simp! []
    refine ⟨CP9, b, c, cs, _, rfl, B, by decide, by decide, fun x H1 x0 x1 B1 k1 => ?_⟩
    rw [e9] at x1
    simp! []
    refine ⟨CP9, b, c, cs, _, rfl, B1, by decide, by decide, fun y H2 y0 y1 B2 k2 => ?_⟩
    rw [e9] at y1
    simp! []
    refine ⟨CP9, b, c, cs, _, rfl, B2, by decide, by decide, fun z H3 z0 z1 B3 k3 => ?_⟩
    rw [e9] at z1
    simp! []
    intro p np
    have hp : upd H3 p (.lst [.int (h.s - 1 - x), .int (h.f + y), .int (0 - z)]) p = some (.lst ([h.s - 1 - x, h.f + y, 0 - z].map V.int)) := upd_same
    have S4 : Same H3 (upd H3 p (.lst [.int (h.s - 1 - x), .int (h.f + y), .int (0 - z)])) := .laid np
    have B4 := B3.keep S4
    have X4 := (((X.fr (B.kfr k1) fun q hq e => nb (e ▸ hq)).fr (B1.kfr k2) fun q hq e => nb (e ▸ hq)).fr (B2.kfr k3) fun q hq e => nb (e ▸ hq)).same S4
    have k4 : Kp b H (upd H3 p (.lst [.int (h.s - 1 - x), .int (h.f + y), .int (0 - z)])) := ((k1.trans k2).trans k3).trans fun q o e _ => S4 q o e
    have pb : p ≠ b := fun e => by obtain ⟨u, hb⟩ := bag_there B3; rw [e, hb] at np; cases np
    revert hp B4 X4 k4
    generalize upd H3 p (.lst [.int (h.s - 1 - x), .int (h.f + y), .int (0 - z)]) = H4
    intro hp B4 X4 k4
    refine comp1 (H1 := H4) 3 (fun Q2 h2 => by simp! []; exact h2) (by decide) (by decide) (fun D i ys H5 => ∃ zs : List Int, ys = zs.map V.int ∧ H5 D = some (.lst ys) ∧ BagAt H5 b c cs ∧ HsAt a.c_Yard H5 h ∧ Kp b H4 H5 ∧ zs.length ≤ i ∧ ∀ z ∈ zs, z.natAbs ≤ 10 ^ 61)
        (fun D hD => ⟨[], rfl, upd_same, B4.keep (Same.laid hD), X4.same (Same.laid hD), fun q o e _ => Same.laid hD q o e, Nat.le_refl _, fun _ h => absurd h List.not_mem_nil⟩) (fun D hD j ys H5 _ ⟨zs, e, h1, _, _, _, h3, _⟩ => ⟨h1, by rw [e, List.length_map]; exact h3⟩) (by rw [sizeLine_eq]; decide) ?_ ?_
    · rintro D hD j ys H5 hj ⟨zs, rfl, h1, B5, X5, k5, h3, h4⟩
      simp! [capSt, tTrue]
      refine ⟨b, c, cs, _, rfl, B5, by split <;> omega, ?_, fun w H6 w0 w1 B6 k6 => ⟨w, rfl, ?_⟩⟩
      · have : (10 : Int) ^ 60 + 10 ^ 8 ≤ 10 ^ 70 := by decide
        split
        · generalize (10 : Int) ^ 60 = N at *
          generalize (10 : Int) ^ 70 = M at *
          omega
        · decide
      have Db : D ≠ b := fun e => by obtain ⟨u, hb⟩ := bag_there B4; rw [e, hb] at hD; cases hD
      have Dc : D ≠ c := fun e => by have := B4.at_; rw [← e, hD] at this; cases this
      have h6 := k6 _ _ h1 Db
      have X6 := X5.fr (B5.kfr k6) fun q hq e => nb (e ▸ hq)
      refine ⟨h6, zs ++ [low + w], by rw [List.map_append]; rfl, B6.other Db Dc, X6.fr (.put (M := (· = D)) rfl (notTup_lst h6)) (fun q hq e => ?_), (k5.trans k6).new hD, by rw [List.length_append]; exact Nat.succ_le_succ h3, fun z' hz' => ?_⟩
      · obtain ⟨u, hu⟩ := X4.alloc hq
        rw [e, hD] at hu; cases hu
      · rcases List.mem_append.mp hz' with m | m
        · exact h4 z' m
        · rw [List.mem_singleton.mp m]
          have : (10 : Int) ^ 60 + 10 ^ 8 + 1 ≤ ((10 ^ 61 : Nat) : Int) := by decide
          split at w1
          all_goals
            generalize (10 : Int) ^ 60 = N at *
            generalize (10 : Nat) ^ 61 = M at *
            omega
    · rintro D hD ys H5 ⟨zs, rfl, h1, B5, X5, k5, h3, h4⟩
      refine ⟨p, D, _, _, rfl, rfl, k5 _ _ hp pb, h1, by rw [sizeLine_eq, List.length_map, List.length_map]; have : (3 : Int).toNat = 3 := rfl; simp; omega, fun p1 np1 p2 np2 => ?_⟩
      have hp1 := upd_old (u := .lst [.int low, .int (h.s - 1)]) (upd_same (H := H5) (a := p1) (o := .lst ([h.s - 1 - x, h.f + y, 0 - z].map V.int ++ zs.map V.int))) np2
      have hp2 : upd (upd H5 p1 (.lst ([h.s - 1 - x, h.f + y, 0 - z].map V.int ++ zs.map V.int))) p2 (.lst [.int low, .int (h.s - 1)]) p2 = some (.lst ([low, h.s - 1].map V.int)) := upd_same
      have S6 : Same H5 (upd (upd H5 p1 (.lst ([h.s - 1 - x, h.f + y, 0 - z].map V.int ++ zs.map V.int))) p2 (.lst [.int low, .int (h.s - 1)])) := Same.step (.laid np1) np2
      revert hp1 hp2 S6
      generalize upd (upd H5 p1 (.lst ([h.s - 1 - x, h.f + y, 0 - z].map V.int ++ zs.map V.int))) p2 (.lst [.int low, .int (h.s - 1)]) = H6
      intro hp1 hp2 S6
      refine ⟨p1, p2, _, _, rfl, rfl, hp1, hp2, by rw [sizeLine_eq]; have : (3 : Int).toNat = 3 := rfl; simp; omega, fun l nl => ?_⟩
      rw [← List.map_append, ← List.map_append]
      have hl7 : upd H6 l (.lst (([h.s - 1 - x, h.f + y, 0 - z] ++ zs ++ [low, h.s - 1]).map V.int)) l = some (.lst (([h.s - 1 - x, h.f + y, 0 - z] ++ zs ++ [low, h.s - 1]).map V.int)) := upd_same
      have S7 := S6.step nl (u := .lst (([h.s - 1 - x, h.f + y, 0 - z] ++ zs ++ [low, h.s - 1]).map V.int))
      have lz : ∀ z' ∈ [h.s - 1 - x, h.f + y, 0 - z] ++ zs ++ [low, h.s - 1], z'.natAbs ≤ 10 ^ 61 := fun z' hz' => by
        have e1 : (10 : Int) ^ 60 + 10 ^ 8 + 10 ^ 9 + 1 ≤ ((10 ^ 61 : Nat) : Int) := by decide
        simp only [List.mem_append, List.mem_cons, List.not_mem_nil, or_false] at hz'
        rcases hz' with ((e | e | e) | m) | e | e
        case inl.inr => exact h4 z' m
        all_goals
          rw [e]
          generalize (10 : Int) ^ 60 = N at *
          generalize (10 : Nat) ^ 61 = M at *
          omega
      have ll : ([h.s - 1 - x, h.f + y, 0 - z] ++ zs ++ [low, h.s - 1]).length ≤ 8 := by
        have : (3 : Int).toNat = 3 := rfl
        simp; omega
      revert hl7 S7 lz ll
      generalize [h.s - 1 - x, h.f + y, 0 - z] ++ zs ++ [low, h.s - 1] = zs2
      generalize upd H6 l (.lst (zs2.map V.int)) = H7
      intro hl7 S7 lz ll
      have B7 := B5.keep S7
      have X7 := X5.same S7
      have k7 : Kp b H H7 := (k4.trans k5).trans fun q o e _ => S7 q o e
      have lb : l ≠ b := fun e => by obtain ⟨u, hb⟩ := bag_there (B5.keep S6); rw [e, hb] at nl; cases nl
      have lc : l ≠ c := fun e => by have := (B5.keep S6).at_; rw [← e, nl] at this; cases this
      have lH : H l = none := none_kp (k4.trans (k5.trans fun q o e _ => S6 q o e)) nl lb
      have lX : ∀ q ∈ h.ow, q ≠ l := fun q hq e => by
        obtain ⟨u, hu⟩ := (X5.same S6).alloc hq
        rw [e, nl] at hu; cases hu
      simp! [tBM]
      refine ⟨.inl ⟨rfl, _, .of hl7⟩, b, c, cs, low, h.s, h.f, rfl, B7, by omega, l1, sf, Int.le_trans f1 (by decide), fun r H8 rb B8 k8 => ?_⟩
      have hl8 := k8 _ _ hl7 lb
      refine ⟨l, _, _, rfl, rfl, hl8, by rw [sizeLine_eq, List.length_map]; omega, ?_⟩
      have X8 := X7.fr (B7.kfr k8) fun q hq e => nb (e ▸ hq)
      refine FIN l (zs2 ++ [r]) _ (by rw [List.map_append]; exact upd_same) (fun z' hz' => ?_) (X8.fr (.put (M := (· = l)) rfl (notTup_lst hl8)) fun q hq e => lX q hq e) (B8.other lb lc) ((k7.trans k8).new lH)
      rcases List.mem_append.mp hz' with m | m
      · exact lz z' m
      · rw [List.mem_singleton.mp m]; exact rb

end
section
variable {P : Program} {w : World} {K : PySem.W.Frag} {mg : Str → Option Value} {base : Heap} {a : Ad}
theorem cut_to (xs : List V) (k : Nat) : cutV xs none (some (k : Int)) = xs.take k := by
  unfold cutV
  rw [HT.sIx_nat, HT.sIx_none, List.drop_zero, Nat.sub_zero]
  by_cases c : k ≤ xs.length
  · rw [Nat.min_eq_left c]
  · rw [Nat.min_eq_right (by omega), List.take_of_length_le (Nat.le_refl _), List.take_of_length_le (by omega)]
theorem cut_from (xs : List V) (k : Nat) : cutV xs (some (k : Int)) none = xs.drop k := by
  unfold cutV
  rw [HT.sIx_nat, HT.sIx_none, List.take_of_length_le (by rw [List.length_drop]; omega)]
  by_cases c : k ≤ xs.length
  · rw [Nat.min_eq_left c]
  · rw [Nat.min_eq_right (by omega), List.drop_of_length_le (Nat.le_refl _), List.drop_of_length_le (by omega)]
theorem cutR {H : Hp} {l p1 : Addr} {xs A : List V} {th : V} {n : Nat} {Q : VK} (h1 : H p1 = some (.lst A)) (hl : H l = some (.lst xs)) (l1 : xs.length ≤ 1000) (l2 : A.length ≤ 1000) (q : ∀ p H', H p = none → Same H H' → H' p = some (.lst (A ++ [th] ++ xs.drop n)) → Q (.ref p) H') (p2 : Addr) (np2 : H p2 = none) : rCat (.ref p1) (.ref p2) (upd H p2 (.lst [th])) fun x H1 => rSlL K (.ref l) (some (n : Int)) none H1 fun y H2 => rCat x y H2 Q := by
  refine ⟨p1, p2, _, _, rfl, rfl, upd_old h1 np2, upd_same, by rw [sizeLine_eq]; simp; omega, fun p3 np3 => ?_⟩
  have hl3 := upd_old (u := .lst (A ++ [th])) (upd_old (u := .lst [th]) hl np2) np3
  refine ⟨l, _, rfl, .of hl3, fun p4 np4 => ?_⟩
  rw [cut_from]
  refine ⟨p3, p4, _, _, rfl, rfl, upd_old upd_same np4, upd_same, by rw [sizeLine_eq]; simp; omega, fun p5 np5 => ?_⟩
  have S5 := ((Same.laid np2 (u := .lst [th])).step np3 (u := .lst (A ++ [th]))).step np4 (u := .lst (xs.drop n))
  exact q p5 _ (S5.free np5) ((((Same.laid np2 (u := .lst [th])).step np3 (u := .lst (A ++ [th]))).step np4 (u := .lst (xs.drop n))).step np5) upd_same

/-- the yard, the bag, what is to be undone, and the roots -/
structure Lw (C b c ul rl : Addr) (cs : List Int) (h : Hs) (ps : List Addr) (us : List (Nat × Nat × Int)) (roots : List Int) (H : Hp) : Prop where
  at_ : HsAt C H h
  bag : BagAt H b c cs
  un : UnAt H ul ps us
  rts : H rl = some (.lst (roots.map V.int))
  ub : ul ≠ b
  rb : rl ≠ b
  uo : ul ∉ h.ow
  ro : rl ∉ h.ow
  bo : b ∉ h.ow
  co : c ∉ h.ow
section
variable {C b c ul rl : Addr} {cs : List Int} {h : Hs} {ps : List Addr} {us : List (Nat × Nat × Int)} {roots : List Int} {H H' : Hp}
theorem UnAt.fr {M : Addr → Prop} (x : UnAt H ul ps us) (F : Fr M H H') (n : ¬ M ul) : UnAt H' ul ps us := ⟨F.keep _ _ x.top n, x.len, fun i p u h1 h2 => F.tups _ _ (x.row i p u h1 h2)⟩
theorem Lw.drawn (x : Lw C b c ul rl cs h ps us roots H) (B : BagAt H' b c cs) (k : Kp b H H') : Lw C b c ul rl cs h ps us roots H' :=
  ⟨x.at_.fr (x.bag.kfr k) (fun q hq e => x.bo (e ▸ hq)), B, x.un.fr (x.bag.kfr k) x.ub, k _ _ x.rts x.rb, x.ub, x.rb, x.uo, x.ro, x.bo, x.co⟩
theorem Lw.same (x : Lw C b c ul rl cs h ps us roots H) (S : Same H H') : Lw C b c ul rl cs h ps us roots H' :=
  ⟨x.at_.same S, x.bag.keep S, x.un.fr (M := fun _ => False) (.of_same S) id, S _ _ x.rts, x.ub, x.rb, x.uo, x.ro, x.bo, x.co⟩
end
def spLaw (K : PySem.W.Frag) : Sp := fun vs H Q _ => ∃ (a : Addr) (ns : List Int), vs = [.ref a] ∧ SqL K H a (ns.map V.int) ∧ ns.length ≤ 63 ∧ ∀ H', Q (.bl true) H'
set_option maxHeartbeats 4000000 in
theorem ok_law (T : Txt K mg a) : FnOk P w K mg base (CX1 P w) 6 a.f_law a.d_law ["script"] (spLaw K) := by
  refine T.F_law.okC sc_law (fun vs H Q E h => ?_) (fun cdv A outer s H vs Q E hr h => ?_)
  · obtain ⟨r, ns, rfl, _⟩ := h
    rfl
  · obtain ⟨r, ns, rfl, hS, _, k⟩ := h
    have hu := hu_of hr
    refine ⟨_, (pss_cons (ps_set (i := 1) sc_law.nd (by rfl) (Or.inl rfl) (pe_call (ok_law_bag T) (hr.mono (by decide)) (by rfl) T.m_law_bag T.F_law_bag.kp T.b_law_bag .nil pass1 (pa_cons (pv 0) pa_nil)))
      (pss_cons (ps_set (i := 2) sc_law.nd (by rfl) (Or.inl rfl) (pe_call (ok_law_draw T) (hr.mono (by decide)) (by rfl) T.m_law_draw T.F_law_draw.kp T.b_law_draw .nil pass1 (pa_cons (pv 1) (pa_cons pe_int pa_nil))))
      (pss_cons (ps_set (i := 3) sc_law.nd (by rfl) (Or.inl rfl) (pe_call (ok_law_draw T) (hr.mono (by decide)) (by rfl) T.m_law_draw T.F_law_draw.kp T.b_law_draw .nil pass1 (pa_cons (pv 1) (pa_cons pe_int pa_nil))))
      (pss_cons (ps_asg (pe_call (ok_law_built T) (hr.mono (by decide)) (by rfl) T.m_law_built T.F_law_built.kp T.b_law_built .nil pass1 (pa_cons (pv 1) (pa_cons (pe_call (ok_law_draw T) (hr.mono (by decide)) (by rfl) T.m_law_draw T.F_law_draw.kp T.b_law_draw .nil pass1 (pa_cons (pv 1) (pa_cons pe_int pa_nil))) pa_nil))) (pg_tup (n := 4) (by rfl) (pgs_cons (pg_name (i := 4) sc_law.nd (by rfl) (Or.inl rfl)) (pgs_cons (pg_name (i := 5) sc_law.nd (by rfl) (Or.inl rfl)) (pgs_cons (pg_name (i := 6) sc_law.nd (by rfl) (Or.inl rfl)) (pgs_cons (pg_name (i := 7) sc_law.nd (by rfl) (Or.inl rfl)) pgs_nil))))))
      (pss_cons (ps_set (i := 8) sc_law.nd (by rfl) (Or.inl rfl) (pe_call (ok_law_free T) (hr.mono (by decide)) (by rfl) T.m_law_free T.F_law_free.kp T.b_law_free .nil pass1 (pa_cons (pv 7) (pa_cons (pv 5) pa_nil))))
      (pss_cons (ps_set (i := 9) sc_law.nd (by rfl) (Or.inl rfl) (pe_call (ok_law_spoilt T) (hr.mono (by decide)) (by rfl) T.m_law_spoilt T.F_law_spoilt.kp T.b_law_spoilt .nil pass1 (pa_cons (pv 1) (pa_cons (pv 4) (pa_cons (pv 5) (pa_cons (pv 6) (pa_cons (pv 7) pa_nil)))))))
      (pss_cons (ps_set (i := 10) sc_law.nd (by rfl) (Or.inl rfl) (pe_call (ok_law_roots T) (hr.mono (by decide)) (by rfl) T.m_law_roots T.F_law_roots.kp T.b_law_roots .nil pass1 (pa_cons (pv 1) (pa_cons (pv 5) pa_nil))))
      (pss_cons (ps_set (i := 11) sc_law.nd (by rfl) (Or.inl rfl) (pe_callTy call_list_of (by rfl) T.z_list (by decide +kernel) (pa_cons (pv 10) pa_nil)))
      (pss_cons (ps_for PassesOwn.never (by rfl) (pi_range1 (by rfl) T.z_range (pa_cons (pv 3) pa_nil)) (pg_name (i := 12) sc_law.nd (by rfl) (Or.inl rfl))
      (pss_cons (ps_set (i := 13) sc_law.nd (by rfl) (Or.inl rfl) (pe_call (ok_law_draw T) (hr.mono (by decide)) (by rfl) T.m_law_draw T.F_law_draw.kp T.b_law_draw .nil pass1 (pa_cons (pv 1) (pa_cons (pe_op op_add (pe_callB call_lenF (by rfl) T.z_len (by decide +kernel) (pa_cons (pv 11) pa_nil)) pe_int) pa_nil))))
      (pss_one (ps_set (i := 11) sc_law.nd (by rfl) (Or.inl rfl) (pe_op op_cat (pe_op op_cat (pe_slice sl_list (pv 11) po_none (po_some (pv 13))) (pe_lst (pa_cons (pe_call (ok_law_bad T) (hr.mono (by decide)) (by rfl) T.m_law_bad T.F_law_bad.kp T.b_law_bad .nil pass1 (pa_cons (pv 1) (pa_cons (pv 6) (pa_cons (pv 7) (pa_cons (pv 8) pa_nil))))) pa_nil))) (pe_slice sl_list (pv 11) (po_some (pv 13)) po_none))))))
      (pss_cons (ps_for PassesOwn.never (by rfl) (pi_range1 (by rfl) T.z_range (pa_cons pe_int pa_nil)) (pg_name (i := 12) sc_law.nd (by rfl) (Or.inl rfl))
      (pss_cons (ps_set (i := 14) sc_law.nd (by rfl) (Or.inl rfl) (pe_call (ok_law_bad T) (hr.mono (by decide)) (by rfl) T.m_law_bad T.F_law_bad.kp T.b_law_bad .nil pass1 (pa_cons (pv 1) (pa_cons (pv 6) (pa_cons (pv 7) (pa_cons (pv 8) pa_nil))))))
      (pss_cons (ps_if (PW.pt (pw_and (pt_cmpR op_eq (pe_op op_mod (pe_op op_add (pv 12) (pv 2)) pe_int) pe_int (nomark _)) (pw_and1 (pt_not (pt_val (pe_call (ok_law_size_asked T) (hr.mono (by decide)) (by rfl) T.m_law_size_asked T.F_law_size_asked.kp T.b_law_size_asked .nil pass1 (pa_cons (pv 4) (pa_cons (pv 5) (pa_cons (pv 14) pa_nil))))))))) (pss_one (ps_ret pe_bl)) pss_nil)
      (pss_cons (ps_if (PW.pt (pw_and (pt_cmpR op_eq (pv 12) pe_int (nomark _)) (pw_and1 (pt_not (pt_val (pe_call (ok_law_carted_asked T) (hr.mono (by decide)) (by rfl) T.m_law_carted_asked T.F_law_carted_asked.kp T.b_law_carted_asked .nil pass1 (pa_cons (pv 4) (pa_cons (pv 5) (pa_cons (pv 11) (pa_cons (pv 8) pa_nil)))))))))) (pss_one (ps_ret pe_bl)) pss_nil)
      (pss_one (ps_if (PW.pt (pw_and (pt_cmpR op_eq (pv 12) pe_int (nomark _)) (pw_and1 (pt_not (pt_val (pe_call (ok_law_carted_asked T) (hr.mono (by decide)) (by rfl) T.m_law_carted_asked T.F_law_carted_asked.kp T.b_law_carted_asked .nil pass1 (pa_cons (pv 4) (pa_cons (pv 5) (pa_cons (pv 10) (pa_cons (pv 8) pa_nil)))))))))) (pss_one (ps_ret pe_bl)) pss_nil))))))
      (pss_cons (ps_if (pt_not (pt_val (pe_call (ok_law_spots_refused T) (hr.mono (by decide)) (by rfl) T.m_law_spots_refused T.F_law_spots_refused.kp T.b_law_spots_refused .nil pass1 (pa_cons (pv 1) (pa_cons (pv 4) (pa_cons (pv 6) (pa_cons (pv 7) (pa_cons (pv 8) (pa_cons (pv 2) pa_nil))))))))) (pss_one (ps_ret pe_bl)) pss_nil)
      (pss_cons (ps_set (i := 15) sc_law.nd (by rfl) (Or.inl rfl) (pe_ix ix_F (pv 5) (pe_call (ok_law_draw T) (hr.mono (by decide)) (by rfl) T.m_law_draw T.F_law_draw.kp T.b_law_draw .nil pass1 (pa_cons (pv 1) (pa_cons (pe_callB call_lenF (by rfl) T.z_len (by decide +kernel) (pa_cons (pv 5) pa_nil)) pa_nil))) (fun _ _ => rfl)))
      (pss_cons (ps_if (pt_not (pt_val (pe_call (ok_law_no_spot T) (hr.mono (by decide)) (by rfl) T.m_law_no_spot T.F_law_no_spot.kp T.b_law_no_spot .nil pass1 (pa_cons (pv 4) (pa_cons (pe_ix ix_F (pv 15) pe_int (fun _ _ => rfl)) (pa_cons pe_int pa_nil)))))) (pss_one (ps_ret pe_bl)) pss_nil)
      (pss_cons (ps_if (PW.pt (pw_or (pt_not (pt_val (pe_call (ok_law_told T) (hr.mono (by decide)) (by rfl) T.m_law_told T.F_law_told.kp T.b_law_told .nil pass1 (pa_cons (pe_meth0 (pv 4) T.cl_Yard T.M_Yard_told (ok_Yard_told T) (hr.mono (by decide)) T.b_Yard_told .nil pass1) (pa_cons (pv 5) pa_nil))))) (pw_or1 (pt_cmpR op_ne (pe_fld (pv 4) (by rfl)) (pv 8) (nomark _))))) (pss_one (ps_ret pe_bl)) pss_nil)
      (pss_cons (ps_for PassesOwn.never (by rfl) (pi_list (pv 9)) (pg_tup (n := 3) (by rfl) (pgs_cons (pg_name (i := 13) sc_law.nd (by rfl) (Or.inl rfl)) (pgs_cons (pg_name (i := 16) sc_law.nd (by rfl) (Or.inl rfl)) (pgs_cons (pg_name (i := 17) sc_law.nd (by rfl) (Or.inl rfl)) pgs_nil))))
      (pss_one (ps_expr (pe_call (ok_law_field T) (hr.mono (by decide)) (by rfl) T.m_law_field T.F_law_field.kp T.b_law_field .nil pass1 (pa_cons (pv 4) (pa_cons (pv 5) (pa_cons (pv 13) (pa_cons (pv 16) (pa_cons (pv 17) pa_nil)))))))))
      (pss_one (ps_ret (pe_and (pe_call (ok_law_carted_asked T) (hr.mono (by decide)) (by rfl) T.m_law_carted_asked T.F_law_carted_asked.kp T.b_law_carted_asked .nil pass1 (pa_cons (pv 4) (pa_cons (pv 5) (pa_cons (pv 10) (pa_cons (pv 8) pa_nil))))) (pe_one (pe_call (ok_law_told T) (hr.mono (by decide)) (by rfl) T.m_law_told T.F_law_told.kp T.b_law_told .nil pass1 (pa_cons (pe_meth0 (pv 4) T.cl_Yard T.M_Yard_told (ok_Yard_told T) (hr.mono (by decide)) T.b_Yard_told .nil pass1) (pa_cons (pv 5) pa_nil)))))))))))))))))))))), ?_⟩
    generalize hG2 : tSeq (tFor (iRng1 _) _ _) (tSeq (tIfS _ _ _) _) = tail2
    generalize hG : tSeq (tFor (iRng1 _) _ _) tail2 = tail
    simp! []
    refine ⟨r, ns, rfl, hS, fun b c cs H1 nb nc B1 S1 => ?_⟩
    simp! []
    refine ⟨b, c, cs, _, rfl, B1, by decide, by decide, fun od H2 d0 d1 B2 k2 => ?_⟩
    simp! []
    refine ⟨b, c, cs, _, rfl, B2, by decide, by decide, fun bn H3 bn0 bn1 B3 k3 => ?_⟩
    simp! []
    refine ⟨b, c, cs, _, rfl, B3, by decide, by decide, fun ag H4 ag0 ag1 B4 k4 => ?_⟩
    simp! []
    refine ⟨b, c, cs, ag, rfl, B4, fun p h low H5 hp X5 B5 nb5 nc5 l0 l400 f1 lw0 lw1 => ?_⟩
    refine gTup_of hp rfl ?_
    simp! []
    refine ⟨h.tl, h.as, h.ts, h.s, h.f, rfl, X5.rows, X5.lay, by omega, fun H6 S6 => ?_⟩
    simp! []
    refine ⟨b, c, cs, h, low, rfl, B5.keep S6, X5.same S6, nb5, nc5, by omega, Int.le_trans f1 (by decide), by omega, lw1, fun ts' ul ps us H7 W7 U7 uok ulen nul => ?_⟩
    simp! []
    have lt := W7.len
    have X7 := W7.at_
    have dr : ∀ {H'}, BagAt H' b c cs → Kp b H7 H' → HsAt a.c_Yard H' { h with ts := ts' } := fun B' k' => X7.fr (W7.bag.kfr k') fun q hq e => nb5 (e ▸ hq)
    refine ⟨b, c, h.tl, cs, h.as, ts', rfl, W7.bag, fun H' B' k' => (dr B' k').rows, by omega, by omega, fun rl roots H8 nrl hrl lr gr B8 k8 => ?_⟩
    have ulb : ul ≠ b := fun e => by obtain ⟨u, hb⟩ := bag_there (B5.keep S6); rw [e, hb] at nul; cases nul
    have ulo : ul ∉ h.ow := fun m => by obtain ⟨u, hb⟩ := (X5.same S6).alloc m; rw [nul] at hb; cases hb
    have rlb : rl ≠ b := fun e => by obtain ⟨u, hb⟩ := bag_there W7.bag; rw [e, hb] at nrl; cases nrl
    have rlo : rl ∉ h.ow := fun m => by obtain ⟨u, hb⟩ := X7.alloc m; rw [nrl] at hb; cases hb
    have W8 : Lw a.c_Yard b c ul rl cs { h with ts := ts' } ps us roots H8 := ⟨dr B8 k8, B8, U7.fr (W7.bag.kfr k8) ulb, hrl, ulb, rlb, ulo, rlo, nb5, nc5⟩
    have hf2 : h.f ≤ 10 ^ 60 + 10 ^ 9 := Int.le_trans f1 (by decide)
    have ok := X7.thok (by show ts'.length ≤ 500; omega) hf2
    have glog : ∀ h ∈ roots, h.natAbs.log2 < 1920 := fun z hz => by
      rcases gr z hz with e | ⟨t, ht, e⟩
      · rw [e]; decide
      · rw [← e]; exact ok.log t ht
    have uok' := uok.tri (ts' := ts') W7.em
    have hle := X7.lay.le
    have hs1 := X7.s0
    dsimp only at hle hs1 ok
    clear dr X7 W7 U7 uok k8 hrl B8 nul nrl hp X5 B5 S6 gr
    simp! []
    refine ⟨_, .inl (.of W8.rts), fun sl0 nsl0 => ?_⟩
    have W9 := W8.same (.laid (u := .lst (roots.map V.int)) nsl0)
    have hsl : upd H8 sl0 (.lst (roots.map V.int)) sl0 = some (.lst (roots.map V.int)) := upd_same
    have slb : sl0 ≠ b := fun e => by obtain ⟨u, hb⟩ := bag_there W8.bag; rw [e, hb] at nsl0; cases nsl0
    revert W9 hsl
    generalize upd H8 sl0 (.lst (roots.map V.int)) = H9
    intro W9 hsl
    obtain ⟨bN, rfl⟩ := Int.eq_ofNat_of_zero_le bn0
    obtain ⟨hd, hdE⟩ : ∃ hd : Hs, hd = { h with ts := ts' } := ⟨_, rfl⟩
    have e1 : h.yd = hd.yd := by rw [hdE]
    have e2 : h.tl = hd.tl := by rw [hdE]
    have e3 : h.s = hd.s := by rw [hdE]
    have e4 : h.f = hd.f := by rw [hdE]
    have e5 : ts' = hd.ts := by rw [hdE]
    rw [← hdE] at W9
    rw [e1, e2, e3, e4]
    rw [e5] at lt ok uok'
    rw [e3, e4] at hle
    rw [e3] at hs1 lw1
    rw [e4] at f1 hf2
    have lts : hd.ts.length ≤ 400 := by omega
    have l0' : 0 < hd.ts.length := by omega
    clear e1 e2 e3 e4 e5 hdE W8 ulo rlo l0 l400 lt nb5 nc5
    subst hG
    simp! []
    refine for1 (H1 := H9) (bN : Int) (fun Q2 h2 => by simp! []; exact h2) (by omega) (by omega) (fun i σ H4 => ∃ (sl : Addr) (srs : List Int) (v12 v13 : Option V), σ = [some (V.ref r), some (V.ref b), some (V.int od), some (V.int bN), some (V.ref hd.yd.p), some (V.ref hd.tl), some (V.int low), some (V.int hd.s), some (V.int hd.f), some (V.ref ul), some (V.ref rl), some (V.ref sl), v12, v13, none, none, none, none] ∧ Lw a.c_Yard b c ul rl cs hd ps us roots H4 ∧ H4 sl = some (.lst (srs.map V.int)) ∧ sl ≠ b ∧ srs.length ≤ 400 + i ∧ ∀ z ∈ srs, z.natAbs.log2 < 1920)
      ⟨sl0, roots, _, _, rfl, W9, hsl, slb, lr, glog⟩ ?_ ?_
    · clear W9 hsl slb
      rintro i σ H4 hi ⟨sl, srs, v12, v13, rfl, W, hsl, slb, ls, gs⟩
      simp! [hsl, List.length_map]
      refine ⟨b, c, cs, _, rfl, W.bag, by omega, by omega, fun x H5 x0 x1 B5 k5 => ?_⟩
      obtain ⟨xN, rfl⟩ := Int.eq_ofNat_of_zero_le x0
      have W5 := W.drawn B5 k5
      have hsl5 := k5 _ _ hsl slb
      simp! [tSl, tPart, tNoPart]
      refine ⟨sl, _, rfl, .of hsl5, fun p1 np1 => ?_⟩
      rw [cut_to]
      have W6 := W5.same (.laid (u := .lst ((srs.map V.int).take xN)) np1)
      have hs6 := upd_old (u := .lst ((srs.map V.int).take xN)) hsl5 np1
      have hp6 : upd H5 p1 (.lst ((srs.map V.int).take xN)) p1 = some (.lst ((srs.map V.int).take xN)) := upd_same
      have p1b : p1 ≠ b := fun e => by obtain ⟨u, hb⟩ := bag_there W5.bag; rw [e, hb] at np1; cases np1
      revert W6 hs6 hp6
      generalize upd H5 p1 (.lst ((srs.map V.int).take xN)) = H6
      intro W6 hs6 hp6
      refine ⟨b, c, cs, low, hd.s, hd.f, rfl, W6.bag, by omega, lw1, hle, hf2, fun z H7 zb B7 k7 => ?_⟩
      have W7 := W6.drawn B7 k7
      have hs7 := k7 _ _ hs6 slb
      have hp7 := k7 _ _ hp6 p1b
      refine cutR (K := K) (n := xN) (th := .int z) hp7 hs7 (by rw [List.length_map]; omega) ?_ ?_
      · rw [List.length_take, List.length_map]; omega
      · intro p2 H8 np2 S8 hp2
        have p2b : p2 ≠ b := fun e => by obtain ⟨u, hb⟩ := bag_there B7; rw [e, hb] at np2; cases np2
        refine ⟨p2, rfl, W7.same S8, srs.take xN ++ [z] ++ srs.drop xN, by rw [hp2, List.map_append, List.map_append, List.map_take, List.map_drop]; rfl, p2b, by simp; omega, fun y hy => ?_⟩
        simp only [List.mem_append, List.mem_singleton] at hy
        rcases hy with (m | m) | m
        · exact gs y (List.mem_of_mem_take m)
        · rw [m]; exact big_log zb
        · exact gs y (List.mem_of_mem_drop m)
    · clear W9 hsl slb
      rintro σ H4 ⟨sl, srs, v12, v13, rfl, W, hsl, slb, ls, gs⟩
      replace ls : srs.length ≤ 403 := by omega
      subst hG2
      generalize hG3 : tSeq (tIfS (tNot (tB (tCall (sp_refused _) _ _ _))) _ _) _ = tail3
      simp! []
      have FIN : ∀ (v12 v14 : Option V) (H4 : Hp), Lw a.c_Yard b c ul rl cs hd ps us roots H4 → tail3 { nx := fun _ H' => Q .non H', rt := Q } [some (V.ref r), some (V.ref b), some (V.int od), some (V.int bN), some (V.ref hd.yd.p), some (V.ref hd.tl), some (V.int low), some (V.int hd.s), some (V.int hd.f), some (V.ref ul), some (V.ref rl), some (V.ref sl), v12, v13, v14, none, none, none] H4 := by
        intro v12 v14 H4 W
        subst hG3
        simp! []
        refine ⟨b, c, cs, hd, low, od, rfl, W.bag, W.at_, W.bo, by omega, Int.le_trans f1 (by decide), lw0, lw1, fun H5 X5 B5 k5 => ⟨true, rfl, ?_⟩⟩
        rw [if_neg (by simp)]
        have W5 := W.drawn B5 k5
        have top5 := W5.at_.rows.top
        have la : hd.as.length = hd.ts.length := W5.at_.rows.len
        simp! [top5, List.length_map, la]
        refine ⟨b, c, cs, _, rfl, W5.bag, by omega, by omega, fun x H6 x0 x1 B6 k6 => ?_⟩
        obtain ⟨xN, rfl⟩ := Int.eq_ofNat_of_zero_le x0
        have W6 := W5.drawn B6 k6
        have xl : xN < hd.ts.length := by omega
        obtain ⟨bb, r0, r1, r2, r3, r4⟩ := thAt_i W6.at_ (i := xN) (List.getElem?_eq_getElem xl)
        have mx := List.getElem_mem xl
        refine ⟨_, rfl, _, by rw [r0]; rfl, _, r1, _, rfl, _, by rw [r2]; rfl, _, atI_0, hd.yd, hd.ts, hd.s, hd.f, _, 1, rfl, W6.at_.yard, by omega, ok.log _ mx, .inr ⟨by decide, _, mx, rfl⟩, fun H7 S7 => ⟨true, rfl, ?_⟩⟩
        rw [if_neg (by simp)]
        have W7 := W6.same S7
        have i7 := W7.at_.yard.ins
        have told : ∀ {H' : Hp} {h : Hs} {Q2 : VK}, HsAt a.c_Yard H' h → h.ts.length ≤ 410 → h.f ≤ 10 ^ 60 + 10 ^ 9 → (∀ H3, Same H' H3 → Q2 (.bl true) H3) → sp_told a.c_Yard [.ref h.yd.p] H' (fun x H1 => sp_toldq [x, .ref h.tl] H1 Q2 E0) E0 := fun {H' h Q2} X b1 b2 q2 => by
          have ok := X.thok (by omega) b2
          exact ⟨h.yd, h.s, h.f, h.ts, rfl, X.yard, X.lay, by omega, fun t ht => ⟨(ok.small t ht).1, (ok.small t ht).2, ok.log t ht⟩, fun l as5 H5 S5 nl RT => ⟨l, h.tl, as5, h.as, h.ts, rfl, RT, X.rows.same S5, by omega, ok.small, fun H6 S6 => q2 _ (S5.trans S6)⟩⟩
        refine ⟨_, _, i7, yF_meth.2.2.2.2.2.2.2.2, told W7.at_ (by omega) hf2 fun H8 S8 => ⟨true, rfl, ?_⟩⟩
        rw [if_neg (by simp)]
        have W8 := W7.same S8
        have i8 := W8.at_.yard.ins
        simp! [i8, T.cl_Yard, T.n_free, yF_free, yF_len]
        refine forL (H1 := H8) ul (ps.map V.ref) (fun Q2 h2 => by simp! []; exact h2) (fun i σ H9 => ∃ (ts2 : List Th) (v13 v16 v17 : Option V), σ = [some (V.ref r), some (V.ref b), some (V.int od), some (V.int bN), some (V.ref hd.yd.p), some (V.ref hd.tl), some (V.int low), some (V.int hd.s), some (V.int hd.f), some (V.ref ul), some (V.ref rl), some (V.ref sl), v12, v13, v14, some (V.ref bb.1), v16, v17] ∧ Lw a.c_Yard b c ul rl cs { hd with ts := ts2 } ps us roots H9 ∧ ts2.map thTri = hd.ts.map thTri)
          ⟨hd.ts, _, _, _, rfl, W8, rfl⟩ (fun i σ H9 _ ⟨_, _, _, _, _, W9, _⟩ => .of W9.un.top) ?_ ?_
        · rintro i x σ H9 hi ⟨ts2, v13, v16, v17, rfl, W9, em⟩
          obtain ⟨pa, hpa, rfl⟩ := of_map_get hi
          have il : i < us.length := by rw [← W9.un.len]; exact (List.getElem?_eq_some_iff.mp hpa).1
          have row := W9.un.row i pa _ hpa (List.getElem?_eq_getElem il)
          obtain ⟨t, ht, j1, j2⟩ := uok'.tri em us[i] (List.getElem_mem il)
          refine gTup_of row rfl ?_
          revert ht j1 j2
          generalize us[i] = u
          intro ht j1 j2
          simp! []
          have lt2 : ts2.length = hd.ts.length := by have := congrArg List.length em; simpa using this
          obtain ⟨g, Wg, hg⟩ := W9.at_.wo W9.bag W9.bo W9.co
          have mt := List.mem_of_getElem? ht
          have io : ∀ q, q = hd.yd.dw ∨ q ∈ lsOf hd.as → q ∈ hd.ow := fun q m => mem_ow.mpr (by rcases m with m | m <;> simp [m])
          refine ⟨g, hd.yd, hd.tl, hd.as, ts2, t, hd.s, hd.f, u.2.2, u.1, u.2.1, rfl, W9.at_.yard, W9.at_.rows, Wg.tags, W9.at_.lay, by omega, ht, by omega, ?_, by rw [Wg.gtl]; simp, fun HC YC RC FC => ?_⟩
          · have a1 := W9.at_.lay.mem mt
            have a4 : thSz t = 1 + t.2.1.length + t.2.2.length := rfl
            dsimp only at a1
            refine log_small' (Nat.lt_of_le_of_lt (m := 10 ^ 61) ?_ (by decide))
            have p : (10 : Int) ^ 60 + 10 ^ 8 < ((10 ^ 61 : Nat) : Int) := by decide
            generalize (10 : Nat) ^ 61 = N at *
            omega
          · have F2 := FC.mono (M' := fun q => q = hd.yd.dw ∨ q ∈ lsOf hd.as) fun q m => m.imp id (hg q)
            have em2 := map_set_same (f := thTri) ht (setF_tri (t := t) (j := u.2.1) (v := u.2.2))
            exact ⟨_, ⟨W9.at_.setf YC RC em2 F2 (W9.at_.good.set ht j2), W9.bag.fr' F2 (fun m => W9.bo (io _ m)) (fun m => W9.co (io _ m)), W9.un.fr F2 (fun m => W9.uo (io _ m)), F2.keep _ _ W9.rts (fun m => W9.ro (io _ m)), W9.ub, W9.rb, W9.uo, W9.ro, W9.bo, W9.co⟩, em2.trans em⟩
        · rintro σ H9 ⟨ts2, v13, v16, v17, rfl, W9, em⟩
          have lt2 : ts2.length = hd.ts.length := by have := congrArg List.length em; simpa using this
          have ok9 := W9.at_.thok (by show ts2.length ≤ 500; omega) hf2
          simp! []
          refine ⟨hd.yd, hd.tl, rl, hd.as, ts2, hd.s, hd.f, roots, rfl, W9.at_.yard, W9.at_.rows, W9.at_.lay, ok9, W9.rts, ⟨glog, W9.at_.good, by omega, by omega, Int.le_trans f1 (by decide)⟩, hf2, fun H10 S10 => ?_⟩
          have W10 := W9.same S10
          have i10 := W10.at_.yard.ins
          dsimp only at i10
          refine ⟨true, rfl, ?_⟩
          rw [if_pos rfl]
          exact ⟨_, _, i10, yF_meth.2.2.2.2.2.2.2.2, told (h := { hd with ts := ts2 }) W10.at_ (by show ts2.length ≤ 410; omega) hf2 fun H11 S11 => k _⟩
      refine for1 (H1 := H4) 4 (fun Q2 h2 => by simp! []; exact h2) (by decide) (by decide) (fun i σ H4 => ∃ (v12 v14 : Option V), σ = [some (V.ref r), some (V.ref b), some (V.int od), some (V.int bN), some (V.ref hd.yd.p), some (V.ref hd.tl), some (V.int low), some (V.int hd.s), some (V.int hd.f), some (V.ref ul), some (V.ref rl), some (V.ref sl), v12, v13, v14, none, none, none] ∧ Lw a.c_Yard b c ul rl cs hd ps us roots H4 ∧ H4 sl = some (.lst (srs.map V.int)))
        ⟨_, _, rfl, W, hsl⟩ ?_ ?_
      · clear W hsl
        rintro i σ H4 hi ⟨v12, v14, rfl, W, hsl⟩
        simp! []
        refine ⟨b, c, cs, low, hd.s, hd.f, rfl, W.bag, by omega, lw1, hle, hf2, fun z H5 zb B5 k5 => ?_⟩
        have W5 := W.drawn B5 k5
        have hsl5 := k5 _ _ hsl slb
        have fin : ∀ H', Same H5 H' → Lw a.c_Yard b c ul rl cs hd ps us roots H' ∧ H' sl = some (.lst (srs.map V.int)) := fun H' S' => ⟨W5.same S', S' _ _ hsl5⟩
        have sas : ∀ (H' : Hp) (R : Hp → Prop), Same H5 H' → (∀ H'', Same H5 H'' → R H'') → sp_sasked a.c_Yard [.ref hd.yd.p, .ref hd.tl, .int z] H' (fun x H1 => ∃ c, x = V.bl c ∧ if c = false then Q (V.bl false) H1 else R H1) E0 := fun H' R S' k' => by
          have X' := W5.at_.same S'
          refine ⟨hd.yd, hd.tl, hd.as, hd.ts, hd.s, hd.f, z, rfl, X'.yard, X'.rows, X'.lay, by omega, big_log zb, fun H6 S6 => ⟨true, rfl, ?_⟩⟩
          rw [if_neg (by simp)]
          exact k' _ (S'.trans S6)
        have cas : ∀ (l : Addr) (rs : List Int) (H' : Hp) (R : Hp → Prop), H5 l = some (.lst (rs.map V.int)) → rs.length ≤ 403 → (∀ z ∈ rs, z.natAbs.log2 < 1920) → Same H5 H' → (∀ H'', Same H5 H'' → R H'') → sp_casked a.c_Yard [.ref hd.yd.p, .ref hd.tl, .ref l, .int hd.f] H' (fun x H1 => ∃ c, x = V.bl c ∧ if c = false then Q (V.bl false) H1 else R H1) E0 := fun l rs H' R hl ll lg S' k' => by
          have X' := W5.at_.same S'
          refine ⟨hd.yd, hd.tl, l, hd.as, hd.ts, hd.s, hd.f, rs, rfl, X'.yard, X'.rows, X'.lay, ok, S' _ _ hl, ⟨lg, X'.good, by omega, by omega, Int.le_trans f1 (by decide)⟩, hf2, fun H6 S6 => ⟨true, rfl, ?_⟩⟩
          rw [if_neg (by simp)]
          exact k' _ (S'.trans S6)
        have casS := fun H' R => cas sl srs H' R hsl5 ls gs
        have casR := fun H' R => cas rl roots H' R W5.rts (by omega) glog
        have S55 : Same H5 H5 := fun _ _ e => e
        simp! []
        refine ⟨by decide, ite2 (fun _ => sas _ _ S55 fun H6 S6 => ?_) fun _ => ?_⟩
        · refine ite2 (fun _ => casS _ _ S6 fun H7 S7 => ?_) fun _ => ?_
          · exact ite2 (fun _ => casR _ _ S7 fun H8 S8 => fin _ S8) fun _ => fin _ S7
          · exact ite2 (fun _ => casR _ _ S6 fun H8 S8 => fin _ S8) fun _ => fin _ S6
        · refine ite2 (fun _ => casS _ _ S55 fun H7 S7 => ?_) fun _ => ?_
          · exact ite2 (fun _ => casR _ _ S7 fun H8 S8 => fin _ S8) fun _ => fin _ S7
          · exact ite2 (fun _ => casR _ _ S55 fun H8 S8 => fin _ S8) fun _ => fin _ S55
      · rintro σ H4 ⟨v12, v14, rfl, W, hsl⟩
        exact FIN _ _ _ W

end
set_option maxHeartbeats 4000000 in
theorem all_mk {l : PySem.W.OpenLaw} {w : World} {K : PySem.W.Frag} {h : Heap} {mg : Str → Option Value} {fa : Addr} {C_Yard : Addr} {X_NoSpot : Addr} {X_NoThing : Addr} {X_HoldError : Addr} {X_NoText : Addr} {X_NotFormed : Addr} {X_NoTable : Addr} {X_Faulty : Addr} {f0 f1 f2 f3 f4 f5 f6 f7 f8 f9 f10 f11 f12 f13 f14 f15 f16 f17 f18 f19 f20 f21 f22 f23 f24 f25 f26 f27 f28 f29 f30 f31 f32 f33 f34 f35 f36 : Addr}
    (X : K.In h) (G : h.Ns mainGlobals mg) (hfa : mg "law" = some (.ref fa))
    (aC_Yard : PySem.W.nsIn K mainGlobals "Yard" = some (some (.ref C_Yard)))
    (pg_Yard : PySem.W.plainGet K C_Yard Str.empty = true)
    (hd_Yard : PySem.W.hasDictIn K C_Yard = true)
    (po_Yard : PySem.W.plainOver K C_Yard = true)
    (sa_Yard : PySem.W.findIn K (.ref C_Yard) "__setattr__" = some (some (.builtin "object.__setattr__")))
    (mk_Yard : PySem.W.makesIn K C_Yard = true)
    (kc_Yard : PySem.W.keepIn K (.ref C_Yard) = true)
    (nA_free : PySem.W.findIn K (.ref C_Yard) "free" = some none)
    (nA_words : PySem.W.findIn K (.ref C_Yard) "words" = some none)
    (nA_sizes : PySem.W.findIn K (.ref C_Yard) "sizes" = some none)
    (aX_NoSpot : PySem.W.nsIn K mainGlobals "NoSpot" = some (some (.ref X_NoSpot))) (qX_NoSpot : XCls K X_NoSpot)
    (aX_NoThing : PySem.W.nsIn K mainGlobals "NoThing" = some (some (.ref X_NoThing))) (qX_NoThing : XCls K X_NoThing)
    (aX_HoldError : PySem.W.nsIn K mainGlobals "HoldError" = some (some (.ref X_HoldError)))
    (aX_NoText : PySem.W.nsIn K mainGlobals "NoText" = some (some (.ref X_NoText)))
    (aX_NotFormed : PySem.W.nsIn K mainGlobals "NotFormed" = some (some (.ref X_NotFormed)))
    (aX_NoTable : PySem.W.nsIn K mainGlobals "NoTable" = some (some (.ref X_NoTable)))
    (aX_Faulty : PySem.W.nsIn K mainGlobals "Faulty" = some (some (.ref X_Faulty)))
    (xT : HT.xTab K X_HoldError [X_HoldError, X_NoSpot, X_NoThing, X_NoText, X_NotFormed, X_NoTable, X_Faulty] = true)
    (a0 : PySem.W.nsIn K mainGlobals "head" = some (some (.ref f0)))
    (F0 : ∃ fd, Fun K "head" "head" s_head f0 fd)
    (a1 : PySem.W.findIn K (.ref C_Yard) "__init__" = some (some (.ref f1))) (i1 : PySem.W.isFn K (.ref f1) = true)
    (F1 : ∃ fd, Fun K "__init__" "Yard.__init__" s_Yard___init f1 fd)
    (a2 : PySem.W.findIn K (.ref C_Yard) "make" = some (some (.ref f2))) (i2 : PySem.W.isFn K (.ref f2) = true)
    (F2 : ∃ fd, Fun K "make" "Yard.make" s_Yard_make f2 fd)
    (a3 : PySem.W.findIn K (.ref C_Yard) "is_thing" = some (some (.ref f3))) (i3 : PySem.W.isFn K (.ref f3) = true)
    (F3 : ∃ fd, Fun K "is_thing" "Yard.is_thing" s_Yard_is_thing f3 fd)
    (a4 : PySem.W.findIn K (.ref C_Yard) "size_of" = some (some (.ref f4))) (i4 : PySem.W.isFn K (.ref f4) = true)
    (F4 : ∃ fd, Fun K "size_of" "Yard.size_of" s_Yard_size_of f4 fd)
    (a5 : PySem.W.findIn K (.ref C_Yard) "word" = some (some (.ref f5))) (i5 : PySem.W.isFn K (.ref f5) = true)
    (F5 : ∃ fd, Fun K "word" "Yard.word" s_Yard_word f5 fd)
    (a6 : PySem.W.findIn K (.ref C_Yard) "set_word" = some (some (.ref f6))) (i6 : PySem.W.isFn K (.ref f6) = true)
    (F6 : ∃ fd, Fun K "set_word" "Yard.set_word" s_Yard_set_word f6 fd)
    (a7 : PySem.W.findIn K (.ref C_Yard) "words_from" = some (some (.ref f7))) (i7 : PySem.W.isFn K (.ref f7) = true)
    (F7 : ∃ fd, Fun K "words_from" "Yard.words_from" s_Yard_words_from f7 fd)
    (a8 : PySem.W.findIn K (.ref C_Yard) "holds_of" = some (some (.ref f8))) (i8 : PySem.W.isFn K (.ref f8) = true)
    (F8 : ∃ fd, Fun K "holds_of" "Yard.holds_of" s_Yard_holds_of f8 fd)
    (a9 : PySem.W.findIn K (.ref C_Yard) "numbers_of" = some (some (.ref f9))) (i9 : PySem.W.isFn K (.ref f9) = true)
    (F9 : ∃ fd, Fun K "numbers_of" "Yard.numbers_of" s_Yard_numbers_of f9 fd)
    (a10 : PySem.W.findIn K (.ref C_Yard) "told" = some (some (.ref f10))) (i10 : PySem.W.isFn K (.ref f10) = true)
    (F10 : ∃ fd, Fun K "told" "Yard.told" s_Yard_told f10 fd)
    (a11 : PySem.W.nsIn K mainGlobals "lay_held" = some (some (.ref f11)))
    (F11 : ∃ fd, Fun K "lay_held" "lay_held" s_lay_held f11 fd)
    (a12 : PySem.W.nsIn K mainGlobals "lay_words" = some (some (.ref f12)))
    (F12 : ∃ fd, Fun K "lay_words" "lay_words" s_lay_words f12 fd)
    (a13 : PySem.W.nsIn K mainGlobals "carted" = some (some (.ref f13)))
    (F13 : ∃ fd, Fun K "carted" "carted" s_carted f13 fd)
    (a14 : PySem.W.nsIn K mainGlobals "_law_bag" = some (some (.ref f14)))
    (F14 : ∃ fd, Fun K "_law_bag" "_law_bag" s_law_bag f14 fd)
    (a15 : PySem.W.nsIn K mainGlobals "_law_draw" = some (some (.ref f15)))
    (F15 : ∃ fd, Fun K "_law_draw" "_law_draw" s_law_draw f15 fd)
    (a16 : PySem.W.nsIn K mainGlobals "_law_whole" = some (some (.ref f16)))
    (F16 : ∃ fd, Fun K "_law_whole" "_law_whole" s_law_whole f16 fd)
    (a17 : PySem.W.nsIn K mainGlobals "_law_start" = some (some (.ref f17)))
    (F17 : ∃ fd, Fun K "_law_start" "_law_start" s_law_start f17 fd)
    (a18 : PySem.W.nsIn K mainGlobals "_law_worth" = some (some (.ref f18)))
    (F18 : ∃ fd, Fun K "_law_worth" "_law_worth" s_law_worth f18 fd)
    (a19 : PySem.W.nsIn K mainGlobals "_law_size" = some (some (.ref f19)))
    (F19 : ∃ fd, Fun K "_law_size" "_law_size" s_law_size f19 fd)
    (a20 : PySem.W.nsIn K mainGlobals "_law_told" = some (some (.ref f20)))
    (F20 : ∃ fd, Fun K "_law_told" "_law_told" s_law_told f20 fd)
    (a21 : PySem.W.nsIn K mainGlobals "_law_many" = some (some (.ref f21)))
    (F21 : ∃ fd, Fun K "_law_many" "_law_many" s_law_many f21 fd)
    (a22 : PySem.W.nsIn K mainGlobals "_law_hold" = some (some (.ref f22)))
    (F22 : ∃ fd, Fun K "_law_hold" "_law_hold" s_law_hold f22 fd)
    (a23 : PySem.W.nsIn K mainGlobals "_law_field" = some (some (.ref f23)))
    (F23 : ∃ fd, Fun K "_law_field" "_law_field" s_law_field f23 fd)
    (a24 : PySem.W.nsIn K mainGlobals "_law_filled" = some (some (.ref f24)))
    (F24 : ∃ fd, Fun K "_law_filled" "_law_filled" s_law_filled f24 fd)
    (a25 : PySem.W.nsIn K mainGlobals "_law_roots" = some (some (.ref f25)))
    (F25 : ∃ fd, Fun K "_law_roots" "_law_roots" s_law_roots f25 fd)
    (a26 : PySem.W.nsIn K mainGlobals "_law_carted" = some (some (.ref f26)))
    (F26 : ∃ fd, Fun K "_law_carted" "_law_carted" s_law_carted f26 fd)
    (a27 : PySem.W.nsIn K mainGlobals "_law_pairs" = some (some (.ref f27)))
    (F27 : ∃ fd, Fun K "_law_pairs" "_law_pairs" s_law_pairs f27 fd)
    (a28 : PySem.W.nsIn K mainGlobals "_law_free" = some (some (.ref f28)))
    (F28 : ∃ fd, Fun K "_law_free" "_law_free" s_law_free f28 fd)
    (a29 : PySem.W.nsIn K mainGlobals "_law_bad" = some (some (.ref f29)))
    (F29 : ∃ fd, Fun K "_law_bad" "_law_bad" s_law_bad f29 fd)
    (a30 : PySem.W.nsIn K mainGlobals "_law_spoilt" = some (some (.ref f30)))
    (F30 : ∃ fd, Fun K "_law_spoilt" "_law_spoilt" s_law_spoilt f30 fd)
    (a31 : PySem.W.nsIn K mainGlobals "_law_carted_asked" = some (some (.ref f31)))
    (F31 : ∃ fd, Fun K "_law_carted_asked" "_law_carted_asked" s_law_carted_asked f31 fd)
    (a32 : PySem.W.nsIn K mainGlobals "_law_size_asked" = some (some (.ref f32)))
    (F32 : ∃ fd, Fun K "_law_size_asked" "_law_size_asked" s_law_size_asked f32 fd)
    (a33 : PySem.W.nsIn K mainGlobals "_law_no_spot" = some (some (.ref f33)))
    (F33 : ∃ fd, Fun K "_law_no_spot" "_law_no_spot" s_law_no_spot f33 fd)
    (a34 : PySem.W.nsIn K mainGlobals "_law_built" = some (some (.ref f34)))
    (F34 : ∃ fd, Fun K "_law_built" "_law_built" s_law_built f34 fd)
    (a35 : PySem.W.nsIn K mainGlobals "_law_spots_refused" = some (some (.ref f35)))
    (F35 : ∃ fd, Fun K "_law_spots_refused" "_law_spots_refused" s_law_spots_refused f35 fd)
    (a36 : PySem.W.nsIn K mainGlobals "law" = some (some (.ref f36)))
    (F36 : ∃ fd, Fun K "law" "law" s_law f36 fd)
    (z_ValueError : PySem.W.nsIn K mainGlobals "ValueError" = some none)
    (z_abs : PySem.W.nsIn K mainGlobals "abs" = some none)
    (z_bool : PySem.W.nsIn K mainGlobals "bool" = some none)
    (z_enumerate : PySem.W.nsIn K mainGlobals "enumerate" = some none)
    (z_int : PySem.W.nsIn K mainGlobals "int" = some none)
    (z_isinstance : PySem.W.nsIn K mainGlobals "isinstance" = some none)
    (z_len : PySem.W.nsIn K mainGlobals "len" = some none)
    (z_list : PySem.W.nsIn K mainGlobals "list" = some none)
    (z_max : PySem.W.nsIn K mainGlobals "max" = some none)
    (z_range : PySem.W.nsIn K mainGlobals "range" = some none)
    (z_sorted : PySem.W.nsIn K mainGlobals "sorted" = some none)
    (z_sum : PySem.W.nsIn K mainGlobals "sum" = some none)
    (z_tuple : PySem.W.nsIn K mainGlobals "tuple" = some none)
    (z_zip : PySem.W.nsIn K mainGlobals "zip" = some none) :
    ∃ fd : FuncData, (∀ (s : Shared) (v : Value), BindsTo s fd ⟨[v], []⟩ [("script", v)]) ∧ ∀ base : Heap, K.In base → base.Ns mainGlobals mg → FnOk l.prog w K mg base (CX1 l.prog w) 6 fa fd ["script"] (spLaw K) := by
  have e := hfa.symm.trans (PySem.W.mg_of X G a36)
  cases e
  obtain ⟨_, F0⟩ := F0
  have b0 := F0.binds (ps := ["h", "m"]) fun _ _ _ _ _ _ us hl => match us, hl with | [_, _], _ => rfl
  obtain ⟨_, F1⟩ := F1
  have b1 := F1.binds (ps := ["self", "start"]) fun _ _ _ _ _ _ us hl => match us, hl with | [_, _], _ => rfl
  obtain ⟨_, F2⟩ := F2
  have b2 := F2.binds (ps := ["self", "h", "m"]) fun _ _ _ _ _ _ us hl => match us, hl with | [_, _, _], _ => rfl
  obtain ⟨_, F3⟩ := F3
  have b3 := F3.binds (ps := ["self", "at"]) fun _ _ _ _ _ _ us hl => match us, hl with | [_, _], _ => rfl
  obtain ⟨_, F4⟩ := F4
  have b4 := F4.binds (ps := ["self", "at"]) fun _ _ _ _ _ _ us hl => match us, hl with | [_, _], _ => rfl
  obtain ⟨_, F5⟩ := F5
  have b5 := F5.binds (ps := ["self", "spot"]) fun _ _ _ _ _ _ us hl => match us, hl with | [_, _], _ => rfl
  obtain ⟨_, F6⟩ := F6
  have b6 := F6.binds (ps := ["self", "spot", "word"]) fun _ _ _ _ _ _ us hl => match us, hl with | [_, _, _], _ => rfl
  obtain ⟨_, F7⟩ := F7
  have b7 := F7.binds (ps := ["self", "first", "many"]) fun _ _ _ _ _ _ us hl => match us, hl with | [_, _, _], _ => rfl
  obtain ⟨_, F8⟩ := F8
  have b8 := F8.binds (ps := ["self", "at"]) fun _ _ _ _ _ _ us hl => match us, hl with | [_, _], _ => rfl
  obtain ⟨_, F9⟩ := F9
  have b9 := F9.binds (ps := ["self", "at"]) fun _ _ _ _ _ _ us hl => match us, hl with | [_, _], _ => rfl
  obtain ⟨_, F10⟩ := F10
  have b10 := F10.binds (ps := ["self"]) fun _ _ _ _ _ _ us hl => match us, hl with | [_], _ => rfl
  obtain ⟨_, F11⟩ := F11
  have b11 := F11.binds (ps := ["yard", "fresh", "holds", "places", "pairs"]) fun _ _ _ _ _ _ us hl => match us, hl with | [_, _, _, _, _], _ => rfl
  obtain ⟨_, F12⟩ := F12
  have b12 := F12.binds (ps := ["fresh", "first", "words"]) fun _ _ _ _ _ _ us hl => match us, hl with | [_, _, _], _ => rfl
  obtain ⟨_, F13⟩ := F13
  have b13 := F13.binds (ps := ["yard", "roots"]) fun _ _ _ _ _ _ us hl => match us, hl with | [_, _], _ => rfl
  obtain ⟨_, F14⟩ := F14
  have b14 := F14.binds (ps := ["script"]) fun _ _ _ _ _ _ us hl => match us, hl with | [_], _ => rfl
  obtain ⟨_, F15⟩ := F15
  have b15 := F15.binds (ps := ["bag", "many"]) fun _ _ _ _ _ _ us hl => match us, hl with | [_, _], _ => rfl
  obtain ⟨_, F16⟩ := F16
  have b16 := F16.binds (ps := ["found"]) fun _ _ _ _ _ _ us hl => match us, hl with | [_], _ => rfl
  obtain ⟨_, F17⟩ := F17
  have b17 := F17.binds (ps := ["bag"]) fun _ _ _ _ _ _ us hl => match us, hl with | [_], _ => rfl
  obtain ⟨_, F18⟩ := F18
  have b18 := F18.binds (ps := ["bag"]) fun _ _ _ _ _ _ us hl => match us, hl with | [_], _ => rfl
  obtain ⟨_, F19⟩ := F19
  have b19 := F19.binds (ps := ["bag"]) fun _ _ _ _ _ _ us hl => match us, hl with | [_], _ => rfl
  obtain ⟨_, F20⟩ := F20
  have b20 := F20.binds (ps := ["found", "things"]) fun _ _ _ _ _ _ us hl => match us, hl with | [_, _], _ => rfl
  obtain ⟨_, F21⟩ := F21
  have b21 := F21.binds (ps := ["bag"]) fun _ _ _ _ _ _ us hl => match us, hl with | [_], _ => rfl
  obtain ⟨_, F22⟩ := F22
  have b22 := F22.binds (ps := ["bag", "things", "k", "chain"]) fun _ _ _ _ _ _ us hl => match us, hl with | [_, _, _, _], _ => rfl
  obtain ⟨_, F23⟩ := F23
  have b23 := F23.binds (ps := ["yard", "things", "k", "j", "worth"]) fun _ _ _ _ _ _ us hl => match us, hl with | [_, _, _, _, _], _ => rfl
  obtain ⟨_, F24⟩ := F24
  have b24 := F24.binds (ps := ["bag", "yard"]) fun _ _ _ _ _ _ us hl => match us, hl with | [_, _], _ => rfl
  obtain ⟨_, F25⟩ := F25
  have b25 := F25.binds (ps := ["bag", "things"]) fun _ _ _ _ _ _ us hl => match us, hl with | [_, _], _ => rfl
  obtain ⟨_, F26⟩ := F26
  have b26 := F26.binds (ps := ["things", "roots", "free"]) fun _ _ _ _ _ _ us hl => match us, hl with | [_, _, _], _ => rfl
  obtain ⟨_, F27⟩ := F27
  have b27 := F27.binds (ps := ["found", "due"]) fun _ _ _ _ _ _ us hl => match us, hl with | [_, _], _ => rfl
  obtain ⟨_, F28⟩ := F28
  have b28 := F28.binds (ps := ["start", "things"]) fun _ _ _ _ _ _ us hl => match us, hl with | [_, _], _ => rfl
  obtain ⟨_, F29⟩ := F29
  have b29 := F29.binds (ps := ["bag", "low", "start", "free"]) fun _ _ _ _ _ _ us hl => match us, hl with | [_, _, _, _], _ => rfl
  obtain ⟨_, F30⟩ := F30
  have b30 := F30.binds (ps := ["bag", "yard", "things", "low", "start"]) fun _ _ _ _ _ _ us hl => match us, hl with | [_, _, _, _, _], _ => rfl
  obtain ⟨_, F31⟩ := F31
  have b31 := F31.binds (ps := ["yard", "things", "roots", "free"]) fun _ _ _ _ _ _ us hl => match us, hl with | [_, _, _, _], _ => rfl
  obtain ⟨_, F32⟩ := F32
  have b32 := F32.binds (ps := ["yard", "things", "at"]) fun _ _ _ _ _ _ us hl => match us, hl with | [_, _, _], _ => rfl
  obtain ⟨_, F33⟩ := F33
  have b33 := F33.binds (ps := ["yard", "spot", "way"]) fun _ _ _ _ _ _ us hl => match us, hl with | [_, _, _], _ => rfl
  obtain ⟨_, F34⟩ := F34
  have b34 := F34.binds (ps := ["bag", "again"]) fun _ _ _ _ _ _ us hl => match us, hl with | [_, _], _ => rfl
  obtain ⟨_, F35⟩ := F35
  have b35 := F35.binds (ps := ["bag", "yard", "low", "start", "free", "order"]) fun _ _ _ _ _ _ us hl => match us, hl with | [_, _, _, _, _, _], _ => rfl
  obtain ⟨_, F36⟩ := F36
  obtain ⟨_, _, _, _, _, _, _, _, _, e_, _, _⟩ := F36.ex
  subst e_
  have b36 := F36.binds (ps := ["script"]) fun _ _ _ _ _ _ us hl => match us, hl with | [_], _ => rfl
  have T : Txt K mg ⟨_, _, _, _, _, _, _, _, _, _, _, _, _, _, _, _, _, _, _, _, _, _, _, _, _, _, _, _, _, _, _, _, _, _, _, _, _, _, _, _, _, _, _, _, _, _, _, _, _, _, _, _, _, _, _, _, _, _, _, _, _, _, _, _, _, _, _, _, _, _, _, _, _, _, _, _, _, _, _, _, _, _⟩ := ⟨⟨pg_Yard, hd_Yard, po_Yard, sa_Yard⟩, PySem.W.mg_of X G aC_Yard, ⟨mk_Yard, a1, i1, kc_Yard⟩, nA_free, nA_words, nA_sizes, qX_NoSpot, PySem.W.mg_of X G aX_NoSpot, qX_NoThing, PySem.W.mg_of X G aX_NoThing, PySem.W.mg_of X G aX_HoldError, PySem.W.mg_of X G aX_NoText, PySem.W.mg_of X G aX_NotFormed, PySem.W.mg_of X G aX_NoTable, PySem.W.mg_of X G aX_Faulty, HT.xTab_of xT, F0, b0, PySem.W.mg_of X G a0, F1, b1, F2, b2, ⟨a2, i2, F2.kp⟩, F3, b3, ⟨a3, i3, F3.kp⟩, F4, b4, ⟨a4, i4, F4.kp⟩, F5, b5, ⟨a5, i5, F5.kp⟩, F6, b6, ⟨a6, i6, F6.kp⟩, F7, b7, ⟨a7, i7, F7.kp⟩, F8, b8, ⟨a8, i8, F8.kp⟩, F9, b9, ⟨a9, i9, F9.kp⟩, F10, b10, ⟨a10, i10, F10.kp⟩, F11, b11, PySem.W.mg_of X G a11, F12, b12, PySem.W.mg_of X G a12, F13, b13, PySem.W.mg_of X G a13, F14, b14, PySem.W.mg_of X G a14, F15, b15, PySem.W.mg_of X G a15, F16, b16, PySem.W.mg_of X G a16, F17, b17, PySem.W.mg_of X G a17, F18, b18, PySem.W.mg_of X G a18, F19, b19, PySem.W.mg_of X G a19, F20, b20, PySem.W.mg_of X G a20, F21, b21, PySem.W.mg_of X G a21, F22, b22, PySem.W.mg_of X G a22, F23, b23, PySem.W.mg_of X G a23, F24, b24, PySem.W.mg_of X G a24, F25, b25, PySem.W.mg_of X G a25, F26, b26, PySem.W.mg_of X G a26, F27, b27, PySem.W.mg_of X G a27, F28, b28, PySem.W.mg_of X G a28, F29, b29, PySem.W.mg_of X G a29, F30, b30, PySem.W.mg_of X G a30, F31, b31, PySem.W.mg_of X G a31, F32, b32, PySem.W.mg_of X G a32, F33, b33, PySem.W.mg_of X G a33, F34, b34, PySem.W.mg_of X G a34, F35, b35, PySem.W.mg_of X G a35, F36, b36, PySem.W.mg_of X G a36, PySem.W.mg_none_of X G z_ValueError, PySem.W.mg_none_of X G z_abs, PySem.W.mg_none_of X G z_bool, PySem.W.mg_none_of X G z_enumerate, PySem.W.mg_none_of X G z_int, PySem.W.mg_none_of X G z_isinstance, PySem.W.mg_none_of X G z_len, PySem.W.mg_none_of X G z_list, PySem.W.mg_none_of X G z_max, PySem.W.mg_none_of X G z_range, PySem.W.mg_none_of X G z_sorted, PySem.W.mg_none_of X G z_sum, PySem.W.mg_none_of X G z_tuple, PySem.W.mg_none_of X G z_zip⟩
  exact ⟨_, fun s v => .of_eq rfl, fun base _ _ => ok_law T⟩
theorem walk {l : PySem.W.OpenLaw} {q : Program} {loose : List Str} {XP : (Str → Option Value) → Heap → Prop} {YP : World → Heap → Prop} {d : DefRec} {K : Params → PySem.W.Frag} (hn : l.most = some 63) (hdf : d.params.defaults = [])
    (hY : ∀ (w : World) (h : Heap), YP w h → (K w.params).In h)
    (F : ∀ (w : World) (mg : Str → Option Value) (fa : Addr) (h : Heap), (K w.params).In h → h.Ns mainGlobals mg → mg d.name = some (.ref fa) →
      ∃ fd : FuncData, (∀ (s : Shared) (u : Value), BindsTo s fd ⟨[u], []⟩ [("script", u)]) ∧ ∀ base : Heap, (K w.params).In base → base.Ns mainGlobals mg → FnOk l.prog w (K w.params) mg base (CX1 l.prog w) 6 fa fd ["script"] (spLaw (K w.params))) :
    PySem.W.WalkO q loose XP YP l.row.toRowW d [] (fun f vs => PySem.call f vs) :=
  L2.walk_of (n := 63) (k := 6) (x := "script") (CX := fun w => (CX1 l.prog w)) (sp := fun w => spLaw (K w.params)) hn (by decide) hdf ⟨rfl, by decide, by decide⟩ hY F (fun _ _ a ns hl _ hS => ⟨a, ns, rfl, hS, hl, fun _ => rfl⟩) (fun _ _ _ _ _ z => by obtain ⟨_, _, _, _, _, _, _, _, _, _, _, _, z⟩ := z; exact z)
end Law
open PySem PySem.W PyProof.Rows
theorem PySem.W.Fast.tw10107682523468692291 : True := trivial
theorem PySem.W.Fast.tw10229787579809368230 : True := trivial
theorem PySem.W.Fast.tw10372201219124633999 : True := trivial
theorem PySem.W.Fast.tw10394684625292678341 : True := trivial
theorem PySem.W.Fast.tw10431333412243045143 : True := trivial
theorem PySem.W.Fast.tw10434514252172945427 : True := trivial
theorem PySem.W.Fast.tw10538787742879890438 : True := trivial
theorem PySem.W.Fast.tw10624462161596262617 : True := trivial
theorem PySem.W.Fast.tw10656879196314588646 : True := trivial
theorem PySem.W.Fast.tw10690140979083304341 : True := trivial
theorem PySem.W.Fast.tw10774054012317151798 : True := trivial
theorem PySem.W.Fast.tw1080452263935345007 : True := trivial
theorem PySem.W.Fast.tw10851417518083448898 : True := trivial
theorem PySem.W.Fast.tw10868722467278449884 : True := trivial
theorem PySem.W.Fast.tw10906982137881929805 : True := trivial
theorem PySem.W.Fast.tw10952752305511972948 : True := trivial
theorem PySem.W.Fast.tw11032519191895666998 : True := trivial
theorem PySem.W.Fast.tw11123519612298465594 : True := trivial
theorem PySem.W.Fast.tw11133390212276298140 : True := trivial
theorem PySem.W.Fast.tw11137874800466278827 : True := trivial
theorem PySem.W.Fast.tw11275720141072572273 : True := trivial
theorem PySem.W.Fast.tw11310033545664219258 : True := trivial
theorem PySem.W.Fast.tw11367357589507436081 : True := trivial
theorem PySem.W.Fast.tw11385488573048546239 : True := trivial
theorem PySem.W.Fast.tw11396476045249607750 : True := trivial
theorem PySem.W.Fast.tw11411208467850102707 : True := trivial
theorem PySem.W.Fast.tw11439124235158079383 : True := trivial
theorem PySem.W.Fast.tw114441923443611976 : True := trivial
theorem PySem.W.Fast.tw11480628225861420334 : True := trivial
theorem PySem.W.Fast.tw11486272061244538296 : True := trivial
theorem PySem.W.Fast.tw11504923297426903746 : True := trivial
theorem PySem.W.Fast.tw11543584540871364480 : True := trivial
theorem PySem.W.Fast.tw11551856939564403891 : True := trivial
theorem PySem.W.Fast.tw11569854726197256113 : True := trivial
theorem PySem.W.Fast.tw11579327515951834789 : True := trivial
theorem PySem.W.Fast.tw11650543036636819744 : True := trivial
theorem PySem.W.Fast.tw1181779953498206401 : True := trivial
theorem PySem.W.Fast.tw11832170826216496014 : True := trivial
theorem PySem.W.Fast.tw11853606011929238153 : True := trivial
theorem PySem.W.Fast.tw11878367475501665968 : True := trivial
theorem PySem.W.Fast.tw11930976132015187490 : True := trivial
theorem PySem.W.Fast.tw12036806805309598653 : True := trivial
theorem PySem.W.Fast.tw1204416863479271800 : True := trivial
theorem PySem.W.Fast.tw12048973323928302352 : True := trivial
theorem PySem.W.Fast.tw12118099691796800575 : True := trivial
theorem PySem.W.Fast.tw122025098976869936 : True := trivial
theorem PySem.W.Fast.tw12209055919844582084 : True := trivial
theorem PySem.W.Fast.tw1221424646478150568 : True := trivial
theorem PySem.W.Fast.tw12241643379980168601 : True := trivial
theorem PySem.W.Fast.tw12279503721214407021 : True := trivial
theorem PySem.W.Fast.tw12304895149709147388 : True := trivial
theorem PySem.W.Fast.tw12413300293048223482 : True := trivial
theorem PySem.W.Fast.tw12688072897821316538 : True := trivial
theorem PySem.W.Fast.tw12700492040354563880 : True := trivial
theorem PySem.W.Fast.tw12772270099166591923 : True := trivial
theorem PySem.W.Fast.tw12799811279529853763 : True := trivial
theorem PySem.W.Fast.tw12834915022629679807 : True := trivial
theorem PySem.W.Fast.tw12855987728318717956 : True := trivial
theorem PySem.W.Fast.tw1287670060157430755 : True := trivial
theorem PySem.W.Fast.tw12904824740045990873 : True := trivial
theorem PySem.W.Fast.tw12993276984476456837 : True := trivial
theorem PySem.W.Fast.tw13068156049615311494 : True := trivial
theorem PySem.W.Fast.tw13101473386320507867 : True := trivial
theorem PySem.W.Fast.tw13121206243796449882 : True := trivial
theorem PySem.W.Fast.tw13174327213385817833 : True := trivial
theorem PySem.W.Fast.tw13226101374655811527 : True := trivial
theorem PySem.W.Fast.tw13267838626373900597 : True := trivial
theorem PySem.W.Fast.tw13300859397639928401 : True := trivial
theorem PySem.W.Fast.tw13301065925298762329 : True := trivial
theorem PySem.W.Fast.tw13355421753903233729 : True := trivial
theorem PySem.W.Fast.tw13385514070399222072 : True := trivial
theorem PySem.W.Fast.tw13429352308188344732 : True := trivial
theorem PySem.W.Fast.tw13461013496038718815 : True := trivial
theorem PySem.W.Fast.tw13503388410437394026 : True := trivial
theorem PySem.W.Fast.tw13646769019341433993 : True := trivial
theorem PySem.W.Fast.tw13677646881953034561 : True := trivial
theorem PySem.W.Fast.tw13699806997230053761 : True := trivial
theorem PySem.W.Fast.tw13706019704047219842 : True := trivial
theorem PySem.W.Fast.tw1374285376784339764 : True := trivial
theorem PySem.W.Fast.tw13747111210369218101 : True := trivial
theorem PySem.W.Fast.tw1377326073620981274 : True := trivial
theorem PySem.W.Fast.tw13798371458373623475 : True := trivial
theorem PySem.W.Fast.tw13808046718226559590 : True := trivial
theorem PySem.W.Fast.tw13847264771496327498 : True := trivial
theorem PySem.W.Fast.tw13862750474885291279 : True := trivial
theorem PySem.W.Fast.tw13927881317110805002 : True := trivial
theorem PySem.W.Fast.tw13939870413948854245 : True := trivial
theorem PySem.W.Fast.tw13962735924689611712 : True := trivial
theorem PySem.W.Fast.tw14022146388014456706 : True := trivial
theorem PySem.W.Fast.tw14116117040044762548 : True := trivial
theorem PySem.W.Fast.tw14197059646289395927 : True := trivial
theorem PySem.W.Fast.tw14217129043304966742 : True := trivial
theorem PySem.W.Fast.tw14233948354131184876 : True := trivial
theorem PySem.W.Fast.tw14292222103194787199 : True := trivial
theorem PySem.W.Fast.tw14294252714760646867 : True := trivial
theorem PySem.W.Fast.tw14320588832318216614 : True := trivial
theorem PySem.W.Fast.tw14342215337445516550 : True := trivial
theorem PySem.W.Fast.tw14378055497860465780 : True := trivial
theorem PySem.W.Fast.tw14438808231400799814 : True := trivial
theorem PySem.W.Fast.tw14490679213109303870 : True := trivial
theorem PySem.W.Fast.tw14600163138293899620 : True := trivial
theorem PySem.W.Fast.tw14606855471862834128 : True := trivial
theorem PySem.W.Fast.tw14658854853493835798 : True := trivial
theorem PySem.W.Fast.tw14661118941059009567 : True := trivial
theorem PySem.W.Fast.tw14678794425455240502 : True := trivial
theorem PySem.W.Fast.tw14701130757479521212 : True := trivial
theorem PySem.W.Fast.tw14725226945485088495 : True := trivial
theorem PySem.W.Fast.tw14847389336514330362 : True := trivial
theorem PySem.W.Fast.tw1485731729967005057 : True := trivial
theorem PySem.W.Fast.tw14929028770879520982 : True := trivial
theorem PySem.W.Fast.tw1499860568876709823 : True := trivial
theorem PySem.W.Fast.tw15041428804411316343 : True := trivial
theorem PySem.W.Fast.tw15137758344906291343 : True := trivial
theorem PySem.W.Fast.tw15317557004522022256 : True := trivial
theorem PySem.W.Fast.tw15323891389862761879 : True := trivial
theorem PySem.W.Fast.tw15362020576163006342 : True := trivial
theorem PySem.W.Fast.tw15424692269141593245 : True := trivial
theorem PySem.W.Fast.tw15430322315393279276 : True := trivial
theorem PySem.W.Fast.tw15498298772801150487 : True := trivial
theorem PySem.W.Fast.tw15505056948014096467 : True := trivial
theorem PySem.W.Fast.tw15596603275223479720 : True := trivial
theorem PySem.W.Fast.tw15702047598769102922 : True := trivial
theorem PySem.W.Fast.tw15705561740836206839 : True := trivial
theorem PySem.W.Fast.tw15726258610578568626 : True := trivial
theorem PySem.W.Fast.tw1573043813597826353 : True := trivial
theorem PySem.W.Fast.tw15807518694935018038 : True := trivial
theorem PySem.W.Fast.tw15829436782317101811 : True := trivial
theorem PySem.W.Fast.tw15875758863803868685 : True := trivial
theorem PySem.W.Fast.tw15937199756560073954 : True := trivial
theorem PySem.W.Fast.tw1600845897782734049 : True := trivial
theorem PySem.W.Fast.tw16088305571709802231 : True := trivial
theorem PySem.W.Fast.tw16102468754798842823 : True := trivial
theorem PySem.W.Fast.tw16189927549997439629 : True := trivial
theorem PySem.W.Fast.tw16216521467702456097 : True := trivial
theorem PySem.W.Fast.tw16225597135149495551 : True := trivial
theorem PySem.W.Fast.tw16378357262560727631 : True := trivial
theorem PySem.W.Fast.tw1639444943593475468 : True := trivial
theorem PySem.W.Fast.tw16567905747762825234 : True := trivial
theorem PySem.W.Fast.tw16568816006007132085 : True := trivial
theorem PySem.W.Fast.tw16619975673331167661 : True := trivial
theorem PySem.W.Fast.tw16672090597121396535 : True := trivial
theorem PySem.W.Fast.tw16685616522847613081 : True := trivial
theorem PySem.W.Fast.tw16689141835060033084 : True := trivial
theorem PySem.W.Fast.tw16705455937746661082 : True := trivial
theorem PySem.W.Fast.tw16722401915832314808 : True := trivial
theorem PySem.W.Fast.tw16805752062030984451 : True := trivial
theorem PySem.W.Fast.tw16850043744473342266 : True := trivial
theorem PySem.W.Fast.tw16921012907353854520 : True := trivial
theorem PySem.W.Fast.tw17014503138864598813 : True := trivial
theorem PySem.W.Fast.tw17047286731804780114 : True := trivial
theorem PySem.W.Fast.tw17187095930082946830 : True := trivial
theorem PySem.W.Fast.tw17196635857097469097 : True := trivial
theorem PySem.W.Fast.tw17235915848058955667 : True := trivial
theorem PySem.W.Fast.tw17287956562066967755 : True := trivial
theorem PySem.W.Fast.tw17324488938034312062 : True := trivial
theorem PySem.W.Fast.tw17331837710629605895 : True := trivial
theorem PySem.W.Fast.tw1736533286148341349 : True := trivial
theorem PySem.W.Fast.tw17374036112306024937 : True := trivial
theorem PySem.W.Fast.tw17375592621524445319 : True := trivial
theorem PySem.W.Fast.tw17528529654839013419 : True := trivial
theorem PySem.W.Fast.tw17601517701729028780 : True := trivial
theorem PySem.W.Fast.tw17637064338477874503 : True := trivial
theorem PySem.W.Fast.tw17654039312659141552 : True := trivial
theorem PySem.W.Fast.tw17671631270672299134 : True := trivial
theorem PySem.W.Fast.tw177069123925873329 : True := trivial
theorem PySem.W.Fast.tw17743071707847366743 : True := trivial
theorem PySem.W.Fast.tw17776595384784231257 : True := trivial
theorem PySem.W.Fast.tw17792868821890973314 : True := trivial
theorem PySem.W.Fast.tw17832468841955197914 : True := trivial
theorem PySem.W.Fast.tw17855474465847005273 : True := trivial
theorem PySem.W.Fast.tw17870344421391339635 : True := trivial
theorem PySem.W.Fast.tw1790001091837843503 : True := trivial
theorem PySem.W.Fast.tw17902293134020063777 : True := trivial
theorem PySem.W.Fast.tw1799154307451550631 : True := trivial
theorem PySem.W.Fast.tw18095473415060309337 : True := trivial
theorem PySem.W.Fast.tw18175357638269230288 : True := trivial
theorem PySem.W.Fast.tw18242183293743166888 : True := trivial
theorem PySem.W.Fast.tw18294071930709285002 : True := trivial
theorem PySem.W.Fast.tw18300162311274105897 : True := trivial
theorem PySem.W.Fast.tw18320410017260694474 : True := trivial
theorem PySem.W.Fast.tw18401090086216654719 : True := trivial
theorem PySem.W.Fast.tw18418862067287874971 : True := trivial
theorem PySem.W.Fast.tw1854934625224258740 : True := trivial
theorem PySem.W.Fast.tw1893026424258984761 : True := trivial
theorem PySem.W.Fast.tw1931535300230646301 : True := trivial
theorem PySem.W.Fast.tw1991398711408141113 : True := trivial
theorem PySem.W.Fast.tw1996876424732990942 : True := trivial
theorem PySem.W.Fast.tw2005187495248269550 : True := trivial
theorem PySem.W.Fast.tw2012650608616725177 : True := trivial
theorem PySem.W.Fast.tw2019106171145202603 : True := trivial
theorem PySem.W.Fast.tw2025156386183960884 : True := trivial
theorem PySem.W.Fast.tw2109358664704015009 : True := trivial
theorem PySem.W.Fast.tw2145104162004086508 : True := trivial
theorem PySem.W.Fast.tw2164116106269011638 : True := trivial
theorem PySem.W.Fast.tw2242306710847406167 : True := trivial
theorem PySem.W.Fast.tw2269941355759376452 : True := trivial
theorem PySem.W.Fast.tw2302430883431260944 : True := trivial
theorem PySem.W.Fast.tw2309866032624469327 : True := trivial
theorem PySem.W.Fast.tw2388931164526409863 : True := trivial
theorem PySem.W.Fast.tw2444638868781301964 : True := trivial
theorem PySem.W.Fast.tw2522291187454619798 : True := trivial
theorem PySem.W.Fast.tw261087226612897497 : True := trivial
theorem PySem.W.Fast.tw2629319907760360939 : True := trivial
theorem PySem.W.Fast.tw273982928156578279 : True := trivial
theorem PySem.W.Fast.tw2779602338266736251 : True := trivial
theorem PySem.W.Fast.tw2792649053177655655 : True := trivial
theorem PySem.W.Fast.tw2847967019705373477 : True := trivial
theorem PySem.W.Fast.tw2849321676062996051 : True := trivial
theorem PySem.W.Fast.tw3012518198605610061 : True := trivial
theorem PySem.W.Fast.tw3044519566403697945 : True := trivial
theorem PySem.W.Fast.tw3106348903737732264 : True := trivial
theorem PySem.W.Fast.tw325136488324663001 : True := trivial
theorem PySem.W.Fast.tw3283404931980647240 : True := trivial
theorem PySem.W.Fast.tw3298875786332177470 : True := trivial
theorem PySem.W.Fast.tw3452844602461036178 : True := trivial
theorem PySem.W.Fast.tw3460537333705972115 : True := trivial
theorem PySem.W.Fast.tw3499581368920485464 : True := trivial
theorem PySem.W.Fast.tw3629210398745095460 : True := trivial
theorem PySem.W.Fast.tw3631558552391547260 : True := trivial
theorem PySem.W.Fast.tw3641848578919298621 : True := trivial
theorem PySem.W.Fast.tw3647452667958466558 : True := trivial
theorem PySem.W.Fast.tw3909597455983998158 : True := trivial
theorem PySem.W.Fast.tw3913861780721918413 : True := trivial
theorem PySem.W.Fast.tw4006719706960645805 : True := trivial
theorem PySem.W.Fast.tw4052827992368314809 : True := trivial
theorem PySem.W.Fast.tw4057876597368589524 : True := trivial
theorem PySem.W.Fast.tw4135998566706213427 : True := trivial
theorem PySem.W.Fast.tw418705772364889579 : True := trivial
theorem PySem.W.Fast.tw4217752842246864950 : True := trivial
theorem PySem.W.Fast.tw4225849728000248696 : True := trivial
theorem PySem.W.Fast.tw4308979427182706964 : True := trivial
theorem PySem.W.Fast.tw4326665060362849109 : True := trivial
theorem PySem.W.Fast.tw4340684489032066647 : True := trivial
theorem PySem.W.Fast.tw4399484235306586699 : True := trivial
theorem PySem.W.Fast.tw4457239717229652966 : True := trivial
theorem PySem.W.Fast.tw4466480800602381626 : True := trivial
theorem PySem.W.Fast.tw4522897839009985345 : True := trivial
theorem PySem.W.Fast.tw4550069304377662367 : True := trivial
theorem PySem.W.Fast.tw4553520914447890836 : True := trivial
theorem PySem.W.Fast.tw4582914968011678101 : True := trivial
theorem PySem.W.Fast.tw4621455667713482974 : True := trivial
theorem PySem.W.Fast.tw4643835407186005758 : True := trivial
theorem PySem.W.Fast.tw4730155785353485463 : True := trivial
theorem PySem.W.Fast.tw4885089859613245554 : True := trivial
theorem PySem.W.Fast.tw4905156357453773042 : True := trivial
theorem PySem.W.Fast.tw4935808881964102968 : True := trivial
theorem PySem.W.Fast.tw4990349730351770132 : True := trivial
theorem PySem.W.Fast.tw5002768438886729015 : True := trivial
theorem PySem.W.Fast.tw5083690494229196355 : True := trivial
theorem PySem.W.Fast.tw5118120639244119835 : True := trivial
theorem PySem.W.Fast.tw5186876379410148197 : True := trivial
theorem PySem.W.Fast.tw5187393453325362047 : True := trivial
theorem PySem.W.Fast.tw5323726895396887124 : True := trivial
theorem PySem.W.Fast.tw5369412423826592775 : True := trivial
theorem PySem.W.Fast.tw5374445360185140497 : True := trivial
theorem PySem.W.Fast.tw5382057224294057460 : True := trivial
theorem PySem.W.Fast.tw547687073259367394 : True := trivial
theorem PySem.W.Fast.tw5492492070618057399 : True := trivial
theorem PySem.W.Fast.tw5538828829396570292 : True := trivial
theorem PySem.W.Fast.tw5681661163897717494 : True := trivial
theorem PySem.W.Fast.tw5686469786862237351 : True := trivial
theorem PySem.W.Fast.tw5694910901560528966 : True := trivial
theorem PySem.W.Fast.tw5704621988487110704 : True := trivial
theorem PySem.W.Fast.tw5710837383963290352 : True := trivial
theorem PySem.W.Fast.tw5726899132735902871 : True := trivial
theorem PySem.W.Fast.tw5782466603987608721 : True := trivial
theorem PySem.W.Fast.tw5788117830734857527 : True := trivial
theorem PySem.W.Fast.tw5891068862738552063 : True := trivial
theorem PySem.W.Fast.tw5914460688047881911 : True := trivial
theorem PySem.W.Fast.tw5963368725772105822 : True := trivial
theorem PySem.W.Fast.tw6013944283313579054 : True := trivial
theorem PySem.W.Fast.tw6166837189828286360 : True := trivial
theorem PySem.W.Fast.tw617168836522082933 : True := trivial
theorem PySem.W.Fast.tw6218239200629628205 : True := trivial
theorem PySem.W.Fast.tw6241896983851313487 : True := trivial
theorem PySem.W.Fast.tw6315763563917833039 : True := trivial
theorem PySem.W.Fast.tw6332043190484879358 : True := trivial
theorem PySem.W.Fast.tw6335955962924827856 : True := trivial
theorem PySem.W.Fast.tw6410655106773338817 : True := trivial
theorem PySem.W.Fast.tw6420789969649891317 : True := trivial
theorem PySem.W.Fast.tw6508817884521654692 : True := trivial
theorem PySem.W.Fast.tw6638191224159471897 : True := trivial
theorem PySem.W.Fast.tw6659291787765369641 : True := trivial
theorem PySem.W.Fast.tw6665912839904679429 : True := trivial
theorem PySem.W.Fast.tw6692746710973519950 : True := trivial
theorem PySem.W.Fast.tw6719891047694345125 : True := trivial
theorem PySem.W.Fast.tw6775224831461801631 : True := trivial
theorem PySem.W.Fast.tw6872205079103451069 : True := trivial
theorem PySem.W.Fast.tw6874094106148517470 : True := trivial
theorem PySem.W.Fast.tw6988641085101528890 : True := trivial
theorem PySem.W.Fast.tw7062907276567764330 : True := trivial
theorem PySem.W.Fast.tw7228750624947575201 : True := trivial
theorem PySem.W.Fast.tw7239636099263029870 : True := trivial
theorem PySem.W.Fast.tw7261731700688848736 : True := trivial
theorem PySem.W.Fast.tw7278541423906469262 : True := trivial
theorem PySem.W.Fast.tw7329437654291998738 : True := trivial
theorem PySem.W.Fast.tw7410061860151499187 : True := trivial
theorem PySem.W.Fast.tw7448740774109221062 : True := trivial
theorem PySem.W.Fast.tw7461058997100768415 : True := trivial
theorem PySem.W.Fast.tw7516408746887276651 : True := trivial
theorem PySem.W.Fast.tw7575582694596319810 : True := trivial
theorem PySem.W.Fast.tw7580735919656707687 : True := trivial
theorem PySem.W.Fast.tw7622219158992053422 : True := trivial
theorem PySem.W.Fast.tw7622864229236134682 : True := trivial
theorem PySem.W.Fast.tw7668820192891898506 : True := trivial
theorem PySem.W.Fast.tw7735022057613239328 : True := trivial
theorem PySem.W.Fast.tw773648895374112773 : True := trivial
theorem PySem.W.Fast.tw7741096725686346794 : True := trivial
theorem PySem.W.Fast.tw7798441805543839780 : True := trivial
theorem PySem.W.Fast.tw7881643585540863976 : True := trivial
theorem PySem.W.Fast.tw7945080251797482154 : True := trivial
theorem PySem.W.Fast.tw7950062114841733992 : True := trivial
theorem PySem.W.Fast.tw7993287459380826098 : True := trivial
theorem PySem.W.Fast.tw7995200006264983520 : True := trivial
theorem PySem.W.Fast.tw7996876436459497635 : True := trivial
theorem PySem.W.Fast.tw8099467407221905933 : True := trivial
theorem PySem.W.Fast.tw8103096260691996916 : True := trivial
theorem PySem.W.Fast.tw8180230473482397066 : True := trivial
theorem PySem.W.Fast.tw8198692806679345514 : True := trivial
theorem PySem.W.Fast.tw8218453007417232198 : True := trivial
theorem PySem.W.Fast.tw8225634572374163388 : True := trivial
theorem PySem.W.Fast.tw8375906810597365806 : True := trivial
theorem PySem.W.Fast.tw8506821681880718483 : True := trivial
theorem PySem.W.Fast.tw8604671576737346366 : True := trivial
theorem PySem.W.Fast.tw8663364495988616446 : True := trivial
theorem PySem.W.Fast.tw8713126372606368499 : True := trivial
theorem PySem.W.Fast.tw8721880638838526412 : True := trivial
theorem PySem.W.Fast.tw8777485674135907916 : True := trivial
theorem PySem.W.Fast.tw8800435420222334840 : True := trivial
theorem PySem.W.Fast.tw8808995293506561565 : True := trivial
theorem PySem.W.Fast.tw8900681545555537689 : True := trivial
theorem PySem.W.Fast.tw8928905756859347946 : True := trivial
theorem PySem.W.Fast.tw8947986910383005727 : True := trivial
theorem PySem.W.Fast.tw8992513375963144796 : True := trivial
theorem PySem.W.Fast.tw8996908885936217830 : True := trivial
theorem PySem.W.Fast.tw9096365441195251512 : True := trivial
theorem PySem.W.Fast.tw9103393928752918345 : True := trivial
theorem PySem.W.Fast.tw9130022175227887299 : True := trivial
theorem PySem.W.Fast.tw9288982643929353273 : True := trivial
theorem PySem.W.Fast.tw9292364762654324217 : True := trivial
theorem PySem.W.Fast.tw9317036913155733577 : True := trivial
theorem PySem.W.Fast.tw9414922796265629387 : True := trivial
theorem PySem.W.Fast.tw9521003078671465694 : True := trivial
theorem PySem.W.Fast.tw9565237549277541776 : True := trivial
theorem PySem.W.Fast.tw9573434485299361327 : True := trivial
theorem PySem.W.Fast.tw9644089704876725258 : True := trivial
theorem PySem.W.Fast.tw9716443600597438164 : True := trivial
theorem PySem.W.Fast.tw9807021940888203821 : True := trivial
theorem PySem.W.Fast.tw9850210664625001371 : True := trivial
theorem PySem.W.Fast.tw9930148058738675615 : True := trivial
theorem PySem.W.Fast.tw9949499913732691736 : True := trivial
theorem PySem.W.Fast.tw9970307727227163356 : True := trivial
theorem PySem.W.Fast.tw9971597990604928470 : True := trivial
set_option maxRecDepth 100000 in
set_option maxHeartbeats 0 in
theorem PySem.Challenge.cw_knownholds_k06_no_thing_there_holds : PySem.Challenge.rw_knownholds_k06_no_thing_there.Holds := by
  w_on; o_law; k_head; (case hw => w_witness2)
  k_fill
  refine Law.walk (l := PySem.Challenge.rw_knownholds_k06_no_thing_there) rfl rfl (fun w h Y => PySem.W.kIn_of Y) ?F
  case F =>
    intro w mg fa h KX G hmg
    refine' Law.all_mk KX G hmg ?aC_Yard ?pg_Yard ?hd_Yard ?po_Yard ?sa_Yard ?mk_Yard ?kc_Yard ?nA_free ?nA_words ?nA_sizes ?aX_NoSpot ?qX_NoSpot ?aX_NoThing ?qX_NoThing ?aX_HoldError ?aX_NoText ?aX_NotFormed ?aX_NoTable ?aX_Faulty ?xT ?a0 ?F0 ?a1 ?i1 ?F1 ?a2 ?i2 ?F2 ?a3 ?i3 ?F3 ?a4 ?i4 ?F4 ?a5 ?i5 ?F5 ?a6 ?i6 ?F6 ?a7 ?i7 ?F7 ?a8 ?i8 ?F8 ?a9 ?i9 ?F9 ?a10 ?i10 ?F10 ?a11 ?F11 ?a12 ?F12 ?a13 ?F13 ?a14 ?F14 ?a15 ?F15 ?a16 ?F16 ?a17 ?F17 ?a18 ?F18 ?a19 ?F19 ?a20 ?F20 ?a21 ?F21 ?a22 ?F22 ?a23 ?F23 ?a24 ?F24 ?a25 ?F25 ?a26 ?F26 ?a27 ?F27 ?a28 ?F28 ?a29 ?F29 ?a30 ?F30 ?a31 ?F31 ?a32 ?F32 ?a33 ?F33 ?a34 ?F34 ?a35 ?F35 ?a36 ?F36 ?z_ValueError ?z_abs ?z_bool ?z_enumerate ?z_int ?z_isinstance ?z_len ?z_list ?z_max ?z_range ?z_sorted ?z_sum ?z_tuple ?z_zip
    (case aC_Yard => k_is)
    (case pg_Yard => k_is)
    (case hd_Yard => k_is)
    (case po_Yard => k_is)
    (case sa_Yard => k_is)
    (case mk_Yard => k_is)
    (case kc_Yard => k_is)
    (case nA_free => k_is)
    (case nA_words => k_is)
    (case nA_sizes => k_is)
    (case aX_NoSpot => k_is)
    (case qX_NoSpot => (unfold L2.XCls; k_exc))
    (case aX_NoThing => k_is)
    (case qX_NoThing => (unfold L2.XCls; k_exc))
    (case aX_HoldError => k_is)
    (case aX_NoText => k_is)
    (case aX_NotFormed => k_is)
    (case aX_NoTable => k_is)
    (case aX_Faulty => k_is)
    (case xT => kernel_rfl)
    (case a0 => k_is)
    (case F0 => exact ⟨_, L2.fun_mk (by k_is) (by k_is) (by k_is)⟩)
    (case a1 => k_is)
    (case i1 => k_is)
    (case F1 => exact ⟨_, L2.fun_mk (by k_is) (by k_is) (by k_is)⟩)
    (case a2 => k_is)
    (case i2 => k_is)
    (case F2 => exact ⟨_, L2.fun_mk (by k_is) (by k_is) (by k_is)⟩)
    (case a3 => k_is)
    (case i3 => k_is)
    (case F3 => exact ⟨_, L2.fun_mk (by k_is) (by k_is) (by k_is)⟩)
    (case a4 => k_is)
    (case i4 => k_is)
    (case F4 => exact ⟨_, L2.fun_mk (by k_is) (by k_is) (by k_is)⟩)
    (case a5 => k_is)
    (case i5 => k_is)
    (case F5 => exact ⟨_, L2.fun_mk (by k_is) (by k_is) (by k_is)⟩)
    (case a6 => k_is)
    (case i6 => k_is)
    (case F6 => exact ⟨_, L2.fun_mk (by k_is) (by k_is) (by k_is)⟩)
    (case a7 => k_is)
    (case i7 => k_is)
    (case F7 => exact ⟨_, L2.fun_mk (by k_is) (by k_is) (by k_is)⟩)
    (case a8 => k_is)
    (case i8 => k_is)
    (case F8 => exact ⟨_, L2.fun_mk (by k_is) (by k_is) (by k_is)⟩)
    (case a9 => k_is)
    (case i9 => k_is)
    (case F9 => exact ⟨_, L2.fun_mk (by k_is) (by k_is) (by k_is)⟩)
    (case a10 => k_is)
    (case i10 => k_is)
    (case F10 => exact ⟨_, L2.fun_mk (by k_is) (by k_is) (by k_is)⟩)
    (case a11 => k_is)
    (case F11 => exact ⟨_, L2.fun_mk (by k_is) (by k_is) (by k_is)⟩)
    (case a12 => k_is)
    (case F12 => exact ⟨_, L2.fun_mk (by k_is) (by k_is) (by k_is)⟩)
    (case a13 => k_is)
    (case F13 => exact ⟨_, L2.fun_mk (by k_is) (by k_is) (by k_is)⟩)
    (case a14 => k_is)
    (case F14 => exact ⟨_, L2.fun_mk (by k_is) (by k_is) (by k_is)⟩)
    (case a15 => k_is)
    (case F15 => exact ⟨_, L2.fun_mk (by k_is) (by k_is) (by k_is)⟩)
    (case a16 => k_is)
    (case F16 => exact ⟨_, L2.fun_mk (by k_is) (by k_is) (by k_is)⟩)
    (case a17 => k_is)
    (case F17 => exact ⟨_, L2.fun_mk (by k_is) (by k_is) (by k_is)⟩)
    (case a18 => k_is)
    (case F18 => exact ⟨_, L2.fun_mk (by k_is) (by k_is) (by k_is)⟩)
    (case a19 => k_is)
    (case F19 => exact ⟨_, L2.fun_mk (by k_is) (by k_is) (by k_is)⟩)
    (case a20 => k_is)
    (case F20 => exact ⟨_, L2.fun_mk (by k_is) (by k_is) (by k_is)⟩)
    (case a21 => k_is)
    (case F21 => exact ⟨_, L2.fun_mk (by k_is) (by k_is) (by k_is)⟩)
    (case a22 => k_is)
    (case F22 => exact ⟨_, L2.fun_mk (by k_is) (by k_is) (by k_is)⟩)
    (case a23 => k_is)
    (case F23 => exact ⟨_, L2.fun_mk (by k_is) (by k_is) (by k_is)⟩)
    (case a24 => k_is)
    (case F24 => exact ⟨_, L2.fun_mk (by k_is) (by k_is) (by k_is)⟩)
    (case a25 => k_is)
    (case F25 => exact ⟨_, L2.fun_mk (by k_is) (by k_is) (by k_is)⟩)
    (case a26 => k_is)
    (case F26 => exact ⟨_, L2.fun_mk (by k_is) (by k_is) (by k_is)⟩)
    (case a27 => k_is)
    (case F27 => exact ⟨_, L2.fun_mk (by k_is) (by k_is) (by k_is)⟩)
    (case a28 => k_is)
    (case F28 => exact ⟨_, L2.fun_mk (by k_is) (by k_is) (by k_is)⟩)
    (case a29 => k_is)
    (case F29 => exact ⟨_, L2.fun_mk (by k_is) (by k_is) (by k_is)⟩)
    (case a30 => k_is)
    (case F30 => exact ⟨_, L2.fun_mk (by k_is) (by k_is) (by k_is)⟩)
    (case a31 => k_is)
    (case F31 => exact ⟨_, L2.fun_mk (by k_is) (by k_is) (by k_is)⟩)
    (case a32 => k_is)
    (case F32 => exact ⟨_, L2.fun_mk (by k_is) (by k_is) (by k_is)⟩)
    (case a33 => k_is)
    (case F33 => exact ⟨_, L2.fun_mk (by k_is) (by k_is) (by k_is)⟩)
    (case a34 => k_is)
    (case F34 => exact ⟨_, L2.fun_mk (by k_is) (by k_is) (by k_is)⟩)
    (case a35 => k_is)
    (case F35 => exact ⟨_, L2.fun_mk (by k_is) (by k_is) (by k_is)⟩)
    (case a36 => k_is)
    (case F36 => exact ⟨_, L2.fun_mk (by k_is) (by k_is) (by k_is)⟩)
    (case z_ValueError => k_is)
    (case z_abs => k_is)
    (case z_bool => k_is)
    (case z_enumerate => k_is)
    (case z_int => k_is)
    (case z_isinstance => k_is)
    (case z_len => k_is)
    (case z_list => k_is)
    (case z_max => k_is)
    (case z_range => k_is)
    (case z_sorted => k_is)
    (case z_sum => k_is)
    (case z_tuple => k_is)
    (case z_zip => k_is)

