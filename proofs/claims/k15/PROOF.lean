import PyProof.Rows.All
import Wide.All
import OpenK.AllK
import Wide.FinOn
import Lean
import PyProof.EqAt
import PyProof.EqKinds
import PyProof.TupleCall
import KE.KTab
import PyProof.ListRange
import KE.KTryMore
import KE.KIntText
import PySem.Challenge.RW_knownholds_k15_numbers_read
set_option Elab.async false
set_option linter.all false
set_option maxRecDepth 100000
namespace L2
open PySem PySem.Spec PyProof.Rows

/-- a key: an int or a str -/
abbrev Key := Sum Int Str
def keyIs : Key → Value → Bool
  | .inl k, v => Value.isInt k v
  | .inr x, v => Value.isStrOf x v
def keyH (w : World) : Key → Int
  | .inl k => hashInt k
  | .inr x => hashStr w x
theorem keyIs_shape : ∀ {k : Key} {v : Value}, keyIs k v = true → (∃ i t, k = Sum.inl i ∧ v = Value.int i t) ∨ (∃ x t, k = Sum.inr x ∧ v = Value.str x t)
  | .inl i, v, h => by
    obtain ⟨t, e⟩ := Value.isInt_shape (k := i) (v := v) h
    exact .inl ⟨i, t, rfl, e⟩
  | .inr x, v, h => by
    obtain ⟨t, e⟩ := Value.isStrOf_shape (x := x) (v := v) h
    exact .inr ⟨x, t, rfl, e⟩
theorem key_ll (a b : Int) : decide ((Sum.inl a : Key) = Sum.inl b) = (a == b) := by
  by_cases e : a = b
  · subst e; simp
  · have h : ¬ (Sum.inl a : Key) = Sum.inl b := fun q => e (Sum.inl.inj q)
    rw [decide_eq_false h]
    exact (beq_eq_false_iff_ne.mpr e).symm
theorem key_rr (a b : Str) : decide ((Sum.inr a : Key) = Sum.inr b) = decide (a = b) := by
  by_cases e : a = b
  · subst e; simp
  · have h : ¬ (Sum.inr a : Key) = Sum.inr b := fun q => e (Sum.inr.inj q)
    rw [decide_eq_false h, decide_eq_false e]
theorem key_lr (a : Int) (b : Str) : decide ((Sum.inl a : Key) = Sum.inr b) = false := decide_eq_false (fun q => nomatch q)
theorem key_rl (a : Str) (b : Int) : decide ((Sum.inr a : Key) = Sum.inl b) = false := decide_eq_false (fun q => nomatch q)

def mixKind (prog : Program) (w : World) : PySem.KeyKind prog w Key where
  is := keyIs
  hash := keyH w
  inj := fun v a b ha hb => by
    rcases keyIs_shape ha with ⟨i, t, rfl, rfl⟩ | ⟨x, t, rfl, rfl⟩
    · rcases keyIs_shape hb with ⟨j, u, rfl, e⟩ | ⟨y, u, rfl, e⟩
      · injection e with e1 _; rw [e1]
      · exact nomatch e
    · rcases keyIs_shape hb with ⟨j, u, rfl, e⟩ | ⟨y, u, rfl, e⟩
      · exact nomatch e
      · injection e with e1 _; rw [e1]
  byValue := fun k v h => by
    rcases keyIs_shape h with ⟨i, t, rfl, rfl⟩ | ⟨x, t, rfl, rfl⟩ <;> rfl
  pyHash := fun hv h => by
    rcases keyIs_shape hv with ⟨i, t, rfl, rfl⟩ | ⟨x, t, rfl, rfl⟩
    · exact wpAny_pyHash_int h
    · exact wpAny_pyHash_str h
  eqBool := fun hu hv h => by
    rcases keyIs_shape hu with ⟨i, t, rfl, rfl⟩ | ⟨x, t, rfl, rfl⟩
    · rcases keyIs_shape hv with ⟨j, u, rfl, rfl⟩ | ⟨y, u, rfl, rfl⟩
      · rw [key_ll] at h; exact wpAny_eqBool_int h
      · rw [key_lr] at h; exact SeqAt.EqAt.int_str i t y u _ _ _ _ h
    · rcases keyIs_shape hv with ⟨j, u, rfl, rfl⟩ | ⟨y, u, rfl, rfl⟩
      · rw [key_rl] at h; exact SeqAt.EqAt.str_int x t j u _ _ _ _ h
      · rw [key_rr] at h; exact wpAny_eqBool_str h
  «strs» := fun k x t v h => by
    rcases keyIs_shape h with ⟨i, u, rfl, e⟩ | ⟨y, u, rfl, e⟩
    · exact nomatch e
    · injection e with e1 _
      subst e1
      cases v <;> rfl

end L2

namespace L2
open PySem PySem.Spec PyProof.Rows

/-- a value, without the heap -/
inductive V where
  | non | bl (b : Bool) | int (i : Int) | str (x : Str) | byt (b : Array UInt8) | flt (b : UInt64) | ref (a : Addr) | ty (n : String)
  deriving DecidableEq

def RelV : V → Value → Prop
  | .non, u => u = Value.none
  | .bl b, u => u = Value.bool b
  | .int i, u => ∃ t, u = Value.int i t
  | .str x, u => ∃ t, u = Value.str x t
  | .byt b, u => ∃ t, u = Value.bytes b t
  | .flt b, u => ∃ t, u = Value.float b t
  | .ref a, u => u = Value.ref a
  | .ty n, u => u = Value.type n

abbrev Vals : List V → List Value → Prop := Paired RelV
theorem Vals.length {xs : List V} {us : List Value} (r : Vals xs us) : xs.length = us.length := Paired.length r
theorem Vals.get : ∀ {xs : List V} {us : List Value} {i : Nat} {x : V}, Vals xs us → xs[i]? = some x → ∃ u, us[i]? = some u ∧ RelV x u
  | _, _, _, _, .nil, e => by simp at e
  | _, _, 0, _, .cons r _, e => by simp at e; subst e; exact ⟨_, rfl, r⟩
  | _, _, i + 1, x, .cons _ t, e => by
    obtain ⟨u, h1, h2⟩ := Vals.get (i := i) (x := x) t (by simpa using e)
    exact ⟨u, by simpa using h1, h2⟩
theorem Vals.set {x : V} {u : Value} (r : RelV x u) : ∀ {xs : List V} {us : List Value} (i : Nat), Vals xs us → Vals (xs.set i x) (us.set i u)
  | _, _, _, .nil => .nil
  | _, _, 0, .cons _ t => .cons r t
  | _, _, i + 1, .cons q t => .cons q (Vals.set r i t)
theorem Vals.append : ∀ {xs ys : List V} {us ws : List Value}, Vals xs us → Vals ys ws → Vals (xs ++ ys) (us ++ ws)
  | _, _, _, _, .nil, s => s
  | _, _, _, _, .cons r t, s => .cons r (Vals.append t s)
theorem Vals.take : ∀ {xs : List V} {us : List Value} (n : Nat), Vals xs us → Vals (xs.take n) (us.take n)
  | _, _, 0, _ => .nil
  | _, _, _ + 1, .nil => .nil
  | _, _, n + 1, .cons r t => .cons r (Vals.take n t)
theorem Vals.drop : ∀ {xs : List V} {us : List Value} (n : Nat), Vals xs us → Vals (xs.drop n) (us.drop n)
  | _, _, 0, r => r
  | _, _, _ + 1, .nil => .nil
  | _, _, n + 1, .cons _ t => Vals.drop n t
def RelO : Option V → Option Value → Prop
  | some v, some u => RelV v u
  | none, none => True
  | _, _ => False
def KV {κ : Type} : List (κ × V) → List (κ × Value) → Prop := Paired fun (p : κ × V) (q : κ × Value) => p.1 = q.1 ∧ RelV p.2 q.2

/-- a key of a dict (00_mix): an int or a text -/
def kV : Key → V
  | .inl i => .int i
  | .inr x => .str x

/-- what stands at a tracked address -/
inductive HO where
  /-- a list -/
  | lst (xs : List V)
  /-- a tuple (never changes) -/
  | tup (xs : List V)
  /-- a dict whose keys are ints and texts; one whose keys are tuples of ints and texts (the empty one is both) -/
  | dK (kvs : List (Key × V)) | dT (kvs : List (List Key × V))
  /-- a set of ints: its members, its size -/
  | set (S : Int → Bool) (n : Nat)
  /-- an instance of the class at C, its dict at dx, its attributes -/
  | ins (C dx : Addr) (fs : List (Str × V))
  /-- the dict of the instance at x -/
  | own (x : Addr)
  /-- the dict of an exception -/
  | xd (fs : List (Str × V))
  /-- a bound method, f of x -/
  | met (f x : Addr)
  /-- a range object lo, lo + 1, .. below hi -/
  | rng (lo hi : Int)
  /-- a thing that is known to the object (the script; a dict while a loop walks it): read, never written while it is so -/
  | frz (o : Obj) (u : HO)
  /-- a code object's table -/
  | tbl (ps : Array Value)
  /-- any other thing, by what is true of its one object (a def of one's own: SetO a S n := HO.ext fun h => ..) -/
  | ext (φ : Heap → Prop)

abbrev Hp := Addr → Option HO
def upd (H : Hp) (a : Addr) (o : HO) : Hp := fun b => if b = a then some o else H b
theorem upd_same {H : Hp} {a : Addr} {o : HO} : upd H a o a = some o := by unfold upd; rw [if_pos rfl]
theorem upd_ne {H : Hp} {a b : Addr} {o : HO} (h : b ≠ a) : upd H a o b = H b := by unfold upd; rw [if_neg h]
theorem upd_upd {H : Hp} {a : Addr} {o u : HO} : upd (upd H a o) a u = upd H a u := by
  funext b; unfold upd; split <;> rfl
theorem ne_of_none {H : Hp} {a b : Addr} {o : HO} (h : H a = some o) (h' : H b = none) : a ≠ b := by
  intro e; subst e; rw [h] at h'; cases h'

section
variable (P : Program) (w : World)
def ObjOk (H : Hp) (h : Heap) (a : Addr) : HO → Prop
  | .lst xs => xs.length ≤ sizeLine ∧ ∃ (its : List Value) (n : Nat), Vals xs its ∧ h.get? a = some { cls := .type "list", data := .seq its.toArray n }
  | .tup xs => xs.length ≤ sizeLine ∧ ∃ its : List Value, Vals xs its ∧ IsTup h a its.toArray
  | .dK kvs => kvs.length ≤ sizeLine ∧ (a == sysModules) = false ∧ ∃ vs, KV kvs vs ∧ h.DictOf (mixKind P w) a vs
  | .dT kvs => kvs.length ≤ sizeLine ∧ (a == sysModules) = false ∧ ∃ xs : List (List Key × Addr × Value),
      Paired (fun (p : List Key × V) (q : List Key × Addr × Value) => p.1 = q.1 ∧ H q.2.1 = some (.tup (p.1.map kV)) ∧ RelV p.2 q.2.2) kvs xs ∧
      ∃ o es ep, h.get? a = some o ∧ o.ExactDict ∧ o.data = .dict es ep ∧ es.toList = xs.map (entryOfKey (tupleKind (mixKind P w))) ∧ (xs.map (·.1)).Nodup
  | .set S n => h.SetOf (intKind P w) a S n
  | .ins C dx fs => H dx = some (.own a) ∧ fs.length ≤ 1000 ∧ dx ≠ a ∧ h.get? a = some (PySem.W.instObj C dx) ∧
      ∃ mA, h.Ns1 dx mA ∧ (∀ f, RelO (fs.lookup f) (mA f)) ∧ PySem.Within mA (fs.map (·.1))
  | .own _ => ∃ o, h.get? a = some o
  | .xd fs => ∃ mA, h.Ns1 a mA ∧ ∀ f, RelO (fs.lookup f) (mA f)
  | .rng lo hi => ∃ t u v, h.get? a = some { cls := .type "range", data := .fields #[.int lo t, .int hi u, .int 1 v] }
  | .frz o u => h.get? a = some o ∧ ObjOk H h a u
  | .tbl ps => h.get? a = some { cls := .none, data := .fields ps }
  | .met f x => h.get? a = some (PySem.W.methodObj (.ref f) (.ref x))
  | .ext φ => φ h ∧ (∃ o, h.get? a = some o) ∧ ∀ h1 h2 : Heap, φ h1 → (∀ o, h1.get? a = some o → h2.get? a = some o) → φ h2
/-- the abstract heap is held -/
def HOk (H : Hp) (h : Heap) : Prop := ∀ a o, H a = some o → ObjOk P w H h a o
end

section
variable {P : Program} {w : World} {H H' : Hp} {h h' : Heap} {a : Addr} {o : HO}
theorem ObjOk.lt (x : ObjOk P w H h a o) : a < h.objs.size := by
  cases o with
  | lst xs => obtain ⟨_, _, _, _, e⟩ := x; exact Heap.lt_size e
  | tup xs => obtain ⟨_, _, _, p⟩ := x; exact p.lt
  | dK kvs => obtain ⟨_, _, _, _, o, _, _, e, _⟩ := x; exact Heap.lt_size e
  | dT kvs => obtain ⟨_, _, _, _, o, _, _, e, _⟩ := x; exact Heap.lt_size e
  | set S n => obtain ⟨o, _, _, _, e, _⟩ := x; exact Heap.lt_size e
  | ins C dx fs => obtain ⟨_, _, _, e, _⟩ := x; exact Heap.lt_size e
  | own y => obtain ⟨_, e⟩ := x; exact Heap.lt_size e
  | xd fs => obtain ⟨_, ⟨_, _, _, e, _⟩, _⟩ := x; exact Heap.lt_size e
  | rng lo hi => obtain ⟨_, _, _, e⟩ := x; exact Heap.lt_size e
  | frz ob u => obtain ⟨e, _⟩ := x; exact Heap.lt_size e
  | tbl ps => exact Heap.lt_size (show h.get? a = some _ from x)
  | met f y => exact Heap.lt_size (show h.get? a = some _ from x)
  | ext φ => obtain ⟨_, ⟨_, e⟩, _⟩ := x; exact Heap.lt_size e
theorem Paired.mapP {α β : Type} {F G : α → β → Prop} : ∀ {l₁ : List α} {l₂ : List β}, Paired F l₁ l₂ → (∀ a b, F a b → G a b) → Paired G l₁ l₂
  | _, _, .nil, _ => .nil
  | _, _, .cons r t, f => .cons (f _ _ r) (Paired.mapP t f)
/-- what an object's description leans on: its own object, its own dict, the tuples -/
theorem ObjOk.stay (x : ObjOk P w H h a o) (k : ∀ b u, (b = a ∨ H b = some (.own a)) → h.get? b = some u → h'.get? b = some u)
    (ho : ∀ b, H b = some (.own a) → H' b = some (.own a)) (ht : ∀ b xs, H b = some (.tup xs) → H' b = some (.tup xs)) : ObjOk P w H' h' a o := by
  induction o with
  | lst xs => obtain ⟨z, its, n, r, e⟩ := x; exact ⟨z, its, n, r, k _ _ (.inl rfl) e⟩
  | tup xs => obtain ⟨z, its, r, ob, e, c⟩ := x; exact ⟨z, its, r, ob, k _ _ (.inl rfl) e, c⟩
  | dK kvs => obtain ⟨z, y, vs, r, ob, es, ep, e, c⟩ := x; exact ⟨z, y, vs, r, ob, es, ep, k _ _ (.inl rfl) e, c⟩
  | dT kvs =>
    obtain ⟨z, y, xs, r, ob, es, ep, e, c⟩ := x
    exact ⟨z, y, xs, Paired.mapP r fun p q z => ⟨z.1, ht _ _ z.2.1, z.2.2⟩, ob, es, ep, k _ _ (.inl rfl) e, c⟩
  | set S n => obtain ⟨ob, es, ep, t, e, c⟩ := x; exact ⟨ob, es, ep, t, k _ _ (.inl rfl) e, c⟩
  | ins C dx fs =>
    obtain ⟨d, z, ne, e, mA, ⟨od, es, ep, e2, c⟩, r⟩ := x
    exact ⟨ho _ d, z, ne, k _ _ (.inl rfl) e, mA, ⟨od, es, ep, k _ _ (.inr d) e2, c⟩, r⟩
  | own y => obtain ⟨ob, e⟩ := x; exact ⟨ob, k _ _ (.inl rfl) e⟩
  | xd fs => obtain ⟨mA, ⟨od, es, ep, e, c⟩, r⟩ := x; exact ⟨mA, ⟨od, es, ep, k _ _ (.inl rfl) e, c⟩, r⟩
  | rng lo hi => obtain ⟨t, u, v, e⟩ := x; exact ⟨t, u, v, k _ _ (.inl rfl) e⟩
  | frz ob u ih => obtain ⟨e, q⟩ := x; exact ⟨k _ _ (.inl rfl) e, ih q⟩
  | tbl ps =>
    have e : h.get? a = some { cls := .none, data := .fields ps } := x
    show h'.get? a = some { cls := .none, data := .fields ps }
    exact k a _ (.inl rfl) e
  | met f y =>
    have e : h.get? a = some (PySem.W.methodObj (.ref f) (.ref y)) := x
    show h'.get? a = some (PySem.W.methodObj (.ref f) (.ref y))
    exact k a _ (.inl rfl) e
  | ext φ => obtain ⟨p, ⟨o, e⟩, st⟩ := x; exact ⟨st _ _ p fun o q => k _ _ (.inl rfl) q, ⟨o, k _ _ (.inl rfl) e⟩, st⟩
theorem HOk.lt (x : HOk P w H h) (e : H a = some o) : a < h.objs.size := (x a o e).lt
theorem HOk.fresh (x : HOk P w H h) (e : h.objs.size ≤ a) : H a = none := by
  cases q : H a with
  | none => rfl
  | some u => exact absurd (Nat.lt_of_lt_of_le (x.lt q) e) (Nat.lt_irrefl _)
/-- every object of the heap is kept -/
theorem HOk.kept (x : HOk P w H h) (k : ∀ b u, h.get? b = some u → h'.get? b = some u) : HOk P w H h' := fun a o e =>
  (x a o e).stay (fun b u _ q => k b u q) (fun _ q => q) fun _ _ q => q
/-- a new object is laid and tracked -/
theorem HOk.laid (x : HOk P w H h) (k : ∀ b u, h.get? b = some u → h'.get? b = some u) (hp : h.objs.size ≤ a) (new : ObjOk P w (upd H a o) h' a o) : HOk P w (upd H a o) h' := fun b u e => by
  have hn := x.fresh hp
  by_cases hb : b = a
  · subst hb; rw [upd_same] at e; cases e; exact new
  · rw [upd_ne hb] at e
    exact (x b u e).stay (fun c v _ q => k c v q) (fun c q => by rw [upd_ne (ne_of_none q hn)]; exact q) fun c xs q => by rw [upd_ne (ne_of_none q hn)]; exact q
end

/-- what may be read as u: it is u, or a known u -/
def Rd (H : Hp) (a : Addr) (u : HO) : Prop := H a = some u ∨ ∃ o, H a = some (.frz o u)
theorem Rd.ok {P : Program} {w : World} {H : Hp} {h : Heap} {a : Addr} {u : HO} (r : Rd H a u) (x : HOk P w H h) : ObjOk P w H h a u := by
  rcases r with r | ⟨o, r⟩
  · exact x a u r
  · obtain ⟨_, q⟩ := x a _ r
    exact q
/-- what may be written -/
def Mut : Option HO → Prop
  | some (.lst _) => True
  | some (.dK _) => True
  | some (.dT _) => True
  | some (.set _ _) => True
  | some (.ins _ _ _) => True
  | some (.ext _) => True
  | _ => False
section
variable {P : Program} {w : World} {H : Hp} {h h' : Heap} {x e : Addr} {o' : HO}
/-- the object at e is changed: x itself, or the dict of the instance x -/
theorem HOk.write (ok : HOk P w H h) (mu : Mut (H x)) (he : e = x ∨ H e = some (.own x)) (k : ∀ b u, b ≠ e → h.get? b = some u → h'.get? b = some u) (heo : ∃ u, h'.get? e = some u)
    (new : ObjOk P w (upd H x o') h' x o') : HOk P w (upd H x o') h' := fun b u q => by
  have nown : ∀ c y, H c = some (.own y) → c ≠ x := fun c y r z => by subst z; rw [r] at mu; exact mu
  have ntup : ∀ c xs, H c = some (.tup xs) → c ≠ x := fun c xs r z => by subst z; rw [r] at mu; exact mu
  by_cases hb : b = x
  · subst hb; rw [upd_same] at q; cases q; exact new
  · rw [upd_ne hb] at q
    by_cases hbe : b = e
    · have q' : H b = some (.own x) := by
        rcases he with z | z
        · exact absurd (hbe.trans z) hb
        · rw [hbe]; exact z
      rw [q] at q'; cases q'
      obtain ⟨v, hv⟩ := heo
      exact ⟨v, by rw [hbe]; exact hv⟩
    · refine (ok b u q).stay (fun c v hc r => k c v ?_ r) (fun c r => by rw [upd_ne (nown c b r)]; exact r) fun c xs r => by rw [upd_ne (ntup c xs r)]; exact r
      rcases hc with rfl | hc
      · exact hbe
      · rintro rfl
        rcases he with z | z
        · exact nown c b hc z
        · rw [hc] at z; cases z; exact hb rfl
end

structure Un (fs ex : List Addr) (H H' : Hp) (h h' : Heap) : Prop where
  keep : ∀ b o, h.get? b = some o → H b = none → b ∉ fs → b ∉ ex → h'.get? b = some o
  slot : ∀ b o, h.get? b = some o → H b = none → b ∈ fs → b ∉ ex → ∃ sl, h'.get? b = some { o with slots := sl }
  free : ∀ b o, h.get? b = some o → H b = none → b ∉ ex → H' b = none
  there : ∀ b o, h.get? b = some o → b ∉ ex → ∃ o', h'.get? b = some o'
  tups : ∀ b xs, H b = some (.tup xs) → H' b = some (.tup xs)
  frzs : ∀ b o u, H b = some (.frz o u) → H' b = some (.frz o u)
  tbls : ∀ b ps, H b = some (.tbl ps) → ∃ more, H' b = some (.tbl (ps ++ more))
section
variable {fs fs' ex ex' : List Addr} {H H1 H2 : Hp} {h h1 h2 h' : Heap} {a x e : Addr} {o : HO}
theorem Un.any (u : Un fs ex H H1 h h1) {b : Addr} {ob : Obj} (q : h.get? b = some ob) (n : H b = none) (hx : b ∉ ex) : ∃ sl, h1.get? b = some { ob with slots := sl } := by
  by_cases hb : b ∈ fs
  · exact u.slot b ob q n hb hx
  · exact ⟨ob.slots, u.keep b ob q n hb hx⟩
theorem Un.kept (k : ∀ b u, h.get? b = some u → h'.get? b = some u) : Un fs ex H H h h' :=
  ⟨fun b ob q _ _ _ => k b ob q, fun b ob q _ _ _ => ⟨ob.slots, k b ob q⟩, fun _ _ _ n _ => n, fun b ob q _ => ⟨ob, k b ob q⟩, fun _ _ q => q, fun _ _ _ q => q, fun _ ps q => ⟨#[], by rw [q]; simp⟩⟩
theorem Un.refl : Un fs ex H H h h := Un.kept fun _ _ q => q
theorem Un.laid (k : ∀ b u, h.get? b = some u → h'.get? b = some u) (hp : h.objs.size ≤ a) (hn : H a = none) : Un fs ex H (upd H a o) h h' where
  keep := fun b u q _ _ _ => k b u q
  slot := fun b u q _ _ _ => ⟨u.slots, k b u q⟩
  free := fun b u q n _ => by rw [upd_ne (Nat.ne_of_lt (Nat.lt_of_lt_of_le (Heap.lt_size q) hp))]; exact n
  there := fun b u q _ => ⟨u, k b u q⟩
  tups := fun b xs q => by rw [upd_ne (ne_of_none q hn)]; exact q
  frzs := fun b u xs q => by rw [upd_ne (ne_of_none q hn)]; exact q
  tbls := fun b ps q => ⟨#[], by rw [upd_ne (ne_of_none q hn), q]; simp⟩
theorem Un.write (mu : Mut (H x)) (he : e = x ∨ H e = some (.own x)) (k : ∀ b u, b ≠ e → h.get? b = some u → h'.get? b = some u) (heo : ∃ u, h'.get? e = some u) : Un fs ex H (upd H x o) h h' := by
  have hx : ∀ b, H b = none → b ≠ x := fun b n z => by subst z; rw [n] at mu; exact mu
  have hb : ∀ b, H b = none → b ≠ e := fun b n z => by
    subst z
    rcases he with r | r
    · exact hx b n r
    · rw [n] at r; cases r
  have hm : ∀ b u, H b = some u → ¬ Mut (some u) → b ≠ x := fun b u q nm z => by subst z; rw [q] at mu; exact nm mu
  refine ⟨fun b u q n _ _ => k b u (hb b n) q, fun b u q n _ _ => ⟨u.slots, k b u (hb b n) q⟩, fun b u q n _ => by rw [upd_ne (hx b n)]; exact n, fun b u q _ => ?_,
    fun b xs q => by rw [upd_ne (hm b _ q fun z => z)]; exact q, fun b u xs q => by rw [upd_ne (hm b _ q fun z => z)]; exact q, fun b ps q => ⟨#[], by rw [upd_ne (hm b _ q fun z => z), q]; simp⟩⟩
  by_cases hbe : b = e
  · subst hbe; exact heo
  · exact ⟨u, k b u hbe q⟩
end

def trk (h : Heap) (H : Hp) : List Addr := (List.range h.objs.size).filter fun a => (H a).isSome
def hidT (h : Heap) (H : Hp) : Heap := PySem.W.hideAll h (trk h H)
theorem hidT_size (h : Heap) (H : Hp) : (hidT h H).objs.size = h.objs.size := PySem.W.hideAll_size _ _
theorem hidT_get {h : Heap} {H : Hp} {b : Addr} {o : Obj} (e : h.get? b = some o) (n : H b = none) : (hidT h H).get? b = some o :=
  PySem.W.hideAll_get _ e fun hm => by
    have q : (H b).isSome = true := (List.mem_filter.mp hm).2
    rw [n] at q; simp at q
theorem of_hidT {h : Heap} {H : Hp} {b : Addr} {o : Obj} (e : (hidT h H).get? b = some o) : h.get? b = some o ∧ H b = none := by
  have e' : h.get? b = some o := PySem.W.of_hideAll (trk h H) e
  refine ⟨e', ?_⟩
  cases q : H b with
  | none => rfl
  | some x =>
    have hm : b ∈ trk h H := List.mem_filter.mpr ⟨List.mem_range.mpr (Heap.lt_size e'), by simp [q]⟩
    have z : (hidT h H).get? b = none := PySem.W.hideAll_none (trk h H) hm
    rw [z] at e; cases e

def allNews (g h : Heap) (L : Addr) : List (Addr × Obj) := (List.range h.objs.size).filterMap fun a => if a = L ∨ (g.get? a).isSome = true then none else (h.get? a).map fun o => (a, o)
def rest (g h : Heap) (L d : Addr) : List (Addr × Obj) := (allNews g h L).filter fun p => decide (p.1 ≠ d)
end L2

namespace L2
open PySem PySem.Spec PyProof.Rows

/-- the module's facts, over the base: the heap at the law's entry without what is tracked there -/
structure Mod (K : PySem.W.Frag) (mg : Str → Option Value) (base : Heap) : Prop where
  kin : K.In base
  glob : base.Ns mainGlobals mg
  blt : ∃ mb, base.Ns builtinsNs mb ∧ ∀ x : Str, x ≠ "__name__" → mb x = bootBuiltins x
  nolimit : base.NoLimit

/-- the context: a def's body (or a comprehension's block) running. base: fixed through the whole law; s₀, H₀: the entry; outer: the frames whose slots others may change (a def's callers); stack: all frames that run;
   ex: iterators that were made ahead of the entry and are walked here (a comprehension's); fn: the names whose cells were made at the entry (a def: all; a comprehension's block: its own); calm: not within an except suite; pn: pins that every state bears; xe: what is wanted of an exception that leaves the code -/
structure Cx where
  prog : Program
  w : World
  K : PySem.W.Frag
  mg : Str → Option Value
  base : Heap
  A : Around
  N : List Str
  s₀ : Shared
  H₀ : Hp
  env : Env
  outer : List Env
  stack : List Env
  ex : List Addr
  fn : Str → Bool
  calm : Bool
  pn : List (Addr × Obj)
  xe : Value → Shared → Prop
/-- the callers' frames -/
def frs (l : List Env) : List Addr := l.filterMap (·.frame)
abbrev Cx.fs (X : Cx) : List Addr := frs X.outer

def Vis (sc : Scope) (x : Str) : Prop := sc.names.lookup x = some .local ∨ sc.names.lookup x = some .cell ∨ sc.names.lookup x = some .free
def Loc (sc : Scope) (x : Str) : Prop := sc.names.lookup x = some .local ∨ sc.names.lookup x = some .cell
def Look (env : Env) (h : Heap) (m : Str → Option Value) (x : Str) (u : Value) : Prop :=
  (env.kindOf x = some .local ∧ m x = some u) ∨ ((env.kindOf x = some .cell ∨ env.kindOf x = some .free) ∧ ∃ c, env.cells.lookup x = some c ∧ h.IsCell c (some u))

structure Cx.Ok (X : Cx) : Prop where
  mod : Mod X.K X.mg X.base
  kind : X.env.scope.kind = .function
  glob : X.env.globals = mainGlobals
  blt : X.env.builtins = builtinsNs
  above : X.s₀.heap.objs.size ≤ X.env.locals
  inj : ∀ x y c, X.env.cells.lookup x = some c → X.env.cells.lookup y = some c → x = y
  has : ∀ x, (X.env.kindOf x = some .cell ∨ X.env.kindOf x = some .free) → ∃ c, X.env.cells.lookup x = some c
  cab : ∀ x c, X.fn x = true → X.env.cells.lookup x = some c → X.s₀.heap.objs.size ≤ c
  hd : X.calm = true → X.A.handled = none
  frames : X.A.frames = some X.stack
  stk : X.stack = X.outer ∨ (X.stack = X.env :: X.outer ∧ X.env.frame = some X.env.locals)
  exf : ∀ b ∈ X.ex, b ≠ X.env.locals ∧ ∀ x c, X.env.cells.lookup x = some c → c ≠ b
  bs : ∀ b o, X.base.get? b = some o → X.s₀.heap.get? b = some o ∧ X.H₀ b = none
  bsz : X.base.objs.size ≤ X.s₀.heap.objs.size
  noex : ∀ b o, X.base.get? b = some o → b ∉ X.ex
  exfs : ∀ b ∈ X.ex, b ∉ X.fs
  funs : X.s₀.heap.FunFrames X.base X.outer
  frf : ∀ b ∈ X.fs, X.H₀ b = none

structure Inv (X : Cx) (pins : List (Addr × Obj)) (σ : List (Option V)) (H : Hp) (s : Shared) : Prop where
  ok : X.Ok
  os : s.os = X.s₀.os
  bare : AllBare s.gens
  base : Un X.fs X.ex X.H₀ H X.s₀.heap s.heap
  loc : ∃ m, s.heap.Ns X.env.locals m ∧ ∀ (i : Nat) (x : Str) (v : V), X.N[i]? = some x → σ[i]? = some (some v) → Vis X.env.scope x → ∃ u, RelV v u ∧ Look X.env s.heap m x u
  cell : ∀ x c, X.env.cells.lookup x = some c → ∃ v, s.heap.IsCell c v
  free : H X.env.locals = none
  freeC : ∀ x c, X.env.cells.lookup x = some c → H c = none
  pin : ∀ p ∈ X.pn ++ pins, s.heap.get? p.1 = some p.2 ∧ H p.1 = none ∧ p.1 ≠ X.env.locals ∧ p.1 ∉ X.fs ∧ ∀ v, p.2.data ≠ .cell v
  hok : HOk X.prog X.w H s.heap
  len : σ.length = X.N.length

section
variable {X : Cx} {pins : List (Addr × Obj)} {σ : List (Option V)} {H H' : Hp} {s : Shared} {h' : Heap}

theorem Cx.Ok.nofr (ok : X.Ok) {b : Addr} {o : Obj} (e : X.base.get? b = some o) : b ∉ X.fs := fun hb => by
  have := (ok.funs.mem hb).1
  rw [e] at this; cases this
theorem Inv.bs (I : Inv X pins σ H s) : ∀ b o, X.base.get? b = some o → s.heap.get? b = some o ∧ H b = none := fun b o e =>
  ⟨I.base.keep b o (I.ok.bs b o e).1 (I.ok.bs b o e).2 (I.ok.nofr e) (I.ok.noex b o e), I.base.free b o (I.ok.bs b o e).1 (I.ok.bs b o e).2 (I.ok.noex b o e)⟩
theorem Inv.bk (I : Inv X pins σ H s) : ∀ b o, X.base.get? b = some o → s.heap.get? b = some o := fun b o e => (I.bs b o e).1
theorem Inv.mod (I : Inv X pins σ H s) : Mod X.K X.mg X.base := I.ok.mod
theorem Inv.kIn (I : Inv X pins σ H s) : X.K.In s.heap := I.ok.mod.kin.keeps I.bk
theorem Inv.lt (I : Inv X pins σ H s) : X.env.locals < s.heap.objs.size := let ⟨_, hn, _⟩ := I.loc; hn.lt
theorem Inv.sz (I : Inv X pins σ H s) : X.s₀.heap.objs.size ≤ s.heap.objs.size := Nat.le_trans I.ok.above (Nat.le_of_lt I.lt)
theorem Inv.nofs (I : Inv X pins σ H s) {a : Addr} (h : s.heap.objs.size ≤ a) : a ∉ X.fs := fun hb => by
  obtain ⟨_, o, ho, _⟩ := I.ok.funs.mem hb
  exact absurd (Nat.lt_of_lt_of_le (Heap.lt_size ho) (Nat.le_trans I.sz h)) (Nat.lt_irrefl _)
theorem Inv.cne (I : Inv X pins σ H s) : ∀ x c, X.env.cells.lookup x = some c → c ≠ X.env.locals := fun x c e z => by
  obtain ⟨v, o, ho, hd⟩ := I.cell x c e
  obtain ⟨m, ⟨o', es, ep, ho', hd', _⟩, _⟩ := I.loc
  rw [z, ho'] at ho; cases ho; rw [hd'] at hd; cases hd
theorem Inv.funs (I : Inv X pins σ H s) : s.heap.FunFrames X.base X.outer := by
  have all : ∀ (l : List Env), (∀ b ∈ frs l, b ∈ X.fs) → X.s₀.heap.FunFrames X.base l → s.heap.FunFrames X.base l := by
    intro l
    induction l with
    | nil => intro _ _; trivial
    | cons env r ih =>
      intro hs hl
      obtain ⟨hk, ⟨L, o, hf, hn, ho, hd⟩, hr⟩ := hl
      have hL : L ∈ X.fs := hs L (by unfold frs; rw [List.filterMap_cons, hf]; exact List.mem_cons_self)
      obtain ⟨sl, e⟩ := I.base.slot L o ho (I.ok.frf L hL) hL fun z => I.ok.exfs L z hL
      exact ⟨hk, ⟨L, _, hf, hn, e, hd⟩, ih (fun b hb => hs b (by unfold frs; rw [List.filterMap_cons, hf]; exact List.mem_cons_of_mem _ hb)) hr⟩
  exact all X.outer (fun _ hb => hb) I.ok.funs

/-- the frames that run, for a call -/
theorem Inv.stack (I : Inv X pins σ H s) : s.heap.FunFrames X.base X.stack := by
  rcases I.ok.stk with e | ⟨e, hf⟩
  · rw [e]; exact I.funs
  · rw [e]
    obtain ⟨m, hn, _⟩ := I.loc
    refine .cons (by rw [I.ok.kind]; decide) hf hn ?_ I.funs
    exact Heap.get?_none_of_le (Nat.le_trans I.ok.bsz I.ok.above)
theorem Inv.stkSub (I : Inv X pins σ H s) : ∀ b ∈ frs X.stack, b ∈ X.env.locals :: X.fs := fun b hb => by
  rcases I.ok.stk with e | ⟨e, hf⟩
  · rw [e] at hb; exact List.mem_cons_of_mem _ hb
  · rw [e] at hb
    unfold frs at hb
    rw [List.filterMap_cons, hf] at hb
    exact hb
theorem Inv.stkFree (I : Inv X pins σ H s) : ∀ b ∈ frs X.stack, H b = none := fun b hb => by
  rcases List.mem_cons.mp (I.stkSub b hb) with e | hb
  · rw [e]; exact I.free
  · obtain ⟨_, o, ho, _⟩ := I.ok.funs.mem hb
    exact I.base.free b o ho (I.ok.frf b hb) fun z => I.ok.exfs b z hb

/-- THE STEP: the untracked objects but the frame and the records at ch are kept (the callers' frames up to slots), the frame's map is kept, the new abstract heap is held -/
theorem Inv.step {g' : Array GenState} {t' : Nat} {d' : Drawn} {ch : List Addr} (I : Inv X pins σ H s)
    (hch : ∀ b ∈ ch, (b ∈ X.ex ∨ X.s₀.heap.objs.size ≤ b) ∧ b ≠ X.env.locals ∧ (∀ x c, X.env.cells.lookup x = some c → c ≠ b) ∧ ∀ p ∈ X.pn ++ pins, p.1 ≠ b)
    (keep : ∀ b o, b ≠ X.env.locals → b ∉ X.fs → b ∉ ch → s.heap.get? b = some o → H b = none → h'.get? b = some o)
    (slot : ∀ b o, b ≠ X.env.locals → b ∈ X.fs → b ∉ ch → s.heap.get? b = some o → H b = none → ∃ sl, h'.get? b = some { o with slots := sl }) (free : ∀ b o, b ∉ ch → s.heap.get? b = some o → H b = none → H' b = none)
    (there : ∀ b o, b ∉ ch → s.heap.get? b = some o → ∃ o', h'.get? b = some o')
    (tups : ∀ b xs, H b = some (.tup xs) → H' b = some (.tup xs)) (frzs : ∀ b o u, H b = some (.frz o u) → H' b = some (.frz o u)) (tbls : ∀ b ps, H b = some (.tbl ps) → ∃ more, H' b = some (.tbl (ps ++ more)))
    (ns : ∀ m, s.heap.Ns X.env.locals m → h'.Ns X.env.locals m) (hok : HOk X.prog X.w H' h') (hg : AllBare g') :
    Inv X pins σ H' { s with heap := h', gens := g', drawn := d', toks := t' } := by
  have neL : ∀ b o, X.s₀.heap.get? b = some o → b ≠ X.env.locals := fun b o e => Nat.ne_of_lt (Nat.lt_of_lt_of_le (Heap.lt_size e) I.ok.above)
  have neC : ∀ b o, X.s₀.heap.get? b = some o → b ∉ X.ex → b ∉ ch := fun b o e hx hb => by
    rcases (hch b hb).1 with z | z
    · exact hx z
    · exact absurd (Nat.lt_of_lt_of_le (Heap.lt_size e) z) (Nat.lt_irrefl _)
  have cellK : ∀ x c, X.env.cells.lookup x = some c → ∀ v, s.heap.IsCell c v → h'.IsCell c v := fun x c e v ⟨o, ho, hd⟩ => by
    have nch : c ∉ ch := fun z => (hch c z).2.2.1 x c e rfl
    by_cases hc : c ∈ X.fs
    · obtain ⟨sl, q⟩ := slot c o (I.cne x c e) hc nch ho (I.freeC x c e)
      exact ⟨_, q, hd⟩
    · exact ⟨o, keep c o (I.cne x c e) hc nch ho (I.freeC x c e), hd⟩
  refine ⟨I.ok, I.os, hg, ⟨fun b o e n hb hx => ?_, fun b o e n hb hx => ?_, fun b o e n hx => ?_, fun b o e hx => ?_, fun b xs e => tups b xs (I.base.tups b xs e), fun b o xs e => frzs b o xs (I.base.frzs b o xs e), fun b ps e => ?_⟩, ?_, fun x c e => ?_, ?_, fun x c e => ?_, fun p hp => ?_, hok, I.len⟩
  · exact keep b o (neL b o e) hb (neC b o e hx) (I.base.keep b o e n hb hx) (I.base.free b o e n hx)
  · obtain ⟨sl, e1⟩ := I.base.slot b o e n hb hx
    obtain ⟨sl', e2⟩ := slot b _ (neL b o e) hb (neC b o e hx) e1 (I.base.free b o e n hx)
    exact ⟨sl', e2⟩
  · obtain ⟨o', e1⟩ := I.base.there b o e hx
    exact free b o' (neC b o e hx) e1 (I.base.free b o e n hx)
  · obtain ⟨o', e1⟩ := I.base.there b o e hx
    exact there b o' (neC b o e hx) e1
  · obtain ⟨m1, e1⟩ := I.base.tbls b ps e
    obtain ⟨m2, e2⟩ := tbls b _ e1
    exact ⟨m1 ++ m2, by rw [e2, Array.append_assoc]⟩
  · obtain ⟨m, hn, hl⟩ := I.loc
    refine ⟨m, ns m hn, fun i x v e1 e2 e3 => ?_⟩
    obtain ⟨u, r, l⟩ := hl i x v e1 e2 e3
    refine ⟨u, r, ?_⟩
    rcases l with l | ⟨k, c, e, z⟩
    · exact .inl l
    · exact .inr ⟨k, c, e, cellK x c e _ z⟩
  · obtain ⟨v, z⟩ := I.cell x c e
    exact ⟨v, cellK x c e v z⟩
  · obtain ⟨m, ⟨o, _, _, ho, _⟩, _⟩ := I.loc
    exact free _ o (fun z => (hch _ z).2.1 rfl) ho I.free
  · obtain ⟨v, o, ho, hd⟩ := I.cell x c e
    exact free c o (fun z => (hch c z).2.2.1 x c e rfl) ho (I.freeC x c e)
  · obtain ⟨e, n, ne, nf, d⟩ := I.pin p hp
    have nch : p.1 ∉ ch := fun z => (hch p.1 z).2.2.2 p hp rfl
    exact ⟨keep p.1 p.2 ne nf nch e n, free p.1 p.2 nch e n, ne, nf, d⟩
/-- .. where the frame's own object is kept too -/
theorem Inv.un {t' : Nat} (I : Inv X pins σ H s) (u : Un X.fs [] H H' s.heap h') (hok : HOk X.prog X.w H' h') : Inv X pins σ H' { s with heap := h', toks := t' } := by
  obtain ⟨m, ⟨o, es, ep, ho, r⟩, _⟩ := id I.loc
  obtain ⟨sl, hL⟩ := u.any ho I.free (by simp)
  exact I.step (g' := s.gens) (d' := s.drawn) (ch := []) (fun _ z => nomatch z) (fun b o _ hb _ e n => u.keep b o e n hb (by simp)) (fun b o _ hb _ e n => u.slot b o e n hb (by simp)) (fun b o _ e n => u.free b o e n (by simp)) (fun b o _ e => u.there b o e (by simp)) u.tups u.frzs u.tbls (fun m' hm => by
    obtain ⟨o', es', ep', ho', r'⟩ := hm
    rw [ho] at ho'; cases ho'
    exact ⟨_, es', ep', hL, r'⟩) hok I.bare
/-- behind a call (or a comprehension's block): the slots of this frame may have changed too, the records at ch may have turned -/
theorem Inv.call {g' : Array GenState} {t' : Nat} {d' : Drawn} {ch : List Addr} (I : Inv X pins σ H s) (u : Un (frs X.stack) ch H H' s.heap h') (hok : HOk X.prog X.w H' h') (hg : AllBare g')
    (hch : ∀ b ∈ ch, (b ∈ X.ex ∨ X.s₀.heap.objs.size ≤ b) ∧ b ≠ X.env.locals ∧ (∀ x c, X.env.cells.lookup x = some c → c ≠ b) ∧ ∀ p ∈ X.pn ++ pins, p.1 ≠ b) :
    Inv X pins σ H' { s with heap := h', gens := g', drawn := d', toks := t' } := by
  obtain ⟨m, ⟨o, es, ep, ho, r⟩, _⟩ := id I.loc
  obtain ⟨sl, hL⟩ := u.any ho I.free fun z => (hch _ z).2.1 rfl
  exact I.step (ch := ch) hch (fun b o hL hb hc e n => u.keep b o e n (fun z => (List.mem_cons.mp (I.stkSub b z)).elim hL hb) hc) (fun b o _ _ hc e n => u.any e n hc) (fun b o hc e n => u.free b o e n hc) (fun b o hc e => u.there b o e hc) u.tups u.frzs u.tbls (fun m' hm => by
    obtain ⟨o', es', ep', ho', r'⟩ := hm
    rw [ho] at ho'; cases ho'
    exact ⟨_, es', ep', hL, r'⟩) hok hg
/-- an untracked record of ours (an iterator) has turned -/
theorem Inv.turned {t' : Nat} {it : Addr} (I : Inv X pins σ H s) (k : ∀ b o, b ≠ it → s.heap.get? b = some o → h'.get? b = some o) (hn : H it = none) (hL : it ≠ X.env.locals)
    (h1 : it ∈ X.ex ∨ X.s₀.heap.objs.size ≤ it) (h2 : ∀ x c, X.env.cells.lookup x = some c → c ≠ it) (h3 : ∀ p ∈ X.pn ++ pins, p.1 ≠ it) : Inv X pins σ H { s with heap := h', toks := t' } := by
  have nit : ∀ b u, H b = some u → b ≠ it := fun b u e z => by rw [z, hn] at e; cases e
  refine I.step (g' := s.gens) (d' := s.drawn) (ch := [it]) (fun b hb => ?_) (fun b o _ _ hc e _ => k b o (fun z => hc (by simp [z])) e) (fun b o _ _ hc e _ => ⟨o.slots, k b o (fun z => hc (by simp [z])) e⟩) (fun _ _ _ _ n => n)
    (fun b o hc e => ⟨o, k b o (fun z => hc (by simp [z])) e⟩) (fun _ _ e => e) (fun _ _ _ e => e) (fun b ps e => ⟨#[], by rw [e]; simp⟩) (fun m hm => ?_) (fun b u e => ?_) I.bare
  · have e : b = it := by simpa using hb
    subst e
    exact ⟨h1, hL, h2, h3⟩
  · obtain ⟨o, es, ep, ho, r⟩ := hm
    exact ⟨o, es, ep, k _ o (Ne.symm hL) ho, r⟩
  · refine (I.hok b u e).stay (fun c v hc q => k c v ?_ q) (fun _ q => q) fun _ _ q => q
    rcases hc with z | z
    · rw [z]; exact nit b u e
    · exact nit c _ z
theorem Inv.tok (I : Inv X pins σ H s) (t : Nat) : Inv X pins σ H { s with toks := t } := I.un (h' := s.heap) (t' := t) Un.refl I.hok
/-- all objects kept -/
theorem Inv.kept {t' : Nat} (I : Inv X pins σ H s) (k : ∀ b u, s.heap.get? b = some u → h'.get? b = some u) : Inv X pins σ H { s with heap := h', toks := t' } := I.un (Un.kept k) (I.hok.kept k)
/-- a new object laid and tracked -/
theorem Inv.laid {a : Addr} {o : HO} {t' : Nat} (I : Inv X pins σ H s) (k : ∀ b u, s.heap.get? b = some u → h'.get? b = some u) (hp : s.heap.objs.size ≤ a) (new : ObjOk X.prog X.w (upd H a o) h' a o) :
    Inv X pins σ (upd H a o) { s with heap := h', toks := t' } := I.un (Un.laid k hp (I.hok.fresh hp)) (I.hok.laid k hp new)
/-- an object written -/
theorem Inv.write {x e : Addr} {o : HO} {t' : Nat} (I : Inv X pins σ H s) (mu : Mut (H x)) (he : e = x ∨ H e = some (.own x)) (k : ∀ b u, b ≠ e → s.heap.get? b = some u → h'.get? b = some u) (heo : ∃ u, h'.get? e = some u)
    (new : ObjOk X.prog X.w (upd H x o) h' x o) : Inv X pins σ (upd H x o) { s with heap := h', toks := t' } := I.un (Un.write mu he k heo) (I.hok.write mu he k heo new)
/-- forgetting slots, pins -/
theorem Inv.weak {σ' : List (Option V)} (I : Inv X pins σ H s) (hl : σ'.length = σ.length) (w : ∀ (i : Nat) v, σ'[i]? = some (some v) → σ[i]? = some (some v)) : Inv X pins σ' H s :=
  ⟨I.ok, I.os, I.bare, I.base, let ⟨m, hn, hl'⟩ := I.loc; ⟨m, hn, fun i x v e1 e2 e3 => hl' i x v e1 (w i v e2) e3⟩, I.cell, I.free, I.freeC, I.pin, I.hok, hl.trans I.len⟩
theorem Inv.pins_of {pins' : List (Addr × Obj)} (I : Inv X pins σ H s) (h : ∀ p ∈ pins', s.heap.get? p.1 = some p.2 ∧ H p.1 = none ∧ p.1 ≠ X.env.locals ∧ p.1 ∉ X.fs ∧ ∀ v, p.2.data ≠ .cell v) : Inv X pins' σ H s :=
  ⟨I.ok, I.os, I.bare, I.base, I.loc, I.cell, I.free, I.freeC, fun p hp => (List.mem_append.mp hp).elim (fun z => I.pin p (List.mem_append_left _ z)) (h p), I.hok, I.len⟩

theorem nodup_ix {N : List Str} (hN : N.Nodup) {i j : Nat} {x : Str} (a : N[i]? = some x) (b : N[j]? = some x) : i = j := by
  obtain ⟨h1, e1⟩ := List.getElem?_eq_some_iff.mp a
  obtain ⟨h2, e2⟩ := List.getElem?_eq_some_iff.mp b
  exact (List.getElem_inj hN).mp (e1.trans e2.symm)

/-- a name is stored; what changed -/
theorem store_ok2 {M : Model} {A : Around} {E : Value → Shared → Prop} {i : Nat} {x : Str} {v : V} {u : Value} {Q : Unit → Shared → Prop} (I : Inv X pins σ H s) (hN : X.N.Nodup) (hi : X.N[i]? = some x) (hx : Loc X.env.scope x) (r : RelV v u)
    (h : ∀ s', Inv X pins (σ.set i (some v)) H s' → (∃ a, Heap.SameBut a s.heap s'.heap ∧ (a = X.env.locals ∨ X.env.cells.lookup x = some a)) → Q () s') (hf : X.fn x = true ∨ X.env.scope.names.lookup x = some .local := by first | exact .inl rfl | exact .inr rfl | assumption) : wpAny M A (storeName X.env x u) Q E s := by
  obtain ⟨m, hn, hl⟩ := id I.loc
  have hcls : (X.env.scope.kind == .class || (X.env.scope.kind == .module && X.env.locals != X.env.globals)) = false := by rw [I.ok.kind]; rfl
  have hiσ : i < σ.length := by rw [I.len]; exact (List.getElem?_eq_some_iff.mp hi).1
  have cne := I.cne
  have tracked : ∀ {a : Addr} {h' : Heap}, (∃ o, s.heap.get? a = some o ∧ H a = none) → Heap.SameBut a s.heap h' → HOk X.prog X.w H h' := fun {a h'} ha hs b ob e => by
    obtain ⟨_, _, hfree⟩ := ha
    refine (I.hok b ob e).stay (fun c w' hc q => (hs.2 c ?_).trans q) (fun _ q => q) fun _ _ q => q
    rintro rfl
    rcases hc with rfl | hc
    · rw [hfree] at e; cases e
    · rw [hfree] at hc; cases hc
  rcases hx with hk | hk
  · refine wpAny_storeName_local hk hn (fun h' hn' hs => ?_) hcls
    obtain ⟨oL, _, _, hoL, _⟩ := id hn
    refine h _ ⟨I.ok, I.os, I.bare, ⟨fun b o e n hb hx => ?_, fun b o e n hb hx => ?_, I.base.free, fun b o e hx => ?_, I.base.tups, I.base.frzs, I.base.tbls⟩, ⟨_, hn', fun j y v' e1 e2 e3 => ?_⟩, fun y c e => ?_, I.free, I.freeC, fun p hp => ?_, tracked ⟨oL, hoL, I.free⟩ hs, by simpa using I.len⟩ ⟨_, hs, .inl rfl⟩
    · exact (hs.2 b (Nat.ne_of_lt (Nat.lt_of_lt_of_le (Heap.lt_size e) I.ok.above))).trans (I.base.keep b o e n hb hx)
    · obtain ⟨sl, e1⟩ := I.base.slot b o e n hb hx
      exact ⟨sl, (hs.2 b (Nat.ne_of_lt (Nat.lt_of_lt_of_le (Heap.lt_size e) I.ok.above))).trans e1⟩
    · obtain ⟨o', e1⟩ := I.base.there b o e hx
      exact ⟨o', (hs.2 b (Nat.ne_of_lt (Nat.lt_of_lt_of_le (Heap.lt_size e) I.ok.above))).trans e1⟩
    · by_cases hj : j = i
      · subst hj
        rw [hi] at e1; cases e1
        rw [List.getElem?_set_self hiσ] at e2
        cases e2
        exact ⟨u, r, .inl ⟨hk, by simp⟩⟩
      · rw [List.getElem?_set_ne (Ne.symm hj)] at e2
        obtain ⟨u', r', q⟩ := hl j y v' e1 e2 e3
        refine ⟨u', r', ?_⟩
        rcases q with ⟨k, e⟩ | ⟨k, c, e, z⟩
        · refine .inl ⟨k, ?_⟩
          have : y ≠ x := fun e => hj (nodup_ix hN e1 (e ▸ hi))
          simp [this, e]
        · exact .inr ⟨k, c, e, z.sameBut hs (cne y c e)⟩
    · obtain ⟨w', z⟩ := I.cell y c e
      exact ⟨w', z.sameBut hs (cne y c e)⟩
    · obtain ⟨e, n, ne, nf, d⟩ := I.pin p hp
      exact ⟨(hs.2 p.1 ne).trans e, n, ne, nf, d⟩
  · have hfn : X.fn x = true := by
      rcases hf with z | z
      · exact z
      · rw [z] at hk; cases hk
    obtain ⟨c, hc⟩ := I.ok.has x (.inl hk)
    obtain ⟨w', z⟩ := I.cell x c hc
    refine wpAny_storeName_cell I.ok.kind hk hc z (fun h' hc' hs => ?_)
    obtain ⟨oc, hoc, hocd⟩ := id z
    refine h { s with heap := h' } ⟨I.ok, I.os, I.bare, ⟨fun b o e n hb hx => ?_, fun b o e n hb hx => ?_, I.base.free, fun b o e hx => ?_, I.base.tups, I.base.frzs, I.base.tbls⟩, ⟨m, hn.sameBut hs (Ne.symm (cne x c hc)), fun j y v' e1 e2 e3 => ?_⟩, fun y c' e => ?_, I.free, I.freeC, fun p hp => ?_, tracked ⟨oc, hoc, I.freeC x c hc⟩ hs, by simpa using I.len⟩ ⟨c, hs, .inr hc⟩
    · exact (hs.2 b (Nat.ne_of_lt (Nat.lt_of_lt_of_le (Heap.lt_size e) (I.ok.cab x c hfn hc)))).trans (I.base.keep b o e n hb hx)
    · obtain ⟨sl, e1⟩ := I.base.slot b o e n hb hx
      exact ⟨sl, (hs.2 b (Nat.ne_of_lt (Nat.lt_of_lt_of_le (Heap.lt_size e) (I.ok.cab x c hfn hc)))).trans e1⟩
    · obtain ⟨o', e1⟩ := I.base.there b o e hx
      exact ⟨o', (hs.2 b (Nat.ne_of_lt (Nat.lt_of_lt_of_le (Heap.lt_size e) (I.ok.cab x c hfn hc)))).trans e1⟩
    · by_cases hj : j = i
      · subst hj
        rw [hi] at e1; cases e1
        rw [List.getElem?_set_self hiσ] at e2
        cases e2
        exact ⟨u, r, .inr ⟨.inl hk, c, hc, hc'⟩⟩
      · rw [List.getElem?_set_ne (Ne.symm hj)] at e2
        obtain ⟨u', r', q⟩ := hl j y v' e1 e2 e3
        refine ⟨u', r', ?_⟩
        rcases q with q | ⟨k, c', e, z'⟩
        · exact .inl q
        · refine .inr ⟨k, c', e, z'.sameBut hs ?_⟩
          rintro rfl
          exact hj (nodup_ix hN e1 (I.ok.inj _ _ _ e hc ▸ hi))
    · by_cases hcc : c' = c
      · subst hcc; exact ⟨_, hc'⟩
      · obtain ⟨w2, z2⟩ := I.cell y c' e
        exact ⟨w2, z2.sameBut hs hcc⟩
    · obtain ⟨e, n, ne, nf, d⟩ := I.pin p hp
      refine ⟨(hs.2 p.1 ?_).trans e, n, ne, nf, d⟩
      intro q
      rw [q, hoc] at e
      have q' : oc = p.2 := Option.some.inj e
      exact d w' (by rw [← q']; exact hocd)
theorem store_ok {M : Model} {A : Around} {E : Value → Shared → Prop} {i : Nat} {x : Str} {v : V} {u : Value} {Q : Unit → Shared → Prop} (I : Inv X pins σ H s) (hN : X.N.Nodup) (hi : X.N[i]? = some x) (hx : Loc X.env.scope x) (r : RelV v u)
    (h : ∀ s', Inv X pins (σ.set i (some v)) H s' → Q () s') (hf : X.fn x = true ∨ X.env.scope.names.lookup x = some .local := by first | exact .inl rfl | exact .inr rfl | assumption) : wpAny M A (storeName X.env x u) Q E s :=
  store_ok2 I hN hi hx r (fun s' I' _ => h s' I') hf
/-- behind a call or a block, the state as it is -/
theorem Inv.call' {s' : Shared} {ch : List Addr} (I : Inv X pins σ H s) (ho : s'.os = s.os) (u : Un (frs X.stack) ch H H' s.heap s'.heap) (hok : HOk X.prog X.w H' s'.heap) (hg : AllBare s'.gens)
    (hch : ∀ b ∈ ch, (b ∈ X.ex ∨ X.s₀.heap.objs.size ≤ b) ∧ b ≠ X.env.locals ∧ (∀ x c, X.env.cells.lookup x = some c → c ≠ b) ∧ ∀ p ∈ X.pn ++ pins, p.1 ≠ b) : Inv X pins σ H' s' := by
  obtain ⟨h', g', d', t', o'⟩ := s'
  have e : o' = s.os := ho
  subst e
  exact I.call (g' := g') (t' := t') (d' := d') u hok hg hch
end

/-- an exception: its class, its own dict's address (where it has one), the abstract heap behind it -/
abbrev XK := Value → Option Addr → Hp → Prop
abbrev St := List (Option V)
abbrev VK := V → Hp → Prop
/-- an expression's reading; a test's; an argument list's -/
abbrev TE := St → Hp → VK → Prop
abbrev TT := St → Hp → (Bool → Hp → Prop) → Prop
abbrev TA := St → Hp → (List V → Hp → Prop) → Prop
/-- what is wanted behind a statement -/
structure Ends where
  nx : St → Hp → Prop
  rt : VK
  bk : St → Hp → Prop := fun _ _ => False
  ct : St → Hp → Prop := fun _ _ => False
abbrev TS := Ends → St → Hp → Prop

def EP (X : Cx) (pins : List (Addr × Obj)) (σ : St) (Q : VK) (u : Value) (s' : Shared) : Prop := ∃ v H', Inv X pins σ H' s' ∧ RelV v u ∧ Q v H'
def TP (X : Cx) (pins : List (Addr × Obj)) (σ : St) (Q : Bool → Hp → Prop) (b : Bool) (s' : Shared) : Prop := ∃ H', Inv X pins σ H' s' ∧ Q b H'
def AP (X : Cx) (pins : List (Addr × Obj)) (σ : St) (Q : List V → Hp → Prop) (us : List Value) (s' : Shared) : Prop := ∃ vs H', Inv X pins σ H' s' ∧ Vals vs us ∧ Q vs H'
def SP (X : Cx) (pins : List (Addr × Obj)) (D : Ends) (f : Flow) (s' : Shared) : Prop :=
  match f with
  | .next => ∃ σ' H', Inv X pins σ' H' s' ∧ D.nx σ' H'
  | .brk => ∃ σ' H', Inv X pins σ' H' s' ∧ D.bk σ' H'
  | .cont => ∃ σ' H', Inv X pins σ' H' s' ∧ D.ct σ' H'
  | .ret u => ∃ v σ' H', Inv X pins σ' H' s' ∧ RelV v u ∧ D.rt v H'

def PE (X : Cx) (e : Expr) (t : TE) : Prop :=
  ∀ (pins : List (Addr × Obj)) (s : Shared) (σ : St) (H : Hp) (Q : VK), Inv X pins σ H s → t σ H Q → wpAny (model X.prog X.w) X.A (eval e X.env) (EP X pins σ Q) X.xe s
def PT (X : Cx) (e : Expr) (t : TT) : Prop :=
  ∀ (pins : List (Addr × Obj)) (s : Shared) (σ : St) (H : Hp) (Q : Bool → Hp → Prop), Inv X pins σ H s → t σ H Q → wpAny (model X.prog X.w) X.A (isTrue e X.env (eval e X.env)) (TP X pins σ Q) X.xe s
/-- a test whatever its 'whole' is (and, or) -/
def PW (X : Cx) (e : Expr) (t : TT) : Prop :=
  ∀ (whole : Sem Value) (pins : List (Addr × Obj)) (s : Shared) (σ : St) (H : Hp) (Q : Bool → Hp → Prop), Inv X pins σ H s → t σ H Q → wpAny (model X.prog X.w) X.A (isTrue e X.env whole) (TP X pins σ Q) X.xe s
theorem PW.pt {X : Cx} {e : Expr} {t : TT} (h : PW X e t) : PT X e t := h _
/-- an argument list (no star), from the left -/
def PA (X : Cx) (es : List Expr) (t : TA) : Prop :=
  ∀ (pos : Pos) (pins : List (Addr × Obj)) (s : Shared) (σ : St) (H : Hp) (Q : List V → Hp → Prop), Inv X pins σ H s → t σ H Q → wpAny (model X.prog X.w) X.A (spliced (backTo pos (starEach es X.env))) (AP X pins σ Q) X.xe s
def PS (X : Cx) (st : Stmt) (t : TS) : Prop :=
  ∀ (pins : List (Addr × Obj)) (s : Shared) (σ : St) (H : Hp) (D : Ends), Inv X pins σ H s → t D σ H → wpAny (model X.prog X.w) X.A (exec st X.env) (SP X pins D) X.xe s
def PSs (X : Cx) (st : List Stmt) (t : TS) : Prop :=
  ∀ (pins : List (Addr × Obj)) (s : Shared) (σ : St) (H : Hp) (D : Ends), Inv X pins σ H s → t D σ H → wpAny (model X.prog X.w) X.A (execs st X.env) (SP X pins D) X.xe s
/-- weaken the end -/
theorem thn {α : Type} {t : Sem α} {Q Q' : α → Shared → Prop} {M : Model} {A : Around} {E : Value → Shared → Prop} {s : Shared} (h : wpAny M A t Q E s) (hQ : ∀ a s, Q a s → Q' a s) : wpAny M A t Q' E s := wpAny_mono h hQ fun _ _ x => x
end L2

namespace L2
open PySem PySem.Spec PyProof.Rows
section
variable {X : Cx}

def tVar (i : Nat) : TE := fun σ H Q => ∃ v, σ[i]? = some (some v) ∧ Q v H
def tC (v : V) : TE := fun _ H Q => Q v H
theorem pe_var {i : Nat} {x : Str} {pos : Pos} (hN : X.N[i]? = some x) (hv : Vis X.env.scope x) (hd : (x == ("__debug__" : Str)) = false := by decide) (hcd : (x == ("__classdict__" : Str)) = false := by decide) : PE X (.Name x pos) (tVar i) := by
  intro pins s σ H Q I h
  obtain ⟨v, e, h⟩ := h
  obtain ⟨m, hn, hl⟩ := I.loc
  obtain ⟨u, r, l⟩ := hl i x v hN e hv
  have fin : EP X pins σ Q u s := ⟨v, H, I, r, h⟩
  rcases l with ⟨hk, hm⟩ | ⟨hk, c, hc, hcell⟩
  · exact wpAny_Name (wpAny_loadName_local I.ok.kind hk hn hm fin) hd
  · rcases hk with hk | hk
    · exact wpAny_Name (wpAny_loadName_cell I.ok.kind hk hc hcell fin) hd
    · exact wpAny_Name (wpAny_loadName_free I.ok.kind hk hc hcell fin hcd) hd
theorem pe_int {i j pos} : PE X (.Constant (.int i) j pos) (tC (.int i)) := fun _ _ _ H _ I h => wpAny_Constant_int ⟨.int i, H, I.tok _, ⟨_, rfl⟩, h⟩
theorem pe_bl {b j pos} : PE X (.Constant (.bool b) j pos) (tC (.bl b)) := fun _ _ _ H _ I h => Constant_bool ⟨.bl b, H, I, rfl, h⟩
theorem pe_non {j pos} : PE X (.Constant .none j pos) (tC .non) := fun _ _ _ H _ I h => Constant_none ⟨.non, H, I, rfl, h⟩
theorem pe_str {x j pos} : PE X (.Constant (.str x) j pos) (tC (.str x)) := fun _ _ _ H _ I h => Calls.Constant_str ⟨.str x, H, I.tok _, ⟨_, rfl⟩, h⟩

/-- a global name of the def -/
def Gl (X : Cx) (x : Str) : Prop := X.env.kindOf x = some .globalImplicit
theorem ld_glob {E : Value → Shared → Prop} {pins : List (Addr × Obj)} {s : Shared} {σ : St} {H : Hp} {x : Str} {u : Value} {pos : Pos} {Q : Value → Shared → Prop} (I : Inv X pins σ H s) (hg : Gl X x) (hm : X.mg x = some u) (h : Q u s)
    (hd : (x == ("__debug__" : Str)) = false := by decide) : wpAny (model X.prog X.w) X.A (eval (.Name x pos) X.env) Q E s :=
  Calls.Name_function_global I.ok.kind hg (Calls.loadGlobal_global (by rw [I.ok.glob]; exact I.mod.glob.keeps I.bk) hm h) hd
theorem ld_blt {E : Value → Shared → Prop} {pins : List (Addr × Obj)} {s : Shared} {σ : St} {H : Hp} {x : Str} {u : Value} {pos : Pos} {Q : Value → Shared → Prop} (I : Inv X pins σ H s) (hg : Gl X x) (hm : X.mg x = none) (hv : bootBuiltins x = some u) (h : Q u s)
    (hn : x ≠ "__name__" := by decide) (hd : (x == ("__debug__" : Str)) = false := by decide) : wpAny (model X.prog X.w) X.A (eval (.Name x pos) X.env) Q E s := by
  obtain ⟨mb, h1, h2⟩ := I.mod.blt
  exact Calls.Name_function_global I.ok.kind hg (Calls.loadGlobal_builtin (by rw [I.ok.glob]; exact I.mod.glob.keeps I.bk) hm (by rw [I.ok.blt]; exact h1.keeps I.bk) ((h2 x hn).trans hv) h) hd
/-- a module's constant, a class, a function, as a value -/
theorem pe_glob {x : Str} {v : V} {u : Value} {pos : Pos} (hg : Gl X x) (hm : X.mg x = some u) (r : RelV v u) (hd : (x == ("__debug__" : Str)) = false := by decide) : PE X (.Name x pos) (tC v) :=
  fun _ _ _ H _ I h => ld_glob I hg hm ⟨v, H, I, r, h⟩ hd
theorem pe_bltn {x : Str} {v : V} {u : Value} {pos : Pos} (hg : Gl X x) (hm : X.mg x = none) (hv : bootBuiltins x = some u) (r : RelV v u) (hn : x ≠ "__name__" := by decide) (hd : (x == ("__debug__" : Str)) = false := by decide) : PE X (.Name x pos) (tC v) :=
  fun _ _ _ H _ I h => ld_blt I hg hm hv ⟨v, H, I, r, h⟩ hn hd

variable {a b : Expr} {ta tb : TE} {pos : Pos}
def PC (X : Cx) (op : CmpOp) (a b : Expr) (t : TE) : Prop :=
  ∀ (pins : List (Addr × Obj)) (s : Shared) (σ : St) (H : Hp) (Q : VK), Inv X pins σ H s → t σ H Q →
    wpAny (model X.prog X.w) X.A (eval a X.env) (fun v s₁ => wpAny (model X.prog X.w) X.A (eval b X.env) (fun u s₂ => wpAny (model X.prog X.w) X.A (compareOp op v u) (EP X pins σ Q) X.xe s₂) X.xe s₁) X.xe s
theorem nobehind (b : Expr) {op : CmpOp} (h : op ≠ .In) (h2 : op ≠ .NotIn) : behindInMarks op b = false := by
  have e1 : (op == CmpOp.In) = false := by cases op <;> first | rfl | exact absurd rfl h
  have e2 : (op == CmpOp.NotIn) = false := by cases op <;> first | rfl | exact absurd rfl h2
  cases b <;> simp [behindInMarks, e1, e2]
/-- is None -/
def tIsN (ta : TE) : TE := fun σ H Q => ta σ H fun x H1 => Q (.bl (decide (x = .non))) H1
def tNotN (ta : TE) : TE := fun σ H Q => ta σ H fun x H1 => Q (.bl (!decide (x = .non))) H1
theorem RelV.none_iff {x : V} {v : Value} (r : RelV x v) : (v == Value.none) = decide (x = .non) := by
  cases x with
  | non => cases r; rfl
  | bl _ => cases r; rfl
  | int _ => obtain ⟨t, rfl⟩ := r; rfl
  | str _ => obtain ⟨t, rfl⟩ := r; rfl
  | byt _ => obtain ⟨t, rfl⟩ := r; rfl
  | flt _ => obtain ⟨t, rfl⟩ := r; rfl
  | ref _ => cases r; rfl
  | ty _ => cases r; rfl
theorem pc_isN {j pos'} (ha : PE X a ta) : PC X .Is a (.Constant .none j pos') (tIsN ta) := by
  intro pins s σ H Q I h
  refine thn (ha pins s σ H _ I h) fun v s1 ⟨x, H1, I1, r1, q1⟩ => ?_
  exact Constant_none (is_none_gen ⟨.bl _, H1, I1, by rw [r1.none_iff]; rfl, q1⟩)
/-- a comparison as a value, as a test -/
def tB (t : TE) : TT := fun σ H Q => t σ H fun x H1 => ∃ c, x = .bl c ∧ Q c H1
theorem pe_cmp {op : CmpOp} {t : TE} (h : PC X op a b t) (h1 : behindInMarks op b = false := by first | exact nobehind _ (by decide) (by decide) | rfl) : PE X (.Compare a [op] [b] pos) t := fun pins s σ H Q I hw => wpAny_Compare1 (h pins s σ H Q I hw) h1
theorem pt_cmp {op : CmpOp} {t : TE} (h : PC X op a b t) (h1 : behindInMarks op b = false := by first | exact nobehind _ (by decide) (by decide) | rfl) : PT X (.Compare a [op] [b] pos) (tB t) := by
  intro pins s σ H Q I hw
  refine wpAny_isTrue_Compare1 (thn (h pins s σ H _ I hw) fun v s1 h1 => thn h1 fun u s2 h2 => thn h2 fun c s3 ⟨x, H1, I1, r1, q1⟩ => ?_) h1
  obtain ⟨d, rfl, q⟩ := q1
  cases r1
  exact wpAny_truthy_bool ⟨H1, I1, q⟩
/-- an expression whose value is a bool, as a test -/
theorem pt_val {e : Expr} {t : TE} (h : PE X e t) (he : ∀ whole, isTrue e X.env whole = (do let v ← whole; standAt e.pos; holding [v] (truthy v)) := by intro _; rfl) : PT X e (tB t) := by
  intro pins s σ H Q I hw
  refine isTrue_plain (thn (h pins s σ H _ I hw) fun v s1 ⟨x, H1, I1, r1, q1⟩ => ?_) (he _)
  obtain ⟨d, rfl, q⟩ := q1
  cases r1
  exact wpAny_truthy_bool ⟨H1, I1, q⟩

variable {tA tB' : TT} {rest : List Expr}
def tAnd (t u : TT) : TT := fun σ H Q => t σ H fun c H1 => if c = true then u σ H1 Q else Q false H1
def tOr (t u : TT) : TT := fun σ H Q => t σ H fun c H1 => if c = true then Q true H1 else u σ H1 Q
def tNot (t : TT) : TT := fun σ H Q => t σ H fun c H1 => Q (!c) H1
theorem pw_and1 (ha : PT X a tA) : PW X (.BoolOp .And [a] pos) tA := by
  intro wh pins s σ H Q I h
  refine isTrue_and (thn (ha pins s σ H Q I h) fun c s1 e => ?_)
  cases c with
  | true => exact isTrue_and_nil e
  | false => exact e
theorem pw_or1 (ha : PT X a tA) : PW X (.BoolOp .Or [a] pos) tA := by
  intro wh pins s σ H Q I h
  refine isTrue_or (thn (ha pins s σ H Q I h) fun c s1 e => ?_)
  cases c with
  | false => exact isTrue_or_nil e
  | true => exact e
theorem pw_and (ha : PT X a tA) (hb : PW X (.BoolOp .And (b :: rest) pos) tB') : PW X (.BoolOp .And (a :: b :: rest) pos) (tAnd tA tB') := by
  intro wh pins s σ H Q I h
  refine isTrue_and (thn (ha pins s σ H _ I h) fun c s1 ⟨H1, I1, q1⟩ => ?_)
  cases c with
  | true => exact hb wh pins s1 σ H1 Q I1 q1
  | false => exact ⟨H1, I1, q1⟩
theorem pw_or (ha : PT X a tA) (hb : PW X (.BoolOp .Or (b :: rest) pos) tB') : PW X (.BoolOp .Or (a :: b :: rest) pos) (tOr tA tB') := by
  intro wh pins s σ H Q I h
  refine isTrue_or (thn (ha pins s σ H _ I h) fun c s1 ⟨H1, I1, q1⟩ => ?_)
  cases c with
  | true => exact ⟨H1, I1, q1⟩
  | false => exact hb wh pins s1 σ H1 Q I1 q1
theorem pt_not (ha : PT X a tA) : PT X (.UnaryOp .Not a pos) (tNot tA) := by
  intro pins s σ H Q I h
  exact isTrue_not (ha pins s σ H (fun c H1 => Q (!c) H1) I h)
/-- .. as values (bools) -/
def tAndV (ta tb : TE) : TE := fun σ H Q => ta σ H fun x H1 => ∃ c, x = .bl c ∧ if c = true then tb σ H1 Q else Q (.bl false) H1
def tOrV (ta tb : TE) : TE := fun σ H Q => ta σ H fun x H1 => ∃ c, x = .bl c ∧ if c = true then Q (.bl true) H1 else tb σ H1 Q
def tNotV (ta : TE) : TE := fun σ H Q => ta σ H fun x H1 => ∃ c, x = .bl c ∧ Q (.bl (!c)) H1
theorem pe_one {op} {t : TE} (h : PE X a t) : PE X (.BoolOp op [a] pos) t := fun pins s σ H Q I hw => BoolOp_one (h pins s σ H Q I hw)
theorem pe_and (ha : PE X a ta) (hb : PE X (.BoolOp .And (b :: rest) pos) tb) : PE X (.BoolOp .And (a :: b :: rest) pos) (tAndV ta tb) := by
  intro pins s σ H Q I h
  refine BoolOp_and (thn (ha pins s σ H _ I h) fun v s1 ⟨x, H1, I1, r1, q1⟩ => ?_)
  obtain ⟨c, rfl, q1⟩ := q1
  cases r1
  refine wpAny_truthy_bool ?_
  cases c with
  | true => exact hb pins s1 σ H1 Q I1 q1
  | false => exact ⟨.bl false, H1, I1, rfl, q1⟩
theorem pe_not (ha : PE X a ta) : PE X (.UnaryOp .Not a pos) (tNotV ta) := by
  intro pins s σ H Q I h
  refine UnaryOp_ (thn (ha pins s σ H _ I h) fun v s1 ⟨x, H1, I1, r1, q1⟩ => ?_)
  obtain ⟨c, rfl, q1⟩ := q1
  cases r1
  exact not_of (wpAny_truthy_bool ⟨.bl (!c), H1, I1, rfl, q1⟩)
/-- a if t else b -/
def tIf (t : TT) (ta tb : TE) : TE := fun σ H Q => t σ H fun c H1 => if c = true then ta σ H1 Q else tb σ H1 Q
theorem pe_ifExp {c : Expr} (hc : PT X c tA) (ha : PE X a ta) (hb : PE X b tb) : PE X (.IfExp c a b pos) (tIf tA ta tb) := by
  intro pins s σ H Q I h
  refine wpAny_IfExp (thn (hc pins s σ H _ I h) fun d s1 ⟨H1, I1, q1⟩ => ?_)
  cases d with
  | true => exact ha pins s1 σ H1 Q I1 q1
  | false => exact hb pins s1 σ H1 Q I1 q1
end
end L2

namespace L2
open PySem PySem.Spec PyProof.Rows

def SqL (K : PySem.W.Frag) (H : Hp) (a : Addr) (xs : List V) : Prop :=
  Rd H a (.lst xs) ∨
    ∃ (o : Obj) (its : Array Value) (n : Nat), K.lookup a = some o ∧ o.cls = .type "list" ∧ o.dict = none ∧ o.data = .seq its n ∧ its.size ≤ sizeLine ∧ Vals xs its.toList
def SqT (K : PySem.W.Frag) (H : Hp) (a : Addr) (xs : List V) : Prop :=
  Rd H a (.tup xs) ∨
    ∃ (o : Obj) (its : Array Value) (n : Nat), K.lookup a = some o ∧ o.cls = .type "tuple" ∧ o.data = .seq its n ∧ its.size ≤ sizeLine ∧ Vals xs its.toList
def absV : Value → Option V
  | .none => some .non
  | .bool b => some (.bl b)
  | .int i _ => some (.int i)
  | .str x _ => some (.str x)
  | .bytes b _ => some (.byt b)
  | .float b _ => some (.flt b)
  | .ref a => some (.ref a)
  | .type n => some (.ty n)
  | _ => none
theorem RelV.abs {x : V} {u : Value} (r : RelV x u) : absV u = some x := by
  cases x with
  | non => cases r; rfl
  | bl _ => cases r; rfl
  | int _ => obtain ⟨t, rfl⟩ := r; rfl
  | str _ => obtain ⟨t, rfl⟩ := r; rfl
  | byt _ => obtain ⟨t, rfl⟩ := r; rfl
  | flt _ => obtain ⟨t, rfl⟩ := r; rfl
  | ref _ => cases r; rfl
  | ty _ => cases r; rfl
theorem RelV.inj {x y : V} {u : Value} (r : RelV x u) (q : RelV y u) : x = y := Option.some.inj (r.abs.symm.trans q.abs)
theorem Vals.inj : ∀ {xs ys : List V} {us : List Value}, Vals xs us → Vals ys us → xs = ys
  | _, _, _, .nil, .nil => rfl
  | _, _, _, .cons r t, .cons r' t' => by rw [r.inj r', Vals.inj t t']
section
variable {X : Cx} {pins : List (Addr × Obj)} {σ : St} {H : Hp} {s : Shared} {a : Addr} {xs ys : List V}
theorem SqL.of {K : PySem.W.Frag} (h : H a = some (.lst xs)) : SqL K H a xs := .inl (.inl h)
theorem SqT.of {K : PySem.W.Frag} (h : H a = some (.tup xs)) : SqT K H a xs := .inl (.inl h)
theorem Inv.list (I : Inv X pins σ H s) (h : SqL X.K H a xs) : ∃ its : List Value, Vals xs its ∧ PlainL s.heap a its.toArray ∧ xs.length ≤ sizeLine := by
  rcases h with h | ⟨o, its, n, hk, hc, hd, hs, hz, r⟩
  · obtain ⟨z, its, n, r, e⟩ := h.ok I.hok
    exact ⟨its, r, ⟨_, n, e, rfl, rfl, rfl⟩, z⟩
  · refine ⟨its.toList, r, ⟨o, n, I.kIn a o hk, hc, hd, by simpa using hs⟩, ?_⟩
    have e := r.length
    simp only [Array.length_toList] at e
    omega
theorem Inv.tuple (I : Inv X pins σ H s) (h : SqT X.K H a xs) : ∃ its : List Value, Vals xs its ∧ IsTup s.heap a its.toArray ∧ xs.length ≤ sizeLine := by
  rcases h with h | ⟨o, its, n, hk, hc, hs, hz, r⟩
  · obtain ⟨z, its, r, p⟩ := h.ok I.hok
    exact ⟨its, r, p, z⟩
  · refine ⟨its.toList, r, ⟨o, I.kIn a o hk, hc, n, by simpa using hs⟩, ?_⟩
    have e := r.length
    simp only [Array.length_toList] at e
    omega
theorem Inv.list_inj (I : Inv X pins σ H s) (h : SqL X.K H a xs) (h' : SqL X.K H a ys) : xs = ys := by
  obtain ⟨its, r, ⟨o, n, e, _, _, d⟩, _⟩ := I.list h
  obtain ⟨its', r', ⟨o', n', e', _, _, d'⟩, _⟩ := I.list h'
  rw [e] at e'; cases e'
  rw [d] at d'
  injection d' with d1 _
  have : its = its' := by simpa using congrArg Array.toList d1
  subst this
  exact r.inj r'
end

abbrev Cx.wish (X : Cx) (E : Value → Shared → Prop) : Cx := { X with xe := E }
/-- no exception leaves -/
abbrev Cx.nox (X : Cx) : Cx := X.wish fun _ _ => False
theorem Cx.Ok.wish {X : Cx} (ok : X.Ok) (E : Value → Shared → Prop) : (X.wish E).Ok :=
  ⟨ok.mod, ok.kind, ok.glob, ok.blt, ok.above, ok.inj, ok.has, ok.cab, ok.hd, ok.frames, ok.stk, ok.exf, ok.bs, ok.bsz, ok.noex, ok.exfs, ok.funs, ok.frf⟩
theorem Cx.Ok.unwish {X : Cx} {E : Value → Shared → Prop} (ok : (X.wish E).Ok) : X.Ok :=
  ⟨ok.mod, ok.kind, ok.glob, ok.blt, ok.above, ok.inj, ok.has, ok.cab, ok.hd, ok.frames, ok.stk, ok.exf, ok.bs, ok.bsz, ok.noex, ok.exfs, ok.funs, ok.frf⟩
section
variable {X : Cx} {pins : List (Addr × Obj)} {σ : St} {H : Hp} {s : Shared} {E : Value → Shared → Prop}
theorem Inv.wish (I : Inv X pins σ H s) (E : Value → Shared → Prop) : Inv (X.wish E) pins σ H s := ⟨I.ok.wish E, I.os, I.bare, I.base, I.loc, I.cell, I.free, I.freeC, I.pin, I.hok, I.len⟩
theorem Inv.unwish (I : Inv (X.wish E) pins σ H s) : Inv X pins σ H s := ⟨I.ok.unwish, I.os, I.bare, I.base, I.loc, I.cell, I.free, I.freeC, I.pin, I.hok, I.len⟩
theorem SP.unwish {D : Ends} {f : Flow} {s' : Shared} (h : SP (X.wish E) pins D f s') : SP X pins D f s' := by
  cases f with
  | next => obtain ⟨σ', H', I, q⟩ := h; exact ⟨σ', H', I.unwish, q⟩
  | brk => obtain ⟨σ', H', I, q⟩ := h; exact ⟨σ', H', I.unwish, q⟩
  | cont => obtain ⟨σ', H', I, q⟩ := h; exact ⟨σ', H', I.unwish, q⟩
  | ret u => obtain ⟨v, σ', H', I, r, q⟩ := h; exact ⟨v, σ', H', I.unwish, r, q⟩
theorem PT.nox {e : Expr} {t : TT} (h : PT X.nox e t) : PT X e t := fun pins s σ H Q I hw =>
  wpAny_mono (h pins s σ H Q (I.wish _) hw) (fun _ _ ⟨H', I', q⟩ => ⟨H', I'.unwish, q⟩) fun _ _ z => False.elim z
theorem PSs.nox {st : List Stmt} {t : TS} (h : PSs X.nox st t) : PSs X st t := fun pins s σ H D I hw =>
  wpAny_mono (h pins s σ H D (I.wish _) hw) (fun _ _ q => q.unwish) fun _ _ z => False.elim z
end

section
variable {X : Cx} {st : Stmt} {rest : List Stmt} {t u : TS} {e : Expr} {te : TE} {pos : Pos}
def tNext : TS := fun D σ H => D.nx σ H
def tSeq (t u : TS) : TS := fun D σ H => t { D with nx := u D } σ H
theorem pss_nil : PSs X [] tNext := fun _ _ σ H _ I h => wpAny_execs_nil ⟨σ, H, I, h⟩
theorem pss_cons (h1 : PS X st t) (h2 : PSs X rest u) : PSs X (st :: rest) (tSeq t u) := by
  intro pins s σ H D I h
  refine wpAny_execs_cons (thn (h1 pins s σ H { D with nx := u D } I h) fun f s1 q => ?_)
  cases f with
  | next =>
    obtain ⟨σ', H', I', q⟩ := q
    exact h2 pins s1 σ' H' D I' q
  | ret v => exact q
  | brk => exact q
  | cont => exact q
theorem pss_one (h1 : PS X st t) : PSs X [st] t := by
  intro pins s σ H D I h
  refine wpAny_execs_cons (thn (h1 pins s σ H D I h) fun f s1 q => ?_)
  cases f with
  | next => exact wpAny_execs_nil q
  | ret v => exact q
  | brk => exact q
  | cont => exact q
/-- an expression whose value is dropped -/
def tDrop (te : TE) : TS := fun D σ H => te σ H fun _ H1 => D.nx σ H1
def tRet (te : TE) : TS := fun D σ H => te σ H D.rt
theorem ps_ret (he : PE X e te) : PS X (.Return (some e) pos) (tRet te) := by
  intro pins s σ H D I h
  exact wpAny_Return_some (thn (he pins s σ H _ I h) fun v s1 ⟨x, H1, I1, r1, q1⟩ => ⟨x, σ, H1, I1, r1, q1⟩)
def tRetN : TS := fun D _ H => D.rt .non H
def tIfS (c : TT) (t u : TS) : TS := fun D σ H => c σ H fun b H1 => if b = true then t D σ H1 else u D σ H1
theorem ps_if {c : Expr} {a b : List Stmt} {tc : TT} (hc : PT X c tc) (ha : PSs X a t) (hb : PSs X b u) : PS X (.If c a b pos) (tIfS tc t u) := by
  intro pins s σ H D I h
  refine wpAny_If (thn (hc pins s σ H _ I h) fun d s1 ⟨H1, I1, q1⟩ => ?_)
  cases d with
  | true => exact ha pins s1 σ H1 D I1 q1
  | false => exact hb pins s1 σ H1 D I1 q1
end

abbrev TG := V → St → Hp → (St → Hp → Prop) → Prop
abbrev TGs := List V → St → Hp → (St → Hp → Prop) → Prop
def PG (X : Cx) (target : Expr) (t : TG) : Prop :=
  ∀ (pins : List (Addr × Obj)) (s : Shared) (σ : St) (H : Hp) (v : V) (u : Value) (Q : St → Hp → Prop), Inv X pins σ H s → RelV v u → t v σ H Q →
    wpAny (model X.prog X.w) X.A (assign target X.env u) (fun _ s' => ∃ σ' H', Inv X pins σ' H' s' ∧ Q σ' H') X.xe s
/-- several targets, one after another -/
def PGs (X : Cx) (ts : List Expr) (t : TGs) : Prop :=
  ∀ (pins : List (Addr × Obj)) (s : Shared) (σ : St) (H : Hp) (vs : List V) (us : List Value) (Q : St → Hp → Prop), Inv X pins σ H s → Vals vs us → t vs σ H Q →
    wpAny (model X.prog X.w) X.A (assignInOrder ((assignEach ts X.env).map (·.2)) us) (fun _ s' => ∃ σ' H', Inv X pins σ' H' s' ∧ Q σ' H') X.xe s
/-- o[i] = v, by values -/
abbrev TSet := V → V → V → Hp → (Hp → Prop) → Prop
def PSet (X : Cx) (t : TSet) : Prop :=
  ∀ (pins : List (Addr × Obj)) (s : Shared) (σ : St) (H : Hp) (o i v : V) (ov iv u : Value) (Q : Hp → Prop), Inv X pins σ H s → RelV o ov → RelV i iv → RelV v u → t o i v H Q →
    wpAny (model X.prog X.w) X.A (setItem ov iv u) (fun _ s' => ∃ H', Inv X pins σ H' s' ∧ Q H') X.xe s
/-- a op= b, by values -/
abbrev TIp := V → V → Hp → VK → Prop
section
variable {X : Cx} {pos : Pos}
def gName (i : Nat) : TG := fun v σ H Q => Q (σ.set i (some v)) H
theorem pg_name {i : Nat} {x : Str} (hN : X.N.Nodup) (hi : X.N[i]? = some x) (hx : Loc X.env.scope x) (hf : X.fn x = true ∨ X.env.scope.names.lookup x = some .local := by first | exact .inl rfl | exact .inr rfl | assumption) : PG X (.Name x pos) (gName i) := by
  intro pins s σ H v u Q I r h
  exact wpAny_assign_Name (store_ok I hN hi hx r (fun s' I' => ⟨_, H, I', h⟩) hf)
def gNil : TGs := fun vs σ H Q => vs = [] ∧ Q σ H
def gCons (t : TG) (u : TGs) : TGs := fun vs σ H Q => ∃ v r, vs = v :: r ∧ t v σ H fun σ' H' => u r σ' H' Q
theorem pgs_nil : PGs X [] gNil := by
  intro pins s σ H vs us Q I r h
  obtain ⟨e, h⟩ := h
  subst e
  cases r
  exact assignInOrder_nil ⟨σ, H, I, h⟩
theorem pgs_cons {e : Expr} {es : List Expr} {t : TG} {u : TGs} (h1 : PG X e t) (h2 : PGs X es u)
    (hs : (assignEach (e :: es) X.env).map (·.2) = assign e X.env :: (assignEach es X.env).map (·.2) := by rfl) : PGs X (e :: es) (gCons t u) := by
  intro pins s σ H vs us Q I r h
  obtain ⟨v, vr, e1, h⟩ := h
  subst e1
  cases r with
  | cons r rr =>
    rw [hs]
    refine assignInOrder_cons (thn (h1 pins s σ H _ _ _ I r h) fun _ s1 ⟨σ1, H1, I1, q1⟩ => ?_)
    exact h2 pins s1 σ1 H1 _ _ Q I1 rr q1
/-- (a, b, ..) = a tuple of that length -/
def gTup (K : PySem.W.Frag) (n : Nat) (t : TGs) : TG := fun v σ H Q => ∃ a xs, v = .ref a ∧ SqT K H a xs ∧ xs.length = n ∧ t xs σ H Q
theorem pg_tup {es : List Expr} {k : Nat} {t : TGs} {n : Nat} (hc : X.calm = true) (h : PGs X es t)
    (hn : (assignEach es X.env).length = n := by rfl) (hst : (assignEach es X.env).findIdx? (·.1) = none := by rfl) : PG X (.Tuple es k pos) (gTup X.K n t) := by
  intro pins s σ H v u Q I r hw
  obtain ⟨a, xs, e1, hq, hl, hw⟩ := hw
  subst e1
  cases r
  obtain ⟨its, rv, ht, hz⟩ := I.tuple hq
  refine assign_Tuple_tuple (I.ok.hd hc) ht (by simp [hn, ← hl, rv.length]) hst fun h' hx => ?_
  have I1 : Inv X pins σ H { s with heap := h' } := I.kept (t' := s.toks) fun b o e => hx b o (Nat.ne_of_lt (Heap.lt_size e)) e
  exact h pins _ σ H xs _ Q I1 (by simpa using rv) hw
/-- o[i] = .. -/
def gSub (to ti : TE) (t : TSet) : TG := fun v σ H Q => to σ H fun o H1 => ti σ H1 fun i H2 => t o i v H2 fun H3 => Q σ H3
theorem pg_sub {o i : Expr} {to ti : TE} {t : TSet} (ho : PE X o to) (hi : PE X i ti) (hs : PSet X t)
    (ha : ∀ v, assign (.Subscript o i pos) X.env v = (do
      let ov ← holding [v] (eval o X.env)
      let iv ← holding [v, ov] (eval i X.env)
      standAt pos
      holding [v, ov, iv] (setItem ov iv v)
      release [v, ov, iv] []) := by intro _; rfl) : PG X (.Subscript o i pos) (gSub to ti t) := by
  intro pins s σ H v u Q I r h
  rw [ha]
  refine wpAny_bind (wpAny_holding (thn (ho pins s σ H _ I h) fun ov s1 ⟨x, H1, I1, r1, q1⟩ => ?_))
  refine wpAny_bind (wpAny_holding (thn (hi pins s1 σ H1 _ I1 q1) fun iv s2 ⟨y, H2, I2, r2, q2⟩ => ?_))
  refine wpAny_bind (wpAny_standAt (wpAny_bind (wpAny_holding (thn (hs pins s2 σ H2 x y v ov iv u _ I2 r1 r2 r q2) fun _ s3 ⟨H3, I3, q3⟩ => ?_))))
  exact wpAny_release ⟨σ, H3, I3, q3⟩
/-- target = value -/
def tAsg (te : TE) (g : TG) : TS := fun D σ H => te σ H fun x H1 => g x σ H1 D.nx
theorem ps_asg {tg e : Expr} {te : TE} {g : TG} (he : PE X e te) (hg : PG X tg g) (hs : swapsWithSole [tg] e pos.line X.env = pure false := by rfl) (hw : swappedStores [tg] e X.env = pure none := by rfl)
    (h1 : (assignEach [tg] X.env).map (·.2) = [assign tg X.env] := by rfl) : PS X (.Assign [tg] e pos) (tAsg te g) := by
  intro pins s σ H D I h
  refine wpAny_Assign_stores (thn (he pins s σ H _ I h) fun v s1 ⟨x, H1, I1, r1, q1⟩ => ?_) hs hw
  rw [h1]
  exact thn (hg pins s1 σ H1 x v _ I1 r1 q1) fun _ s2 q => q
/-- name = value -/
theorem ps_set {i : Nat} {x : Str} {e : Expr} {te : TE} {pos' : Pos} (hN : X.N.Nodup) (hi : X.N[i]? = some x) (hx : Loc X.env.scope x) (he : PE X e te) (hs : swapsWith e (some (.Name x pos')) pos.line X.env = pure false := by rfl) (hf : X.fn x = true ∨ X.env.scope.names.lookup x = some .local := by first | exact .inl rfl | exact .inr rfl | assumption) :
    PS X (.Assign [.Name x pos'] e pos) (tAsg te (gName i)) := by
  intro pins s σ H D I h
  refine wpAny_Assign_Name (thn (he pins s σ H _ I h) fun v s1 ⟨y, H1, I1, r1, q1⟩ => ?_) hs
  exact store_ok I1 hN hi hx r1 (fun s2 I2 => ⟨_, H1, I2, q1⟩) hf
/-- name op= e -/
def tAug (i : Nat) (te : TE) (ti : TIp) : TS := fun D σ H => ∃ x, σ[i]? = some (some x) ∧ te σ H fun y H1 => ti x y H1 fun z H2 => D.nx (σ.set i (some z)) H2
/-- ints -/
def ipI (f : Int → Int → Int) : TIp := fun x y H Q => ∃ i j, x = .int i ∧ y = .int j ∧ Q (.int (f i j)) H
end

section
variable {X : Cx} {pos : Pos}
end

/-- at turn i: it yields x (the heap may grow), or it stops -/
structure It where
  go : Nat → Hp → Prop
  yld : Nat → Hp → V → Hp → Prop
  stop : Nat → Hp → Prop
/-- the iterator's own objects may turn: they are not the frame's, not pinned, younger than the entry (or a comprehension's own) -/
def FpOk (X : Cx) (pins : List (Addr × Obj)) (H : Hp) (b : Addr) : Prop :=
  H b = none ∧ b ≠ X.env.locals ∧ b ∉ X.fs ∧ (b ∈ X.ex ∨ X.s₀.heap.objs.size ≤ b) ∧ (∀ x c, X.env.cells.lookup x = some c → c ≠ b) ∧ ∀ p ∈ X.pn ++ pins, p.1 ≠ b
theorem Inv.fpOk {X : Cx} {pins : List (Addr × Obj)} {σ : St} {H H' : Hp} {s : Shared} {b : Addr} (I : Inv X pins σ H s) (hb : s.heap.objs.size ≤ b) (hn : H' b = none) : FpOk X pins H' b := by
  refine ⟨hn, Nat.ne_of_gt (Nat.lt_of_lt_of_le I.lt hb), I.nofs hb, .inr (Nat.le_trans I.sz hb), fun x c e z => ?_, fun p hp z => ?_⟩
  · obtain ⟨v, q⟩ := I.cell x c e
    exact absurd (Nat.lt_of_lt_of_le q.lt (by rw [z]; exact hb)) (Nat.lt_irrefl _)
  · exact absurd (Nat.lt_of_lt_of_le (Heap.lt_size (I.pin p hp).1) (by rw [z]; exact hb)) (Nat.lt_irrefl _)
structure Turn (P : Program) (w : World) (K : PySem.W.Frag) (tg : Expr) (J : It) (fp : List Addr) (it : Addr) (tn : Nat → Heap → Prop) : Prop where
  mem : it ∈ fp
  obj : ∀ i h, tn i h → ∀ b ∈ fp, ∃ o, h.get? b = some o ∧ ∀ v, o.data ≠ .cell v
  keep : ∀ i h h', tn i h → (∀ b ∈ fp, ∀ o, h.get? b = some o → h'.get? b = some o) → tn i h'
  item : ∀ (X : Cx), X.prog = P → X.w = w → X.K = K → X.calm = true → ∀ (i : Nat) (pins : List (Addr × Obj)) (s : Shared) (σ : St) (H : Hp) (E : Value → Shared → Prop), Inv X pins σ H s → (∀ b ∈ fp, FpOk X pins H b) → tn i s.heap → J.go i H →
    wpAny (model P w) X.A (pyNext (.ref it)) (fun r s1 => ∃ u, r = some u ∧
      wpAny (model P w) X.A (letOwnedTupleGo tg (.ref it) u) (fun _ s2 => ∃ x H', Inv X pins σ H' s2 ∧ RelV x u ∧ J.yld i H x H' ∧ tn (i + 1) s2.heap ∧ ∀ b ∈ fp, H' b = none) E s1) E s
  done : ∀ (X : Cx), X.prog = P → X.w = w → X.K = K → X.calm = true → ∀ (i : Nat) (pins : List (Addr × Obj)) (s : Shared) (σ : St) (H : Hp) (E : Value → Shared → Prop), Inv X pins σ H s → (∀ b ∈ fp, FpOk X pins H b) → tn i s.heap → J.stop i H →
    wpAny (model P w) X.A (pyNext (.ref it)) (fun r s1 => r = none ∧ Inv X pins σ H s1) E s
  self : ∀ (A : Around) (i : Nat) (s : Shared) (Q : Value → Shared → Prop) (E : Value → Shared → Prop), tn i s.heap → Q (.ref it) s → wpAny (model P w) A (pyIter (.ref it)) Q E s
abbrev TI := St → Hp → (It → Hp → Prop) → Prop
/-- an iterator has come -/
def PIE (X : Cx) (pins : List (Addr × Obj)) (σ : St) (tg : Expr) (R : It → Hp → Prop) (itv : Value) (s2 : Shared) : Prop :=
  ∃ (it : Addr) (fp : List Addr) (tn : Nat → Heap → Prop) (J : It) (H' : Hp), itv = .ref it ∧ Inv X pins σ H' s2 ∧ Turn X.prog X.w X.K tg J fp it tn ∧ tn 0 s2.heap ∧ (∀ b ∈ fp, FpOk X pins H' b) ∧ R J H'
def PI (X : Cx) (tg iter : Expr) (wi : TI) : Prop :=
  ∀ (pins : List (Addr × Obj)) (s : Shared) (σ : St) (H : Hp) (R : It → Hp → Prop), Inv X pins σ H s → wi σ H R →
    wpAny (model X.prog X.w) X.A (eval iter X.env) (fun v s1 => wpAny (model X.prog X.w) X.A (pyIter v) (PIE X pins σ tg R) X.xe s1) X.xe s

/-- the step ahead of the store is nothing for an iterator that keeps no tuple -/
theorem go_of {M : Model} {A : Around} {E : Value → Shared → Prop} {s : Shared} {tg : Expr} {it : Addr} {u : Value} {o : Obj} {n : String} {vs : Array Value} {Q : Unit → Shared → Prop} (ho : s.heap.get? it = some o) (hc : o.cls = .type n) (hd : o.data = .fields vs)
    (hn : ["enumerate", "zip", "dict_itemiterator", "dict_reverseitemiterator", "odict_iterator", "itertools.zip_longest", "itertools.pairwise"].contains n = false) (hQ : Q () s) : wpAny M A (letOwnedTupleGo tg (.ref it) u) Q E s := by
  unfold letOwnedTupleGo
  cases tg <;> first
    | exact wpAny_pure hQ
    | (cases u <;> first
        | exact wpAny_pure hQ
        | (refine wpAny_bind (wpAny_load ho ?_)
           rw [hc, hd]
           show wpAny M A (if (["enumerate", "zip", "dict_itemiterator", "dict_reverseitemiterator", "odict_iterator", "itertools.zip_longest", "itertools.pairwise"].contains n && vs[0]? == some (rawInt _)) = true then _ else _) Q E s
           rw [if_neg (by intro h; rw [hn, Bool.false_and] at h; cases h)]
           exact wpAny_pure hQ))

/-- the list at a, as it stands at each turn (a loop may append to it) -/
def Itl (K : PySem.W.Frag) (a : Addr) : It :=
  ⟨fun i H => ∃ xs x, SqL K H a xs ∧ xs[i]? = some x, fun i H x H' => H' = H ∧ ∀ xs, SqL K H a xs → xs[i]? = some x, fun i H => ∃ xs, SqL K H a xs ∧ xs.length ≤ i⟩
/-- lo, lo + 1, .. (n of them) -/
def Itr (lo : Int) (n : Nat) : It := ⟨fun i _ => i < n, fun i H x H' => H' = H ∧ x = .int (lo + i), fun i _ => n ≤ i⟩
theorem turn_list {P : Program} {w : World} {K : PySem.W.Frag} {tg : Expr} (a it : Addr) : Turn P w K tg (Itl K a) [it] it (fun i h => h.IsListIter it a i) where
  mem := by simp
  obj := fun i h st b hb => by
    have e : b = it := by simpa using hb
    subst e
    obtain ⟨o, e, c, d⟩ := st
    exact ⟨o, e, fun v z => by rw [d] at z; cases z⟩
  keep := fun i h h' st k => st.at fun o e => k it (by simp) o e
  item := by
    intro X hP hw hK hc i pins s σ H E I hf st hg
    subst hP hw hK
    obtain ⟨xs, x, hq, hx⟩ := hg
    obtain ⟨its, rv, p, hz⟩ := I.list hq
    obtain ⟨u, hu, ru⟩ := rv.get hx
    obtain ⟨f0, f1, f2, f3, f4, f5⟩ := hf it (by simp)
    refine wpAny_pyNext_list_item st p.isList (x := u) (by simpa using hu) fun h' st' sb => ?_
    have I1 : Inv X pins σ H { s with heap := h' } := I.turned (t' := s.toks) (fun b o hb e => (sb.2 b hb).trans e) f0 f1 f3 f4 f5
    obtain ⟨o, e, c, d⟩ := id st'
    exact ⟨u, rfl, go_of (s := { s with heap := h' }) e c d (by decide) ⟨x, H, I1, ru, ⟨rfl, fun ys hy => by rw [I.list_inj hy hq]; exact hx⟩, st', fun b hb => (hf b hb).1⟩⟩
  done := by
    intro X hP hw hK hc i pins s σ H E I hf st hg
    subst hP hw hK
    obtain ⟨xs, hq, hx⟩ := hg
    obtain ⟨its, rv, p, hz⟩ := I.list hq
    obtain ⟨f0, f1, f2, f3, f4, f5⟩ := hf it (by simp)
    have hl := rv.length
    exact wpAny_pyNext_list_end (I.ok.hd hc) st p.isList (by simp; omega) fun h' eb => ⟨rfl, I.turned (t' := s.toks) (fun b o hb e => eb b o hb e) f0 f1 f3 f4 f5⟩
  self := fun _ _ _ _ _ st h => wpAny_pyIter_listiter st h
theorem turn_range {P : Program} {w : World} {K : PySem.W.Frag} {tg : Expr} (it : Addr) (lo : Int) (n : Nat) : Turn P w K tg (Itr lo n) [it] it (fun i h => IsRangeIter h it (lo + (i : Nat) * 1) ((n : Int) - (i : Nat)) 1) where
  mem := by simp
  obj := fun i h st b hb => by
    have e : b = it := by simpa using hb
    subst e
    exact ⟨_, st, fun v z => by
      have z' : Data.fields _ = Data.cell v := z
      cases z'⟩
  keep := fun i h h' st k => k it (by simp) _ st
  item := by
    intro X hP hw hK hc i pins s σ H E I hf st hg
    subst hP hw hK
    obtain ⟨f0, f1, f2, f3, f4, f5⟩ := hf it (by simp)
    have W := Walks.range (prog := X.prog) (w := X.w) (I.ok.hd hc) it lo 1 n
    refine W.item i s _ _ hg st fun v h' tk hv st' kk => ?_
    obtain ⟨t, rfl⟩ := hv
    have I1 : Inv X pins σ H { s with heap := h', toks := tk } := I.turned (fun b o hb e => kk b o (by simpa using hb) e) f0 f1 f3 f4 f5
    refine ⟨_, rfl, go_of (s := { s with heap := h', toks := tk }) (n := "range_iterator") st' rfl rfl (by decide) ⟨.int (lo + i), H, I1, ⟨t, ?_⟩, ⟨rfl, rfl⟩, st', fun b hb => (hf b hb).1⟩⟩
    rw [Int.mul_one]
  done := by
    intro X hP hw hK hc i pins s σ H E I hf st hg
    subst hP hw hK
    obtain ⟨f0, f1, f2, f3, f4, f5⟩ := hf it (by simp)
    exact wpAny_pyNext_range_end (I.ok.hd hc) st (by have : n ≤ i := hg; omega) fun h' eb => ⟨rfl, I.turned (t' := s.toks) (fun b o hb e => eb b o hb e) f0 f1 f3 f4 f5⟩
  self := fun _ _ _ _ _ st h => wpAny_pyIter_rangeiter st h
end L2

namespace L2
open PySem PySem.Spec PyProof.Rows
section
variable {X : Cx} {tg : Expr}
def iList (K : PySem.W.Frag) (tl : TE) : TI := fun σ H R => tl σ H fun x H1 => ∃ a, x = .ref a ∧ (∃ xs, SqL K H1 a xs) ∧ R (Itl K a) H1
theorem pi_list {l : Expr} {tl : TE} (hl : PE X l tl) : PI X tg l (iList X.K tl) := by
  intro pins s σ H R I h
  refine thn (hl pins s σ H _ I h) fun v s1 ⟨x, H1, I1, r1, q1⟩ => ?_
  obtain ⟨a, e, ⟨xs, hq⟩, q⟩ := q1
  subst e
  cases r1
  obtain ⟨its, rv, p, hz⟩ := I1.list hq
  refine wpAny_pyIter_list p.isList ?_
  refine ⟨s1.heap.objs.size, [s1.heap.objs.size], _, _, H1, rfl, I1.kept (t' := s1.toks) fun b o e => Heap.get?_push_of_some _ e, turn_list a _, ⟨_, Heap.get?_push_size _ rfl, rfl, rfl⟩, fun b hb => ?_, q⟩
  have e : b = s1.heap.objs.size := by simpa using hb
  subst e
  exact I1.fpOk (Nat.le_refl _) (I1.hok.fresh (Nat.le_refl _))
/-- a range object just made, walked -/
theorem range_it {pins : List (Addr × Obj)} {σ : St} {H : Hp} {s : Shared} {R : It → Hp → Prop} {E : Value → Shared → Prop} {lo hi : Int} {t u v : Tok} {tk : Nat} (I : Inv X pins σ H s) (h1 : -(2 ^ 62) ≤ lo) (h2 : lo < 2 ^ 62) (h3 : -(2 ^ 62) ≤ hi) (h4 : hi < 2 ^ 62)
    (q : R (Itr lo (hi - lo).toNat) H) : wpAny (model X.prog X.w) X.A (pyIter (.ref s.heap.objs.size)) (PIE X pins σ tg R) E { s with heap := s.heap.push { cls := .type "range", data := .fields #[.int lo t, .int hi u, .int 1 v] }, toks := tk } := by
  refine wpAny_pyIter_range (IsRange.new ..) (small_one h1 h2 h3 h4) ?_
  have I1 : Inv X pins σ H { s with heap := s.heap.push { cls := .type "range", data := .fields #[.int lo t, .int hi u, .int 1 v] }, toks := tk } := I.kept fun b o e => Heap.get?_push_of_some _ e
  refine ⟨(s.heap.push { cls := .type "range", data := .fields #[.int lo t, .int hi u, .int 1 v] }).objs.size, [(s.heap.push { cls := .type "range", data := .fields #[.int lo t, .int hi u, .int 1 v] }).objs.size], _, _, H, rfl,
    I1.kept (t' := tk) fun b o e => Heap.get?_push_of_some _ e, turn_range _ lo (hi - lo).toNat, ?_, fun b hb => ?_, q⟩
  · have e1 : lo + ((0 : Nat) : Int) * 1 = lo := by simp
    have e2 : (((hi - lo).toNat : Nat) : Int) - ((0 : Nat) : Int) = Builtin.Range.rangeSize lo hi 1 := by rw [rangeSize_one]; split <;> omega
    show IsRangeIter _ _ (lo + ((0 : Nat) : Int) * 1) ((((hi - lo).toNat : Nat) : Int) - ((0 : Nat) : Int)) 1
    rw [e1, e2]
    exact Heap.get?_push_size _ rfl
  · have e : b = (s.heap.push { cls := .type "range", data := .fields #[.int lo t, .int hi u, .int 1 v] }).objs.size := by simpa using hb
    subst e
    exact I1.fpOk (Nat.le_refl _) (I1.hok.fresh (Nat.le_refl _))
def iRng1 (ta : TA) : TI := fun σ H R => ta σ H fun vs H1 => ∃ j : Int, vs = [.int j] ∧ -(2 ^ 62) ≤ j ∧ j < 2 ^ 62 ∧ R (Itr 0 j.toNat) H1
theorem pi_range1 {a : Expr} {ta : TA} {p pos : Pos} (hg : Gl X "range") (hm : X.mg "range" = none) (ha : PA X [a] ta) (hs : starEach [a] X.env = [(false, eval a X.env)] := by rfl) : PI X tg (.Call (.Name "range" p) [a] [] pos) (iRng1 ta) := by
  intro pins s σ H R I h
  refine Call_ (ld_blt I hg hm boot_range (PyProof.Rows.callWith_type1 (thn (ha pos pins s σ H _ I h) fun us s1 ⟨vs, H1, I1, r1, q1⟩ => ?_) hs rfl))
  obtain ⟨j, e, q1, q2, q⟩ := q1
  subst e
  cases r1 with
  | cons r rr =>
    cases rr
    obtain ⟨t, rfl⟩ := r
    exact call_range_1 (range_it I1 (by omega) (by omega) q1 q2 (by simpa using q))
/-- W: the invariant by the turn and a measure; N: what the body is to reach -/
def tFor (wi : TI) (g : TG) (tb : TS) : TS := fun D σ H => wi σ H fun J H1 => ∃ W : Nat → Nat → St → Hp → Prop, (∃ m, W 0 m σ H1) ∧ ∀ i m σ H, W i m σ H →
  (J.stop i H ∧ D.nx σ H) ∨ (J.go i H ∧ ∃ N : St → Hp → Prop, (∀ σ' H', N σ' H' → ∃ m', m' < m ∧ W (i + 1) m' σ' H') ∧ ∀ x H', J.yld i H x H' → g x σ H' fun σ2 H2 => tb { D with nx := N, ct := N, bk := D.nx } σ2 H2)
/-- the records at fp as they stand -/
def pinsAt (fp : List Addr) (h : Heap) : List (Addr × Obj) := fp.filterMap fun b => (h.get? b).map fun o => (b, o)
theorem mem_pinsAt {fp : List Addr} {h : Heap} {b : Addr} {o : Obj} (hb : b ∈ fp) (e : h.get? b = some o) : (b, o) ∈ pinsAt fp h := List.mem_filterMap.mpr ⟨b, hb, by rw [e]; rfl⟩
theorem of_pinsAt {fp : List Addr} {h : Heap} {p : Addr × Obj} (hp : p ∈ pinsAt fp h) : p.1 ∈ fp ∧ h.get? p.1 = some p.2 := by
  obtain ⟨b, hb, e⟩ := List.mem_filterMap.mp hp
  cases q : h.get? b with
  | none => rw [q] at e; cases e
  | some o =>
    rw [q] at e
    have e' : (b, o) = p := Option.some.inj e
    subst e'
    exact ⟨hb, q⟩
theorem Inv.pinned {pins : List (Addr × Obj)} {σ : St} {H : Hp} {s : Shared} {fp : List Addr} (I : Inv X pins σ H s) (hf : ∀ b ∈ fp, FpOk X pins H b) (ho : ∀ b ∈ fp, ∃ o, s.heap.get? b = some o ∧ ∀ v, o.data ≠ .cell v) : Inv X (pins ++ pinsAt fp s.heap) σ H s :=
  I.pins_of fun p hp => (List.mem_append.mp hp).elim (fun z => I.pin p (List.mem_append_right _ z)) fun z => by
    obtain ⟨hb, e⟩ := of_pinsAt z
    obtain ⟨f0, f1, f2, _⟩ := hf p.1 hb
    obtain ⟨o, e', d⟩ := ho p.1 hb
    rw [e] at e'; cases e'
    exact ⟨e, f0, f1, f2, d⟩
theorem Inv.unpinned {pins pl : List (Addr × Obj)} {σ : St} {H : Hp} {s : Shared} (I : Inv X (pins ++ pl) σ H s) : Inv X pins σ H s := I.pins_of fun p hp => I.pin p (List.mem_append_right _ (List.mem_append_left _ hp))
theorem ps_for {iter : Expr} {body : List Stmt} {wi : TI} {g : TG} {tb : TS} {pos : Pos} (hp : PassesOwn (model X.prog X.w) X.A X.env X.xe) (hc : X.calm = true) (hi : PI X tg iter wi) (hg : PG X tg g) (hb : PSs X body tb)
    (hs : ∀ x, foldedSetIterable iter X.env x = pure x := by intro _; rfl) : PS X (.For tg iter body [] pos) (tFor wi g tb) := by
  intro pins s σ H D I h
  refine wpAny_For (thn (hi pins s σ H _ I h) fun v s1 h1 => thn h1 fun itv s2 h2 => ?_) hs
  obtain ⟨it, fp, tn, J, H2, e, I2, T, st2, f2, W, ⟨m0, w0⟩, turn⟩ := h2
  subst e
  have stat : ∀ {H' : Hp}, (∀ b ∈ fp, H' b = none) → ∀ b ∈ fp, FpOk X pins H' b := fun hn b hb => ⟨hn b hb, (f2 b hb).2⟩
  refine codeAny_forLoop_any (fun n s' => ∃ i σ' H', Inv X pins σ' H' s' ∧ tn i s'.heap ∧ (∀ b ∈ fp, H' b = none) ∧ W i n σ' H') ?_ m0 ⟨0, σ, H2, I2, st2, fun b hb => (f2 b hb).1, w0⟩
  rintro n s3 ⟨i, σ3, H3, I3, st3, fr3, w3⟩
  rcases turn i n σ3 H3 w3 with ⟨stop, qn⟩ | ⟨go, N, hN, step⟩
  · refine wpAny_passesOwn hp (thn (T.done X rfl rfl rfl hc i pins s3 σ3 H3 X.xe I3 (stat fr3) st3 stop) fun r s4 ⟨hr, I4⟩ => ?_)
    subst hr
    exact wpAny_execs_nil ⟨σ3, H3, I4, qn⟩
  · refine wpAny_passesOwn hp (thn (T.item X rfl rfl rfl hc i pins s3 σ3 H3 X.xe I3 (stat fr3) st3 go) fun r s4 ⟨u, hr, h4⟩ => ?_)
    subst hr
    refine wpAny_passesOwn hp (thn h4 fun _ s5 ⟨x, H5, I5, r5, y5, st5, fr5⟩ => ?_)
    have I5' := I5.pinned (stat fr5) (T.obj _ _ st5)
    refine wpAny_passesOwn hp (thn (hg _ s5 σ3 H5 x u _ I5' r5 (step x H5 y5)) fun _ s6 ⟨σ6, H6, I6, q6⟩ => ?_)
    refine wpAny_passesOwn hp (thn (hb _ s6 σ6 H6 _ I6 q6) fun f s7 q7 => ?_)
    have again : ∀ {σ7 : St} {H7 : Hp}, Inv X (pins ++ pinsAt fp s5.heap) σ7 H7 s7 → N σ7 H7 → ∃ m, m < n ∧ ∃ i σ' H', Inv X pins σ' H' s7 ∧ tn i s7.heap ∧ (∀ b ∈ fp, H' b = none) ∧ W i m σ' H' := fun {σ7 H7} I7 n7 => by
      obtain ⟨m', hm, w7⟩ := hN σ7 H7 n7
      refine ⟨m', hm, i + 1, σ7, H7, I7.unpinned, T.keep _ _ _ st5 fun b hb o e => (I7.pin (b, o) (List.mem_append_right _ (List.mem_append_right _ (mem_pinsAt hb e)))).1, fun b hb => ?_, w7⟩
      obtain ⟨o, e, d⟩ := T.obj _ _ st5 b hb
      exact (I7.pin (b, o) (List.mem_append_right _ (List.mem_append_right _ (mem_pinsAt hb e)))).2.1
    cases f with
    | next => obtain ⟨σ7, H7, I7, n7⟩ := q7; exact again I7 n7
    | cont => obtain ⟨σ7, H7, I7, n7⟩ := q7; exact again I7 n7
    | brk => obtain ⟨σ7, H7, I7, q7⟩ := q7; exact ⟨σ7, H7, I7.unpinned, q7⟩
    | ret v => obtain ⟨x7, σ7, H7, I7, r7, q7⟩ := q7; exact ⟨x7, σ7, H7, I7.unpinned, r7, q7⟩
end

/-- over a list that the body leaves as it is -/
theorem for_list {K : PySem.W.Frag} {a : Addr} {xs : List V} {g : TG} {tb : TS} {D : Ends} {σ : St} {H : Hp} (Pv : Nat → St → Hp → Prop) (h0 : Pv 0 σ H) (hl : ∀ i σ H, i ≤ xs.length → Pv i σ H → SqL K H a xs)
    (hs : ∀ i x σ H, xs[i]? = some x → Pv i σ H → g x σ H fun σ2 H2 => tb { D with nx := Pv (i + 1), ct := Pv (i + 1), bk := D.nx } σ2 H2) (hd : ∀ σ H, Pv xs.length σ H → D.nx σ H) :
    ∃ W : Nat → Nat → St → Hp → Prop, (∃ m, W 0 m σ H) ∧ ∀ i m σ H, W i m σ H →
      ((Itl K a).stop i H ∧ D.nx σ H) ∨ ((Itl K a).go i H ∧ ∃ N : St → Hp → Prop, (∀ σ' H', N σ' H' → ∃ m', m' < m ∧ W (i + 1) m' σ' H') ∧ ∀ x H', (Itl K a).yld i H x H' → g x σ H' fun σ2 H2 => tb { D with nx := N, ct := N, bk := D.nx } σ2 H2) := by
  refine ⟨fun i m σ H => m = xs.length - i ∧ i ≤ xs.length ∧ Pv i σ H, ⟨xs.length, by simp, Nat.zero_le _, h0⟩, ?_⟩
  rintro i m σ H ⟨rfl, hi, p⟩
  have q := hl i σ H hi p
  by_cases hlt : i < xs.length
  · refine .inr ⟨⟨xs, xs[i], q, by simp [hlt]⟩, Pv (i + 1), fun σ' H' p' => ⟨xs.length - (i + 1), by omega, rfl, hlt, p'⟩, fun x H' y => ?_⟩
    obtain ⟨e, y⟩ := y
    subst e
    exact hs i x σ _ (y xs q) p
  · have e : i = xs.length := by omega
    subst e
    exact .inl ⟨⟨xs, q, Nat.le_refl _⟩, hd σ H p⟩
end L2

namespace L2
open PySem PySem.Spec PyProof.Rows

abbrev R2 := V → V → Hp → VK → Prop
/-- a two-place operation on values: f is binaryOp op, inplaceOp op or compareOp op -/
def OpR (X : Cx) (f : Value → Value → Sem Value) (r : R2) : Prop :=
  ∀ (pins : List (Addr × Obj)) (s : Shared) (σ : St) (H : Hp) (x y : V) (v u : Value) (Q : VK), Inv X pins σ H s → RelV x v → RelV y u → r x y H Q →
    wpAny (model X.prog X.w) X.A (f v u) (EP X pins σ Q) X.xe s
/-- a call of a value that is known (a builtin, a type) with values -/
def CallR (X : Cx) (f : Value) (r : List V → Hp → VK → Prop) : Prop :=
  ∀ (pins : List (Addr × Obj)) (s : Shared) (σ : St) (H : Hp) (xs : List V) (us : List Value) (Q : VK), Inv X pins σ H s → Vals xs us → r xs H Q →
    wpAny (model X.prog X.w) X.A (call f us) (EP X pins σ Q) X.xe s
def tOp (r : R2) (ta tb : TE) : TE := fun σ H Q => ta σ H fun x H1 => tb σ H1 fun y H2 => r x y H2 Q
def tUn (r : V → Hp → VK → Prop) (ta : TE) : TE := fun σ H Q => ta σ H fun x H1 => r x H1 Q
/-- ints in, under C, and a value out -/
def rI (C : Int → Int → Prop) (g : Int → Int → V) : R2 := fun x y H Q => ∃ i j, x = .int i ∧ y = .int j ∧ C i j ∧ Q (g i j) H
def rI0 (g : Int → Int → V) : R2 := fun x y H Q => ∃ i j, x = .int i ∧ y = .int j ∧ Q (g i j) H
def rU (g : Int → V) : V → Hp → VK → Prop := fun x H Q => ∃ i, x = .int i ∧ Q (g i) H

section
variable {X : Cx} {a b c : Expr} {ta tb tc : TE} {pos : Pos}

theorem binT (ha : PE X a ta) (hb : PE X b tb) {pins : List (Addr × Obj)} {s : Shared} {σ : St} {H : Hp} {R : V → V → Hp → Prop} (I : Inv X pins σ H s)
    (h : ta σ H fun x H1 => tb σ H1 fun y H2 => R x y H2) {Q : Value → Shared → Prop} {f : Value → Value → Sem Value}
    (hf : ∀ v u s2 x y H2, Inv X pins σ H2 s2 → RelV x v → RelV y u → R x y H2 → wpAny (model X.prog X.w) X.A (f v u) Q X.xe s2) :
    wpAny (model X.prog X.w) X.A (eval a X.env) (fun v s₁ => wpAny (model X.prog X.w) X.A (eval b X.env) (fun u s₂ => wpAny (model X.prog X.w) X.A (f v u) Q X.xe s₂) X.xe s₁) X.xe s := by
  refine thn (ha pins s σ H _ I h) fun v s1 ⟨x, H1, I1, r1, q1⟩ => ?_
  refine thn (hb pins s1 σ H1 _ I1 q1) fun u s2 ⟨y, H2, I2, r2, q2⟩ => ?_
  exact hf v u s2 x y H2 I2 r1 r2 q2

theorem pe_op {op : Operator} {r : R2} (ho : OpR X (binaryOp op) r) (ha : PE X a ta) (hb : PE X b tb) : PE X (.BinOp a op b pos) (tOp r ta tb) := by
  intro pins s σ H Q I h
  exact wpAny_BinOp (binT ha hb I h fun v u s2 x y H2 I2 rx ry q => ho pins s2 σ H2 x y v u Q I2 rx ry q)
theorem opI {f : Value → Value → Sem Value} {C : Int → Int → Prop} {g : Int → Int → Int}
    (rule : ∀ (i j : Int) (t u : Tok) (s : Shared) (Q : Value → Shared → Prop) (E : Value → Shared → Prop), C i j → Q (.int (g i j) s.toks) { s with toks := s.toks + 1 } → wpAny (model X.prog X.w) X.A (f (.int i t) (.int j u)) Q E s) :
    OpR X f (rI C fun i j => .int (g i j)) := by
  intro pins s σ H x y v u Q I rx ry h
  obtain ⟨i, j, rfl, rfl, hc, q⟩ := h
  obtain ⟨t, rfl⟩ := rx
  obtain ⟨t', rfl⟩ := ry
  exact rule i j t t' s _ _ hc ⟨.int (g i j), H, I.tok _, ⟨_, rfl⟩, q⟩
theorem opI0 {f : Value → Value → Sem Value} {g : Int → Int → Int}
    (rule : ∀ (i j : Int) (t u : Tok) (s : Shared) (Q : Value → Shared → Prop) (E : Value → Shared → Prop), Q (.int (g i j) s.toks) { s with toks := s.toks + 1 } → wpAny (model X.prog X.w) X.A (f (.int i t) (.int j u)) Q E s) :
    OpR X f (rI0 fun i j => .int (g i j)) := by
  intro pins s σ H x y v u Q I rx ry h
  obtain ⟨i, j, rfl, rfl, q⟩ := h
  obtain ⟨t, rfl⟩ := rx
  obtain ⟨t', rfl⟩ := ry
  exact rule i j t t' s _ _ ⟨.int (g i j), H, I.tok _, ⟨_, rfl⟩, q⟩
theorem opB0 {f : Value → Value → Sem Value} {g : Int → Int → Bool}
    (rule : ∀ (i j : Int) (t u : Tok) (s : Shared) (Q : Value → Shared → Prop) (E : Value → Shared → Prop), Q (.bool (g i j)) s → wpAny (model X.prog X.w) X.A (f (.int i t) (.int j u)) Q E s) :
    OpR X f (rI0 fun i j => .bl (g i j)) := by
  intro pins s σ H x y v u Q I rx ry h
  obtain ⟨i, j, rfl, rfl, q⟩ := h
  obtain ⟨t, rfl⟩ := rx
  obtain ⟨t', rfl⟩ := ry
  exact rule i j t t' s _ _ ⟨.bl (g i j), H, I, rfl, q⟩

def CPow (i j : Int) : Prop := 0 ≤ j ∧ j ≤ 1000000 ∧ i.natAbs < 2 ^ 64
def CMul (i j : Int) : Prop := (-(2 ^ 64) < i ∧ i < 2 ^ 64) ∨ (-(2 ^ 64) < j ∧ j < 2 ^ 64)
theorem CMul.ok {i j : Int} (h : CMul i j) : IntMulOk i j := by
  rcases h with ⟨h1, h2⟩ | ⟨h1, h2⟩
  · exact .of_left (intBits_le_64 h1 h2)
  · exact .of_right (intBits_le_64 h1 h2)
theorem op_add : OpR X (binaryOp .Add) (rI0 fun i j => .int (i + j)) := opI0 fun _ _ _ _ _ _ _ q => add_int q
theorem op_sub : OpR X (binaryOp .Sub) (rI0 fun i j => .int (i - j)) := opI0 fun _ _ _ _ _ _ _ q => sub_int q
theorem op_mul : OpR X (binaryOp .Mult) (rI CMul fun i j => .int (i * j)) := opI fun _ _ _ _ _ _ _ hc q => mul_int q hc.ok
/-- % by a positive divisor of any size -/
theorem op_mod : OpR X (binaryOp .Mod) (rI (fun _ j => 0 < j) fun i j => .int (i % j)) := opI fun i j _ _ _ _ _ hc q => by
  have h1 : (0 : Int) < j := hc
  exact mod_int' (by omega) (by rw [Int.fmod_eq_emod_of_nonneg i (by omega)]; exact q)
theorem op_pow : OpR X (binaryOp .Pow) (rI CPow fun i j => .int (i ^ j.toNat)) := opI fun _ _ _ _ _ _ _ hc q => pow_int_small hc.1 hc.2.1 hc.2.2 q
end

/-- the scalars that == tells apart as data does -/
def scal : V → V → Bool
  | .non, .non => true | .non, .int _ => true | .int _, .non => true | .non, .bl _ => true | .bl _, .non => true | .non, .str _ => true | .str _, .non => true
  | .int _, .int _ => true | .bl _, .bl _ => true | .str _, .str _ => true | .byt _, .byt _ => true
  | .int _, .str _ => true | .str _, .int _ => true | .bl _, .str _ => true | .str _, .bl _ => true
  | _, _ => false
def rEq : R2 := fun x y H Q => scal x y = true ∧ Q (.bl (decide (x = y))) H
def rNe : R2 := fun x y H Q => scal x y = true ∧ Q (.bl (!decide (x = y))) H

theorem dec_int {i j : Int} : decide (V.int i = V.int j) = (i == j) := by
  rw [Bool.eq_iff_iff]
  simp
theorem dec_bl {i j : Bool} : decide (V.bl i = V.bl j) = (i == j) := by
  rw [Bool.eq_iff_iff]
  simp
theorem dec_str {i j : Str} : decide (V.str i = V.str j) = (i == j) := by
  rw [Bool.eq_iff_iff]
  simp
theorem dec_byt {i j : Array UInt8} : decide (V.byt i = V.byt j) = (i.toList == j.toList) := by
  rw [Bool.eq_iff_iff]
  cases i
  cases j
  simp

section
variable {X : Cx} {a b c : Expr} {ta tb tc : TE} {pos : Pos}
theorem fin_bl {pins : List (Addr × Obj)} {σ : St} {H : Hp} {s : Shared} {Q : VK} {k k' : Bool} (I : Inv X pins σ H s) (q : Q (.bl k) H) (e : k = k') : EP X pins σ Q (.bool k') s := by
  subst e
  exact ⟨.bl k, H, I, rfl, q⟩
theorem op_eq : OpR X (compareOp .Eq) rEq := by
  intro pins s σ H x y v u Q I rx ry h
  obtain ⟨hs, q⟩ := h
  cases x with
  | non =>
    cases rx
    cases y with
    | non => cases ry; exact PySem.EqNone.eq_none_none (fin_bl I q (by simp))
    | bl j => cases ry; exact PySem.EqNone.eq_none_bool (fin_bl I q (by simp))
    | int j => obtain ⟨t', rfl⟩ := ry; exact PySem.EqNone.eq_none_int (fin_bl I q (by simp))
    | str j => obtain ⟨t', rfl⟩ := ry; exact PySem.EqNone.eq_none_str (fin_bl I q (by simp))
    | _ => exact absurd (show false = true from hs) Bool.false_ne_true
  | bl i =>
    cases rx
    cases y with
    | non => cases ry; exact PySem.EqNone.eq_bool_none (fin_bl I q (by simp))
    | bl j => cases ry; exact eq_bool (fin_bl I q dec_bl)
    | str j => obtain ⟨t', rfl⟩ := ry; exact PySem.EqMixed.eq_bool_str (fin_bl I q (by simp))
    | _ => exact absurd (show false = true from hs) Bool.false_ne_true
  | int i =>
    obtain ⟨t, rfl⟩ := rx
    cases y with
    | non => cases ry; exact PySem.EqNone.eq_int_none (fin_bl I q (by simp))
    | int j => obtain ⟨t', rfl⟩ := ry; exact eq_int (fin_bl I q dec_int)
    | str j => obtain ⟨t', rfl⟩ := ry; exact PySem.EqMixed.eq_int_str (fin_bl I q (by simp))
    | _ => exact absurd (show false = true from hs) Bool.false_ne_true
  | str i =>
    obtain ⟨t, rfl⟩ := rx
    cases y with
    | non => cases ry; exact PySem.EqNone.eq_str_none (fin_bl I q (by simp))
    | bl j => cases ry; exact PySem.EqMixed.eq_str_bool (fin_bl I q (by simp))
    | int j => obtain ⟨t', rfl⟩ := ry; exact PySem.EqMixed.eq_str_int (fin_bl I q (by simp))
    | str j => obtain ⟨t', rfl⟩ := ry; exact eq_str (fin_bl I q dec_str)
    | _ => exact absurd (show false = true from hs) Bool.false_ne_true
  | byt i =>
    obtain ⟨t, rfl⟩ := rx
    cases y with
    | byt j => obtain ⟨t', rfl⟩ := ry; exact PySem.W.eq_bytes (fin_bl I q dec_byt)
    | _ => exact absurd (show false = true from hs) Bool.false_ne_true
  | _ => cases y <;> exact absurd (show false = true from hs) Bool.false_ne_true
theorem op_ne : OpR X (compareOp .NotEq) rNe := by
  intro pins s σ H x y v u Q I rx ry h
  obtain ⟨hs, q⟩ := h
  cases x with
  | non =>
    cases rx
    cases y with
    | non => cases ry; exact PySem.EqNone.ne_none_none (fin_bl I q (by simp))
    | bl j => cases ry; exact PySem.EqNone.ne_none_bool (fin_bl I q (by simp))
    | int j => obtain ⟨t', rfl⟩ := ry; exact PySem.EqNone.ne_none_int (fin_bl I q (by simp))
    | str j => obtain ⟨t', rfl⟩ := ry; exact PySem.EqNone.ne_none_str (fin_bl I q (by simp))
    | _ => exact absurd (show false = true from hs) Bool.false_ne_true
  | bl i =>
    cases rx
    cases y with
    | non => cases ry; exact PySem.EqNone.ne_bool_none (fin_bl I q (by simp))
    | bl j => cases ry; exact ne_bool (fin_bl I q (congrArg not dec_bl))
    | str j => obtain ⟨t', rfl⟩ := ry; exact PySem.EqMixed.ne_bool_str (fin_bl I q (by simp))
    | _ => exact absurd (show false = true from hs) Bool.false_ne_true
  | int i =>
    obtain ⟨t, rfl⟩ := rx
    cases y with
    | non => cases ry; exact PySem.EqNone.ne_int_none (fin_bl I q (by simp))
    | int j => obtain ⟨t', rfl⟩ := ry; exact ne_int (fin_bl I q (congrArg not dec_int))
    | str j => obtain ⟨t', rfl⟩ := ry; exact PySem.EqMixed.ne_int_str (fin_bl I q (by simp))
    | _ => exact absurd (show false = true from hs) Bool.false_ne_true
  | str i =>
    obtain ⟨t, rfl⟩ := rx
    cases y with
    | non => cases ry; exact PySem.EqNone.ne_str_none (fin_bl I q (by simp))
    | bl j => cases ry; exact PySem.EqMixed.ne_str_bool (fin_bl I q (by simp))
    | int j => obtain ⟨t', rfl⟩ := ry; exact PySem.EqMixed.ne_str_int (fin_bl I q (by simp))
    | str j => obtain ⟨t', rfl⟩ := ry; exact ne_str (fin_bl I q (congrArg not dec_str))
    | _ => exact absurd (show false = true from hs) Bool.false_ne_true
  | byt i =>
    obtain ⟨t, rfl⟩ := rx
    cases y with
    | byt j => obtain ⟨t', rfl⟩ := ry; exact PySem.W.ne_bytes (fin_bl I q (congrArg not dec_byt))
    | _ => exact absurd (show false = true from hs) Bool.false_ne_true
  | _ => cases y <;> exact absurd (show false = true from hs) Bool.false_ne_true

theorem op_lt : OpR X (compareOp .Lt) (rI0 fun i j => .bl (decide (i < j))) := opB0 fun _ _ _ _ _ _ _ q => lt_int q
theorem op_le : OpR X (compareOp .LtE) (rI0 fun i j => .bl (decide (i ≤ j))) := opB0 fun _ _ _ _ _ _ _ q => le_int q
theorem op_gt : OpR X (compareOp .Gt) (rI0 fun i j => .bl (decide (j < i))) := opB0 fun _ _ _ _ _ _ _ q => gt_int q
/-- the one string within the other -/
theorem op_in_str : OpR X (compareOp .In) (fun x y H Q => ∃ i j, x = .str i ∧ y = .str j ∧ Q (.bl (!(Builtin.Str.occurrences j i 0 j.length 1).isEmpty)) H) := by
  intro pins s σ H x y v u Q I rx ry h
  obtain ⟨i, j, rfl, rfl, q⟩ := h
  obtain ⟨t, rfl⟩ := rx
  obtain ⟨t', rfl⟩ := ry
  exact in_str (fin_bl I q rfl)

theorem nomark (b : Expr) {op : CmpOp} (h : op ≠ .In := by decide) (h2 : op ≠ .NotIn := by decide) : behindInMarks op b = false := by
  have e1 : (op == CmpOp.In) = false := by cases op <;> first | rfl | exact absurd rfl h
  have e2 : (op == CmpOp.NotIn) = false := by cases op <;> first | rfl | exact absurd rfl h2
  cases b <;> simp [behindInMarks, e1, e2]
/-- a comparison as a value; hm: nomark b, or (for in, not in) by with_unfolding_all rfl -/
theorem pe_cmpR {op : CmpOp} {r : R2} (ho : OpR X (compareOp op) r) (ha : PE X a ta) (hb : PE X b tb) (hm : behindInMarks op b = false) : PE X (.Compare a [op] [b] pos) (tOp r ta tb) := by
  intro pins s σ H Q I h
  exact wpAny_Compare1 (binT ha hb I h fun v u s2 x y H2 I2 rx ry q => ho pins s2 σ H2 x y v u Q I2 rx ry q) hm
/-- a reading of a value as a test -/
def tTest (t : TE) : TT := fun σ H Q => t σ H fun x H' => ∃ k, x = .bl k ∧ Q k H'
theorem pt_cmpR {op : CmpOp} {r : R2} (ho : OpR X (compareOp op) r) (ha : PE X a ta) (hb : PE X b tb) (hm : behindInMarks op b = false) : PT X (.Compare a [op] [b] pos) (tTest (tOp r ta tb)) := by
  intro pins s σ H Q I h
  refine wpAny_isTrue_Compare1 (thn (ha pins s σ H _ I h) fun v s1 ⟨x, H1, I1, r1, q1⟩ => thn (hb pins s1 σ H1 _ I1 q1) fun u s2 ⟨y, H2, I2, r2, q2⟩ =>
    thn (ho pins s2 σ H2 x y v u _ I2 r1 r2 q2) fun c s3 ⟨z, H3, I3, r3, k, e, q3⟩ => ?_) hm
  subst e
  cases r3
  exact wpAny_truthy_bool ⟨H3, I3, q3⟩
/-- a op1 b op2 c -/
def tChain (r r' : R2) (ta tb tc : TE) : TE := fun σ H Q => ta σ H fun x H1 => tb σ H1 fun y H2 => r x y H2 fun z H3 => ∃ k, z = .bl k ∧
  (if k = true then tc σ H3 fun w' H4 => r' y w' H4 Q else Q (.bl false) H3)
theorem pt_chain {op op' : CmpOp} {r r' : R2} (ho : OpR X (compareOp op) r) (ho' : OpR X (compareOp op') r') (ha : PE X a ta) (hb : PE X b tb) (hc : PE X c tc)
    (hm : lastMarks [op, op'] [b, c] = false := by with_unfolding_all rfl) : PT X (.Compare a [op, op'] [b, c] pos) (tTest (tChain r r' ta tb tc)) := by
  intro pins s σ H Q I h
  refine isTrue_chain (thn (ha pins s σ H _ I h) fun v s1 ⟨x, H1, I1, r1, q1⟩ => test_link (thn (hb pins s1 σ H1 _ I1 q1) fun u s2 ⟨y, H2, I2, r2, q2⟩ =>
    thn (ho pins s2 σ H2 x y v u _ I2 r1 r2 q2) fun d s3 ⟨z, H3, I3, r3, k, e, q3⟩ => ?_)) hm
  subst e
  cases r3
  refine wpAny_truthy_bool ?_
  cases k with
  | false =>
    obtain ⟨k', e', q'⟩ := q3
    cases e'
    exact ite_ff ⟨H3, I3, q'⟩
  | true =>
    refine ite_tt (test_last (thn (hc pins s3 σ H3 _ I3 q3) fun w' s4 ⟨z', H4, I4, r4, q4⟩ => thn (ho' pins s4 σ H4 y z' u w' _ I4 r2 r4 q4) fun d' s5 ⟨z2, H5, I5, r5, k2, e2, q5⟩ => ?_))
    subst e2
    cases r5
    exact wpAny_truthy_bool ⟨H5, I5, q5⟩

theorem line63 : (sizeLine : Nat) < 2 ^ 63 := by rw [sizeLine_eq]; decide
theorem op_add_str : OpR X (binaryOp .Add) (fun x y H Q => ∃ i j, x = .str i ∧ y = .str j ∧ i.length + j.length ≤ sizeLine ∧ Q (.str (i ++ j)) H) := by
  intro pins s σ H x y v u Q I rx ry h
  obtain ⟨i, j, rfl, rfl, hz, q⟩ := h
  obtain ⟨t, rfl⟩ := rx
  obtain ⟨t', rfl⟩ := ry
  exact add_str (fun t' tk => ⟨.str (i ++ j), H, I.tok _, ⟨_, rfl⟩, q⟩) hz
theorem vals1 {x : V} {us : List Value} (r : Vals [x] us) : ∃ u, us = [u] ∧ RelV x u := by
  cases r with
  | cons r1 r2 => cases r2; exact ⟨_, rfl, r1⟩
theorem vals2 {x y : V} {us : List Value} (r : Vals [x, y] us) : ∃ u w', us = [u, w'] ∧ RelV x u ∧ RelV y w' := by
  cases r with
  | cons r1 r2 =>
    cases r2 with
    | cons r3 r4 => cases r4; exact ⟨_, _, rfl, r1, r3⟩
theorem call_abs : CallR X (.builtin "abs") (fun xs H Q => ∃ i, xs = [.int i] ∧ Q (.int (if i < 0 then -i else i)) H) := by
  intro pins s σ H xs us Q I r h
  obtain ⟨i, rfl, q⟩ := h
  obtain ⟨u, rfl, t, rfl⟩ := vals1 r
  exact call_abs_int fun u tk => ⟨.int (if i < 0 then -i else i), H, I.tok _, ⟨_, rfl⟩, q⟩
theorem call_max2 (hc : X.calm = true) : CallR X (.builtin "max") (fun xs H Q => ∃ i j, xs = [.int i, .int j] ∧ Q (.int (if j > i then j else i)) H) := by
  intro pins s σ H xs us Q I r h
  obtain ⟨i, j, rfl, q⟩ := h
  obtain ⟨u, w', rfl, ⟨t, rfl⟩, ⟨t', rfl⟩⟩ := vals2 r
  refine max_two_ints (I.ok.hd hc) fun h' tk k => ⟨_, H, I.kept k, ?_, q⟩
  by_cases hj : j > i
  · rw [if_pos hj, if_pos hj]; exact ⟨_, rfl⟩
  · rw [if_neg hj, if_neg hj]; exact ⟨_, rfl⟩
/-- len of a str, a bytes, a list, a tuple -/
def LenV (K : PySem.W.Frag) (x : V) (H : Hp) (n : Nat) : Prop :=
  match x with
  | .str y => y.length ≤ sizeLine ∧ n = y.length
  | .byt y => y.size ≤ sizeLine ∧ n = y.size
  | .ref p => (∃ xs, SqL K H p xs ∧ n = xs.length) ∨ ∃ xs, SqT K H p xs ∧ n = xs.length
  | _ => False
theorem call_len : CallR X (.builtin "len") (fun xs H Q => ∃ x n, xs = [x] ∧ LenV X.K x H n ∧ Q (.int n) H) := by
  intro pins s σ H xs us Q I r h
  obtain ⟨x, n, rfl, e, q⟩ := h
  obtain ⟨u, rfl, rx⟩ := vals1 r
  have hl := line63
  have hs : sizeLine = 16777216 := sizeLine_eq
  cases x with
  | str y =>
    obtain ⟨t, rfl⟩ := rx
    obtain ⟨hy, e'⟩ : y.length ≤ sizeLine ∧ n = y.length := e
    subst e'
    exact len_str (by omega) ⟨.int _, H, I.tok _, ⟨_, rfl⟩, q⟩
  | byt y =>
    obtain ⟨t, rfl⟩ := rx
    obtain ⟨hy, e'⟩ : y.size ≤ sizeLine ∧ n = y.size := e
    subst e'
    exact PySem.W.len_bytes (by omega) ⟨.int _, H, I.tok _, ⟨_, rfl⟩, q⟩
  | ref p =>
    cases rx
    have e' : (∃ xs, SqL X.K H p xs ∧ n = xs.length) ∨ ∃ xs, SqT X.K H p xs ∧ n = xs.length := e
    rcases e' with ⟨xs, hx, e'⟩ | ⟨xs, hx, e'⟩
    · subst e'
      obtain ⟨its, r', pl, hz⟩ := I.list hx
      have hlen := r'.length
      exact Calls.call_len_list pl.isList (by simp only [List.size_toArray]; omega) ⟨.int xs.length, H, I.tok _, ⟨_, by simp only [List.size_toArray]; rw [hlen]⟩, q⟩
    · subst e'
      obtain ⟨its, r', pl, hz⟩ := I.tuple hx
      have hlen := r'.length
      exact len_tuple pl (by simp only [List.size_toArray]; omega) ⟨.int xs.length, H, I.tok _, ⟨_, by simp only [List.size_toArray]; rw [hlen]⟩, q⟩
  | _ => exact (show False from e).elim
end
end L2

namespace L2
open PySem PySem.Spec PyProof.Rows

structure ObjM (h : Heap) (x dx C : Addr) (mA : Str → Option Value) : Prop where
  obj : h.get? x = some (PySem.W.instObj C dx)
  ns : h.Ns1 dx mA
  ne : dx ≠ x

theorem lookIn_ns {h : Heap} {dx : Addr} {mA : Str → Option Value} (n : h.Ns1 dx mA) : ∃ od, h.get? dx = some od ∧ ∀ name, PySem.W.lookIn name od = some (mA name) := by
  obtain ⟨o, es, ep, ho, hd, hk, _, hm⟩ := n
  refine ⟨o, ho, fun name => ?_⟩
  have e := hm name
  unfold nsFind findBy at e
  rw [← Array.find?_toList] at e
  unfold PySem.W.lookIn
  rw [hd]
  dsimp only
  split
  · rename_i y q
    rw [q] at e
    exact congrArg some e
  · rename_i q
    rw [q] at e
    have a : es.toList.any (·.refKey) = false := by
      rw [List.any_eq_false]
      intro y hy
      obtain ⟨z, t, hkey⟩ := hk y (Array.mem_toList_iff.mp hy)
      simp [DictEntry.refKey, hkey]
    have a' : ¬ es.toList.any (·.refKey) = true := by rw [a]; exact Bool.false_ne_true
    rw [if_neg a']
    exact congrArg some e

theorem ObjM.look {h : Heap} {x dx C : Addr} {mA : Str → Option Value} (I : ObjM h x dx C mA) : ∃ od, PySem.W.InstAt h x (PySem.W.instObj C dx) C (some od) ∧ ∀ name, PySem.W.lookIn name od = some (mA name) :=
  let ⟨od, ho, hl⟩ := lookIn_ns I.ns
  ⟨od, ⟨I.obj, rfl, rfl, ho⟩, hl⟩

section
variable {prog : Program} {w : World} {A : Around} {E : Value → Shared → Prop} {s : Shared} {K : PySem.W.Frag} {x dx C f : Addr} {mA : Str → Option Value} {name : Str} {v : Value}

end

def putF (f : Str) (v : V) : List (Str × V) → List (Str × V)
  | [] => [(f, v)]
  | (g, x) :: r => if g = f then (g, v) :: r else (g, x) :: putF f v r
section
variable {P : Program} {w : World} {H H' : Hp} {h h' : Heap} {a C dx : Addr} {fs fs' : List (Str × V)}
theorem ins_get (hok : HOk P w H h) (e : H a = some (.ins C dx fs)) : ∃ mA, ObjM h a dx C mA ∧ (∀ f, RelO (fs.lookup f) (mA f)) ∧ PySem.Within mA (fs.map (·.1)) ∧ fs.length ≤ 1000 ∧ H dx = some (.own a) := by
  obtain ⟨d, z, ne, ob, mA, n, r, q⟩ := (show ObjOk P w H h a (.ins C dx fs) from hok a _ e)
  exact ⟨mA, ⟨ob, n, ne⟩, r, q, z, d⟩
end

structure Cls (K : PySem.W.Frag) (C : Addr) : Prop where
  pg : PySem.W.plainGet K C Str.empty = true
  hd : PySem.W.hasDictIn K C = true
  po : PySem.W.plainOver K C = true
  sa : PySem.W.findIn K (.ref C) "__setattr__" = some (some (.builtin "object.__setattr__"))
theorem Cls.get {K : PySem.W.Frag} {C : Addr} (c : Cls K C) (f : Str) : PySem.W.plainGet K C f = true := c.pg
/-- no class of it has the name -/
def NoAttr (K : PySem.W.Frag) (C : Addr) (f : Str) : Prop := PySem.W.findIn K (.ref C) f = some none
section
variable {X : Cx} {pins : List (Addr × Obj)} {σ : St} {H : Hp} {s : Shared} {a C dx : Addr} {fs : List (Str × V)} {f : Str} {v : V} {A : Around} {E : Value → Shared → Prop}

/-- a new instance, tracked, without attributes -/
theorem Inv.made (I : Inv X pins σ H s) : Inv X pins σ (upd (upd H s.heap.objs.size (.own (s.heap.objs.size + 1))) (s.heap.objs.size + 1) (.ins C s.heap.objs.size []))
    { s with heap := (s.heap.push PySem.W.emptyDict).push (PySem.W.instObj C s.heap.objs.size) } := by
  have e1 : (s.heap.push PySem.W.emptyDict).get? s.heap.objs.size = some PySem.W.emptyDict := Heap.get?_push_size s.heap rfl
  have e2 : ((s.heap.push PySem.W.emptyDict).push (PySem.W.instObj C s.heap.objs.size)).get? (s.heap.objs.size + 1) = some (PySem.W.instObj C s.heap.objs.size) := by
    have := Heap.get?_push_size (s.heap.push PySem.W.emptyDict) (o := PySem.W.instObj C s.heap.objs.size) rfl
    rwa [Heap.size_push] at this
  have e3 : (s.heap.push PySem.W.emptyDict).Ns s.heap.objs.size (fun _ => none) := ⟨PySem.W.emptyDict, #[], _, e1, rfl, (fun e he => absurd he (by simp)), fun _ => rfl⟩
  have I1 := I.laid (a := s.heap.objs.size) (o := .own (s.heap.objs.size + 1)) (h' := s.heap.push PySem.W.emptyDict) (t' := s.toks) (fun b u q => Heap.get?_push_of_some _ q) (Nat.le_refl _) ⟨_, e1⟩
  refine I1.laid (a := s.heap.objs.size + 1) (o := .ins C s.heap.objs.size []) (t' := s.toks) (fun b u q => Heap.get?_push_of_some _ q) (Nat.le_of_eq (Heap.size_push _ _)) ?_
  have ne : s.heap.objs.size ≠ s.heap.objs.size + 1 := Nat.ne_of_lt (Nat.lt_succ_self _)
  refine ⟨by rw [upd_ne ne, upd_same], Nat.zero_le _, ne, e2, fun _ => none, (Heap.Ns1.of_empty e3).at fun o q => Heap.get?_push_of_some _ q, fun _ => True.intro, fun y hy => absurd rfl hy⟩

end

/-- e.f, an attribute of the instance -/
def tFld (K : PySem.W.Frag) (ta : TE) (f : Str) : TE := fun σ H Q => ta σ H fun x H1 => ∃ a C dx fs v, x = .ref a ∧ H1 a = some (.ins C dx fs) ∧ Cls K C ∧ NoAttr K C f ∧ fs.lookup f = some v ∧ Q v H1
/-- e.f = value -/
def sFld (K : PySem.W.Frag) (ta tv : TE) (f : Str) : TS := fun D σ H => tv σ H fun y H1 => ta σ H1 fun x H2 => ∃ a C dx fs, x = .ref a ∧ H2 a = some (.ins C dx fs) ∧ Cls K C ∧ NoAttr K C f ∧ fs.length < 1000 ∧
  D.nx σ (upd H2 a (.ins C dx (putF f y fs)))
section
variable {X : Cx} {o e value : Expr} {f : Str} {pos pos' tpos : Pos} {ta tv : TE}
end

section
variable {X : Cx} {pins : List (Addr × Obj)} {σ : St} {H : Hp} {s : Shared} {A : Around} {E : Value → Shared → Prop} {Q : Value → Shared → Prop} {c : Value} {b : Bool}
/-- the type of a value, as the fragment's deciders take it; for an instance its class -/
inductive TyOf (K : PySem.W.Frag) (H : Hp) : V → Value → Prop where
  | non : TyOf K H .non (.type "NoneType")
  | bl (x : Bool) : TyOf K H (.bl x) (.type "bool")
  | int (i : Int) : TyOf K H (.int i) (.type "int")
  | str (x : Str) : TyOf K H (.str x) (.type "str")
  | flt (x : UInt64) : TyOf K H (.flt x) (.type "float")
  | lst {a : Addr} {xs : List V} (e : H a = some (.lst xs)) : TyOf K H (.ref a) (.type "list")
  | frz {a : Addr} {o : Obj} {xs : List V} (e : H a = some (.frz o (.lst xs))) : TyOf K H (.ref a) (.type "list")
  | tup {a : Addr} {xs : List V} (e : H a = some (.tup xs)) : TyOf K H (.ref a) (.type "tuple")
  | dK {a : Addr} {kvs : List (Key × V)} (e : H a = some (.dK kvs)) : TyOf K H (.ref a) (.type "dict")
  | dT {a : Addr} {kvs : List (List Key × V)} (e : H a = some (.dT kvs)) : TyOf K H (.ref a) (.type "dict")
  | ins {a C dx : Addr} {fs : List (Str × V)} (e : H a = some (.ins C dx fs)) (cl : Cls K C) (ha : PySem.W.findIn K (.ref C) "__class__" = some (some (.builtin "object.__class__")))
      (hn : PySem.W.specialIn K (.builtin "object.__class__") "__get__" = some (some (.builtin "getset_descriptor.__get__"))) (htk : PySem.W.takesIn K (.builtin "object.__class__") = some true)
      (hm : PySem.W.mroIn K C (.type "object") = some true) : TyOf K H (.ref a) (.ref C)
/-- isinstance(x, c) for one class c, a built-in or an own one: kitOne's answer -/
theorem isinst_ok {x : V} {u t : Value} (I : Inv X pins σ H s) (rx : RelV x u) (ty : TyOf X.K H x t) (e : PySem.W.kitOne X.K t c = some b) (h : ∀ tk, Q (.bool b) { s with toks := tk }) :
    wpAny (model X.prog X.w) A (call (.builtin "isinstance") [u, c]) Q E s := by
  cases ty with
  | non => cases (show u = Value.none from rx); exact PySem.W.kia_one PySem.W.kitx_none I.kIn True.intro e (fun z => nomatch z) h
  | bl y => cases (show u = Value.bool y from rx); exact PySem.W.kia_one PySem.W.kitx_bool I.kIn True.intro e (fun z => nomatch z) h
  | int i => obtain ⟨t, q⟩ := (show ∃ t, u = Value.int i t from rx); cases q; exact PySem.W.kia_one PySem.W.kitx_int I.kIn True.intro e (fun z => nomatch z) h
  | str y => obtain ⟨t, q⟩ := (show ∃ t, u = Value.str y t from rx); cases q; exact PySem.W.kia_one PySem.W.kitx_str I.kIn True.intro e (fun z => nomatch z) h
  | flt y => obtain ⟨t, q⟩ := (show ∃ t, u = Value.float y t from rx); cases q; exact PySem.W.kia_one PySem.W.kitx_float I.kIn True.intro e (fun z => nomatch z) h
  | @lst a xs ea =>
    cases (show u = Value.ref a from rx)
    obtain ⟨_, _, n, _, h1⟩ := (show ObjOk X.prog X.w H s.heap a (.lst xs) from I.hok a _ ea)
    exact PySem.W.kia_one PySem.W.kitx_list I.kIn ⟨_, h1, rfl⟩ e (fun z => nomatch z) h
  | @frz a ob xs ea =>
    cases (show u = Value.ref a from rx)
    obtain ⟨_, _, _, n, _, h1⟩ := (show ObjOk X.prog X.w H s.heap a (.frz ob (.lst xs)) from I.hok a _ ea)
    exact PySem.W.kia_one PySem.W.kitx_list I.kIn ⟨_, h1, rfl⟩ e (fun z => nomatch z) h
  | @tup a xs ea =>
    cases (show u = Value.ref a from rx)
    obtain ⟨_, _, _, p⟩ := (show ObjOk X.prog X.w H s.heap a (.tup xs) from I.hok a _ ea)
    obtain ⟨o, h1, h2, _⟩ := p
    exact PySem.W.kia_one PySem.W.kitx_tuple I.kIn ⟨o, h1, h2⟩ e (fun z => nomatch z) h
  | @dK a kvs ea =>
    cases (show u = Value.ref a from rx)
    obtain ⟨_, _, vs, _, p⟩ := (show ObjOk X.prog X.w H s.heap a (.dK kvs) from I.hok a _ ea)
    obtain ⟨o, es, ep, h1, h2, _⟩ := p
    exact PySem.W.kia_one PySem.W.kitx_dict I.kIn ⟨o, h1, h2.1⟩ e (fun z => nomatch z) h
  | @dT a kvs ea =>
    cases (show u = Value.ref a from rx)
    obtain ⟨_, _, xs, _, o, es, ep, h1, h2, _⟩ := (show ObjOk X.prog X.w H s.heap a (.dT kvs) from I.hok a _ ea)
    exact PySem.W.kia_one PySem.W.kitx_dict I.kIn ⟨o, h1, h2.1⟩ e (fun z => nomatch z) h
  | @ins a C dx fs ea cl ha hn htk hm =>
    cases (show u = Value.ref a from rx)
    obtain ⟨mA, O, _⟩ := ins_get I.hok ea
    obtain ⟨od, J, _⟩ := O.look
    exact PySem.W.kia_one (PySem.W.kitx_own (cl.get _) cl.hd ha hn htk hm) I.kIn J e (fun z => nomatch z) h
end
end L2

namespace L2
open PySem PySem.Spec PyProof.Rows

structure Room (k : Nat) (A : Around) : Prop where
  hd : A.handled = none
  dp : A.depth + 3 * k + 5 < recursionLimit
  un : A.units + 16 * k + 200 < cLine
theorem Room.mono {j k : Nat} {A : Around} (r : Room k A) (h : j ≤ k) : Room j A := ⟨r.hd, by have := r.dp; omega, by have := r.un; omega⟩
theorem Room.deeper {k : Nat} {A : Around} (r : Room (k + 1) A) (env : Env) : Room k (A.deeper env) :=
  ⟨r.hd, by have := r.dp; show A.depth + 1 + 3 * k + 5 < _; omega, by have := r.un; show A.units + 3 + 16 * k + 200 < _; omega⟩
theorem Room.depth {k : Nat} {A : Around} (r : Room k A) : A.depth < recursionLimit := by have := r.dp; omega
theorem Room.units {k : Nat} {A : Around} (r : Room k A) : A.units + 64 < cLine := by have := r.un; omega
def tNil : TA := fun _ H Q => Q [] H
def tCons (ta : TE) (tr : TA) : TA := fun σ H Q => ta σ H fun x H1 => tr σ H1 fun xs H2 => Q (x :: xs) H2
section
variable {X : Cx} {e : Expr} {es : List Expr} {te : TE} {t : TA} {pos : Pos}
theorem pa_nil : PA X [] tNil := fun _ _ _ _ H Q I h => Calls.spliced_nil ⟨[], H, I, .nil, h⟩
theorem pa_cons (ha : PE X e te) (hr : PA X es t) (hs : starEach (e :: es) X.env = (false, eval e X.env) :: starEach es X.env := by rfl) : PA X (e :: es) (tCons te t) := by
  intro pos pins s σ H Q I h
  rw [hs]
  show wpAny _ _ (spliced ((false, eval e X.env) :: backTo pos (starEach es X.env))) _ _ s
  refine Calls.spliced_cons (thn (ha pins s σ H _ I h) fun u s1 ⟨x, H1, I1, r1, q1⟩ => ?_)
  exact thn (hr pos pins s1 σ H1 _ I1 q1) fun us s2 ⟨xs, H2, I2, r2, q2⟩ => ⟨x :: xs, H2, I2, .cons r1 r2, q2⟩

/-- a tuple, a list of written items -/
def tTup (t : TA) : TE := fun σ H Q => t σ H fun xs H1 => xs.length ≤ sizeLine ∧ ∀ p, H1 p = none → Q (.ref p) (upd H1 p (.tup xs))
def tLst (t : TA) : TE := fun σ H Q => t σ H fun xs H1 => xs.length ≤ sizeLine ∧ ∀ p, H1 p = none → Q (.ref p) (upd H1 p (.lst xs))
theorem pe_tup {x1} (h : PA X es t) : PE X (.Tuple es x1 pos) (tTup t) := by
  intro pins s σ H Q I hq
  refine wpAny_Tuple_spliced (thn (h pos pins s σ H _ I hq) fun us s1 ⟨xs, H1, I1, r, z, q⟩ => ⟨by rw [← r.length]; exact z, ?_⟩)
  have hf : H1 s1.heap.objs.size = none := I1.hok.fresh (Nat.le_refl _)
  refine ⟨.ref s1.heap.objs.size, upd H1 s1.heap.objs.size (.tup xs), I1.laid (t' := s1.toks) (fun b u e => Heap.get?_push_of_some _ e) (Nat.le_refl _) ?_, rfl, q _ hf⟩
  exact ⟨z, us, r, ⟨_, Heap.get?_push_size _ rfl, rfl, _, rfl⟩⟩
theorem pe_lst (h : PA X es t) : PE X (.List es pos) (tLst t) := by
  intro pins s σ H Q I hq
  refine wpAny_List_spliced (thn (h pos pins s σ H _ I hq) fun us s1 ⟨xs, H1, I1, r, z, q⟩ => ⟨by rw [← r.length]; exact z, ?_⟩)
  have hf : H1 s1.heap.objs.size = none := I1.hok.fresh (Nat.le_refl _)
  refine ⟨.ref s1.heap.objs.size, upd H1 s1.heap.objs.size (.lst xs), I1.laid (t' := s1.toks) (fun b u e => Heap.get?_push_of_some _ e) (Nat.le_refl _) ?_, rfl, q _ hf⟩
  exact ⟨z, us, 0, r, Heap.get?_push_size _ rfl⟩
end

/-- a def's promise: the bound arguments in the parameters' order, the heap, the wanted end, the wanted exception -/
abbrev Sp := List V → Hp → VK → XK → Prop
/-- how an exception lies behind a call (file 08 gives it): the callers' frames, abstract heap and state ahead of the call, the wish, the exception, the state -/
abbrev CXT := List Env → Hp → Shared → XK → Value → Shared → Prop

/-- the state at a call -/
structure Env0 (P : Program) (w : World) (K : PySem.W.Frag) (mg : Str → Option Value) (base : Heap) (A : Around) (outer : List Env) (s : Shared) (H : Hp) : Prop where
  frames : A.frames = some outer
  mod : Mod K mg base
  bs : ∀ b o, base.get? b = some o → s.heap.get? b = some o ∧ H b = none
  bsz : base.objs.size ≤ s.heap.objs.size
  funs : s.heap.FunFrames base outer
  frf : ∀ b ∈ frs outer, H b = none
  hok : HOk P w H s.heap
  bare : AllBare s.gens
/-- a call's end -/
def CE (outer : List Env) (P : Program) (w : World) (H : Hp) (s : Shared) (Q : VK) (u : Value) (s' : Shared) : Prop :=
  ∃ v H', s'.os = s.os ∧ AllBare s'.gens ∧ Un (frs outer) [] H H' s.heap s'.heap ∧ HOk P w H' s'.heap ∧ RelV v u ∧ Q v H'
def CR (CX : CXT) (outer : List Env) (P : Program) (w : World) (H : Hp) (s : Shared) (Q : VK) (E : XK) (r : Result) (s' : Shared) : Prop :=
  match r with
  | .ok (.ret u) => CE outer P w H s Q u s'
  | .ok _ => False
  | .error e => CX outer H s E e s'
structure FnOk (P : Program) (w : World) (K : PySem.W.Frag) (mg : Str → Option Value) (base : Heap) (CX : CXT) (k : Nat) (f : Addr) (fd : FuncData) (ps : List Str) (sp : Sp) : Prop where
  len : ∀ vs H Q E, sp vs H Q E → vs.length = ps.length
  run : ∀ (A : Around) (outer : List Env) (s : Shared) (H : Hp) (args : Args) (us : List Value) (vs : List V) (Q : VK) (E : XK), Room k A → Env0 P w K mg base A outer s H → BindsTo s fd args (ps.zip us) → Vals vs us → sp vs H Q E →
    codeAny (model P w) A (.call (.ref f) args) (CR CX outer P w H s Q E) s
section
variable {X : Cx} {pins : List (Addr × Obj)} {σ : St} {H : Hp} {s s' : Shared}
/-- from a body: what a callee wants -/
theorem Inv.env0 (I : Inv X pins σ H s) : Env0 X.prog X.w X.K X.mg X.base X.A X.stack s H :=
  ⟨I.ok.frames, I.ok.mod, I.bs, Nat.le_trans I.ok.bsz I.sz, I.stack, I.stkFree, I.hok, I.bare⟩
/-- behind a call -/
theorem Inv.after {Q : VK} {u : Value} (I : Inv X pins σ H s) (h : CE X.stack X.prog X.w H s Q u s') : EP X pins σ Q u s' := by
  obtain ⟨v, H', os, bare, un, hok, r, q⟩ := h
  obtain ⟨hh, g, d, t, os'⟩ := s'
  obtain rfl : os' = s.os := os
  exact ⟨v, H', I.call (h' := hh) (g' := g) (d' := d) (t' := t) (ch := []) un hok bare (fun b z => absurd z (by simp)), r, q⟩
end

/-- f(..): the written arguments, then the defaults dvs; E: what is wanted of an exception -/
def tCall (sp : Sp) (dvs : List V) (E : XK) (t : TA) : TE := fun σ H Q => t σ H fun vs H1 => sp (vs ++ dvs) H1 Q E
/-- o.m(..) of an instance of the class at C -/
def tMeth (C : Addr) (m : Str) (sp : Sp) (dvs : List V) (E : XK) (ta : TE) (t : TA) : TE := fun σ H Q => ta σ H fun x H1 => ∃ a dx fs, x = .ref a ∧ H1 a = some (.ins C dx fs) ∧ fs.lookup m = none ∧
  t σ H1 fun vs H2 => sp (x :: (vs ++ dvs)) H2 Q E
/-- C(..): a new instance and its dict, then __init__ -/
def tMake (C : Addr) (sp : Sp) (dvs : List V) (E : XK) (t : TA) : TE := fun σ H Q => t σ H fun vs H1 => ∀ x dx, H1 x = none → H1 dx = none → dx ≠ x →
  sp (.ref x :: (vs ++ dvs)) (upd (upd H1 dx (.own x)) x (.ins C dx [])) (fun v H2 => v = .non ∧ Q (.ref x) H2) E

/-- how the parameters are bound: us the positional arguments, kw the keywords' values by name, ds the defaults that fill up -/
def Binds (K : PySem.W.Frag) (fd : FuncData) (ps : List Str) (ds : List Value) : Prop :=
  ∀ (s : Shared) (us : List Value), K.In s.heap → (us ++ ds).length = ps.length → BindsTo s fd ⟨us, []⟩ (ps.zip (us ++ ds))
/-- every parameter is given -/
theorem Binds.all {K : PySem.W.Frag} {fd : FuncData} {ps : List Str} (h : ∀ us : List Value, us.length = ps.length → bindArgs fd ⟨us, []⟩ = pure (ps.zip us)) : Binds K fd ps [] := fun s us _ hl => by
  rw [List.append_nil] at hl ⊢
  exact .of_eq (h us hl)

/-- an exception of a callee reaches what this body wants of exceptions -/
def Passes (CX : CXT) (X : Cx) (E : XK) : Prop := ∀ (pins : List (Addr × Obj)) (σ : St) (H : Hp) (s : Shared) (e : Value) (s' : Shared), Inv X pins σ H s → CX X.stack H s E e s' → X.xe e s'

section
variable {X : Cx} {CX : CXT} {k : Nat} {f C : Addr} {fd : FuncData} {ps : List Str} {sp : Sp} {dvs : List V} {ds : List Value} {E : XK} {x m : Str} {p pos apos : Pos} {e o : Expr} {es : List Expr} {ta : TE} {t : TA}

/-- the callee runs -/
theorem run_fn {pins : List (Addr × Obj)} {σ : St} {H : Hp} {s : Shared} {Q : VK} {us : List Value} {vs : List V} (F : FnOk X.prog X.w X.K X.mg X.base CX k f fd ps sp) (hr : Room k X.A) (hb : Binds X.K fd ps ds) (hd : Vals dvs ds) (hx : Passes CX X E)
    (I : Inv X pins σ H s) (r : Vals vs us) (h : sp (vs ++ dvs) H Q E) : wpAny (model X.prog X.w) X.A (call (.ref f) us) (EP X pins σ Q) X.xe s := by
  have r2 : Vals (vs ++ dvs) (us ++ ds) := r.append hd
  have hl : (us ++ ds).length = ps.length := by rw [← r2.length]; exact F.len _ _ _ _ h
  refine wpAny_call (codeAny_mono (F.run X.A X.stack s H ⟨us, []⟩ (us ++ ds) (vs ++ dvs) Q E hr I.env0 (hb s us I.kIn hl) r2 h) fun r s' hq => ?_)
  cases r with
  | error e => exact hx pins σ H s e s' I hq
  | ok fl =>
    cases fl with
    | ret u => exact I.after hq
    | next => exact False.elim hq
    | brk => exact False.elim hq
    | cont => exact False.elim hq

theorem pe_call (F : FnOk X.prog X.w X.K X.mg X.base CX k f fd ps sp) (hr : Room k X.A) (hg : Gl X x) (hm : X.mg x = some (.ref f)) (hk : PySem.W.keepIn X.K (.ref f) = true) (hb : Binds X.K fd ps ds) (hd : Vals dvs ds) (hx : Passes CX X E)
    (ha : PA X (e :: es) t) (hdb : (x == ("__debug__" : Str)) = false := by decide) (he : starEach (e :: es) X.env = (false, eval e X.env) :: starEach es X.env := by rfl) (hpl : (backTo pos (starEach es X.env)).any (·.1) = false := by rfl) :
    PE X (.Call (.Name x p) (e :: es) [] pos) (tCall sp dvs E t) := by
  intro pins s σ H Q I h
  refine wpAny_Call_Name_kw (ld_glob I hg hm ?_ hdb)
  refine PySem.W.callWith_K (h₀ := X.base) I.ok.mod.kin hk (thn (ha pos pins s σ H _ I h) fun us s1 ⟨vs, H1, I1, r, q⟩ => ⟨I1.kIn, ?_⟩) he hpl
  exact run_fn F hr hb hd hx I1 r q
end

section
variable {X : Cx} {CX : CXT} {k : Nat} {f C : Addr} {fd : FuncData} {ps ks : List Str} {sp : Sp} {E : XK} {x m : Str} {p pos apos kpos : Pos} {e o : Expr} {es : List Expr} {kws : List Keyword} {te ta : TE} {t tk : TA} {nm : Option Str}
variable {g : List Value → List Value → List Value} {gV : List V → List V → List V}
end

/-- names: the parameters first -/
structure FnScope (N P : List Str) (sc : Scope) : Prop where
  kind : sc.kind = .function
  co : sc.isCoroutine = false
  gen : sc.isGenerator = false
  nd : N.Nodup
  pre : N.take P.length = P
  par : ∀ x ∈ P, sc.names.lookup x = some .local ∨ sc.names.lookup x = some .cell
  nofree : ∀ y ∈ sc.names, y.2 ≠ .free

theorem bindL_out {kindOf : Str → Option NameKind} {x : Str} : ∀ {binds : List (Str × Value)} {m : Str → Option Value}, (∀ v, (x, v) ∉ binds) → bindL kindOf binds m x = m x
  | [], _, _ => rfl
  | (n, v) :: r, m, h => by
    unfold bindL
    rw [bindL_out fun w hw => h w (List.mem_cons_of_mem _ hw)]
    split
    · have : x ≠ n := by rintro rfl; exact h v List.mem_cons_self
      simp [this]
    · rfl
theorem bindC_out {kindOf : Str → Option NameKind} {x : Str} : ∀ {binds : List (Str × Value)} {m : Str → Option Value}, (∀ v, (x, v) ∉ binds) → bindC kindOf binds m x = m x
  | [], _, _ => rfl
  | (n, v) :: r, m, h => by
    unfold bindC
    rw [bindC_out fun w hw => h w (List.mem_cons_of_mem _ hw)]
    split
    · rfl
    · have : x ≠ n := by rintro rfl; exact h v List.mem_cons_self
      simp [this]
theorem bindL_get {kindOf : Str → Option NameKind} {x : Str} {v : Value} : ∀ {P : List Str} {vs : List Value} {i : Nat} {m : Str → Option Value}, P.Nodup → P[i]? = some x → vs[i]? = some v → kindOf x = some .local →
    bindL kindOf (P.zip vs) m x = some v
  | [], _, _, _, _, h, _, _ => by simp at h
  | _ :: _, [], _, _, _, _, h, _ => by simp at h
  | p :: P, w :: vs, 0, m, nd, h1, h2, hk => by
    simp at h1 h2; subst h1; subst h2
    show bindL kindOf ((p, w) :: P.zip vs) m p = _
    unfold bindL
    rw [bindL_out fun v hv => (List.nodup_cons.mp nd).1 (List.of_mem_zip hv).1, if_pos hk]
    simp
  | p :: P, w :: vs, i + 1, m, nd, h1, h2, hk => by
    show bindL kindOf ((p, w) :: P.zip vs) m x = _
    unfold bindL
    exact bindL_get (i := i) (List.nodup_cons.mp nd).2 (by simpa using h1) (by simpa using h2) hk
theorem bindC_get {kindOf : Str → Option NameKind} {x : Str} {v : Value} : ∀ {P : List Str} {vs : List Value} {i : Nat} {m : Str → Option Value}, P.Nodup → P[i]? = some x → vs[i]? = some v → kindOf x ≠ some .local →
    bindC kindOf (P.zip vs) m x = some v
  | [], _, _, _, _, h, _, _ => by simp at h
  | _ :: _, [], _, _, _, _, h, _ => by simp at h
  | p :: P, w :: vs, 0, m, nd, h1, h2, hk => by
    simp at h1 h2; subst h1; subst h2
    show bindC kindOf ((p, w) :: P.zip vs) m p = _
    unfold bindC
    rw [bindC_out fun v hv => (List.nodup_cons.mp nd).1 (List.of_mem_zip hv).1, if_neg hk]
    simp
  | p :: P, w :: vs, i + 1, m, nd, h1, h2, hk => by
    show bindC kindOf ((p, w) :: P.zip vs) m x = _
    unfold bindC
    exact bindC_get (i := i) (List.nodup_cons.mp nd).2 (by simpa using h1) (by simpa using h2) hk

/-- the names' values at the entry -/
def start (N : List Str) (vs : List V) : St := vs.map some ++ List.replicate (N.length - vs.length) none

/-- the context of a def's body, at its entry; an exception leaves the frame, then lies as CX says -/
def cxOf (CX : CXT) (P : Program) (w : World) (K : PySem.W.Frag) (mg : Str → Option Value) (base : Heap) (N : List Str) (qual : Str) (scope : Scope) (f : Addr) (cd : Value) (A : Around) (outer : List Env) (s : Shared) (H : Hp) (E : XK) : Cx where
  prog := P
  w := w
  K := K
  mg := mg
  base := base
  A := A.deeper (envOfC qual scope s.heap.objs.size f cd)
  N := N
  s₀ := s
  H₀ := H
  env := envOfC qual scope s.heap.objs.size f cd
  outer := outer
  stack := envOfC qual scope s.heap.objs.size f cd :: outer
  ex := []
  calm := true
  fn := fun _ => true
  pn := []
  xe := fun e s' => wpAny (model P w) (A.deeper (envOfC qual scope s.heap.objs.size f cd)) (leaving (envOfC qual scope s.heap.objs.size f cd) e) (fun _ s'' => CX outer H s E e s'') (fun e' s'' => CX outer H s E e' s'') s'

theorem cell_has {sc : Scope} {n : Nat} {x : Str} (h : sc.names.lookup x = some .cell) : ∃ c, (cellsFrom n sc.names []).lookup x = some c := by
  have q := PySem.W.cellsFrom_some sc.names n [] (.inl h)
  exact Option.isSome_iff_exists.mp q

theorem inv_start {CX : CXT} {P : Program} {w : World} {K : PySem.W.Frag} {mg : Str → Option Value} {base : Heap} {N ps : List Str} {qual : Str} {scope : Scope} {f : Addr} {cd : Value} {A : Around} {outer : List Env} {s s1 : Shared} {H : Hp} {E : XK} {us : List Value} {vs : List V}
    (S : FnScope N ps scope) (hd : A.handled = none) (e0 : Env0 P w K mg base A outer s H) (hl : vs.length = ps.length) (r : Vals vs us)
    (x : InCallC s s.heap.objs.size (bindL (envOfC qual scope s.heap.objs.size f cd).kindOf (ps.zip us) fun _ => none) (cellsFrom (s.heap.objs.size + 1) scope.names []) (bindC (envOfC qual scope s.heap.objs.size f cd).kindOf (ps.zip us) fun _ => none) s1) :
    Inv (cxOf CX P w K mg base N qual scope f cd A outer s H E) [] (start N vs) H s1 := by
  have hpl : ps.length ≤ N.length := by have := congrArg List.length S.pre; rw [List.length_take] at this; omega
  obtain ⟨h1, tk, rfl, hk⟩ := x.done
  have noA : ∀ b : Addr, b ∉ (cxOf CX P w K mg base N qual scope f cd A outer s H E).ex := fun b z => absurd (show b ∈ ([] : List Addr) from z) (by simp)
  refine ⟨⟨e0.mod, S.kind, rfl, rfl, Nat.le_refl _, fun y z c h1 h2 => ?_, fun y hy => ?_, fun y c _ h => ?_, fun _ => hd, Around.frames_deeper e0.frames, .inr ⟨rfl, rfl⟩, fun b z => absurd z (noA b), e0.bs, e0.bsz, fun b _ _ => noA b, fun b z => absurd z (noA b), e0.funs, e0.frf⟩,
    rfl, e0.bare, Un.kept hk, ⟨_, x.toInCall.ns, fun i y v h1 h2 h3 => ?_⟩, fun y c h => ⟨_, x.cell y c h⟩, e0.hok.fresh (Nat.le_refl _), fun y c h => ?_, fun p hp => absurd (show p ∈ ([] : List (Addr × Obj)) from hp) (by simp), e0.hok.kept hk, ?_⟩
  · exact name_of_addr x.apart (PySem.mem_of_lookup h1) (PySem.mem_of_lookup h2)
  · have hy : scope.names.lookup y = some .cell ∨ scope.names.lookup y = some .free := hy
    rcases hy with hy | hy
    · exact cell_has hy
    · exact absurd rfl (S.nofree _ (PySem.mem_of_lookup hy))
  · exact Nat.le_of_lt (x.above y c (PySem.mem_of_lookup h))
  · have hi : i < vs.length := by
      unfold start at h2
      by_cases hi : i < vs.length
      · exact hi
      · rw [List.getElem?_append_right (by simpa using hi)] at h2
        rw [List.getElem?_replicate] at h2
        split at h2 <;> cases h2
    have ha : vs[i]? = some v := by
      unfold start at h2
      rw [List.getElem?_append_left (by simpa using hi), List.getElem?_map] at h2
      cases e : vs[i]? with
      | none => rw [e] at h2; cases h2
      | some a => rw [e] at h2; cases h2; rfl
    obtain ⟨u, hu, rv⟩ := r.get ha
    have hp : ps[i]? = some y := by
      rw [← S.pre, List.getElem?_take_of_lt (by omega)]; exact h1
    have ndP : ps.Nodup := by rw [← S.pre]; exact S.nd.sublist (List.take_sublist _ _)
    refine ⟨u, rv, ?_⟩
    rcases S.par y (List.mem_of_getElem? hp) with k | k
    · exact .inl ⟨k, bindL_get ndP hp hu k⟩
    · obtain ⟨c, e⟩ := cell_has (n := s.heap.objs.size + 1) k
      refine .inr ⟨.inl k, c, e, ?_⟩
      have q := x.cell y c e
      rw [bindC_get ndP hp hu (by show scope.names.lookup y ≠ _; rw [k]; decide)] at q
      exact q
  · exact e0.hok.fresh (Nat.le_of_lt (x.above y c (PySem.mem_of_lookup h)))
  · unfold start
    show _ = N.length
    rw [List.length_append, List.length_map, List.length_replicate]
    omega

/-- THE RULE: a def (or a method) of the text, by its body. The body's reading t is chosen for each entry; it is run at the parameters' values -/
theorem fn_of {CX : CXT} {P : Program} {w : World} {K : PySem.W.Frag} {mg : Str → Option Value} {base : Heap} {k : Nat} {f : Addr} {name qual : Str} {params : Arguments} {body : List Stmt} {scope : Scope} {dV kV doc pm cdv ct oc : Value} {an od : Option Addr}
    {osl : Array (Option Value)} {N ps : List Str} {sp : Sp} (lk : K.lookup f = some ⟨oc, od, .func (PySem.W.fnOf name qual params body scope dV kV doc pm an cdv ct), osl⟩) (hcd : PySem.W.codeIn K cdv qual = true) (S : FnScope N ps scope)
    (len : ∀ vs H Q E, sp vs H Q E → vs.length = ps.length)
    (hbody : ∀ (A : Around) (outer : List Env) (s : Shared) (H : Hp) (vs : List V) (Q : VK) (E : XK), Room k (A.deeper (envOfC qual scope s.heap.objs.size f cdv)) → sp vs H Q E →
      ∃ t, PSs (cxOf CX P w K mg base N qual scope f cdv A outer s H E) body t ∧ t { nx := fun _ H' => Q .non H', rt := Q } (start N vs) H) :
    FnOk P w K mg base CX (k + 1) f (PySem.W.fnOf name qual params body scope dV kV doc pm an cdv ct) ps sp := by
  refine ⟨len, fun A outer s H args us vs Q E hr e0 hb r hsp => ?_⟩
  have hl := len _ _ _ _ hsp
  have KX : K.In s.heap := e0.mod.kin.keeps fun b o e => (e0.bs b o e).1
  have lim : s.heap.NoLimit := e0.mod.nolimit.keeps fun b o e => (e0.bs b o e).1
  have hkind : ∀ y ∈ ps.zip us, scope.names.lookup y.1 = some .local ∨ (scope.names.lookup y.1 = some .cell ∧ ((cellsFrom (s.heap.objs.size + 1) scope.names []).lookup y.1).isSome = true) := fun ⟨n, v⟩ hy => by
    rcases S.par n (List.of_mem_zip hy).1 with q | q
    · exact .inl q
    · exact .inr ⟨q, PySem.W.cellsFrom_some _ _ _ (.inl q)⟩
  refine codeAny_call_function hr.depth (KX _ _ lk) rfl S.co S.gen rfl (PySem.W.codeRec_of KX hcd) (hb _ _ _ _ ?_)
  refine wpAny_newFunctionEnv_cells S.kind hkind fun env he s1 x => ?_
  subst he
  refine ⟨lim.keeps x.toInCall.keep, codeAny_func ?_⟩
  obtain ⟨t, ht, hq⟩ := hbody A outer s H vs Q E (hr.deeper _) hsp
  have I : Inv (cxOf CX P w K mg base N qual scope f cdv A outer s H E) [] (start N vs) H s1 := inv_start S hr.hd e0 hl r x
  refine wpAny_mono (ht [] s1 (start N vs) H _ I hq) (fun fl s' hs => ?_) fun e s' hs => hs
  have fin : ∀ {σ' : St} {H' : Hp} {v : V} {u : Value}, Inv (cxOf CX P w K mg base N qual scope f cdv A outer s H E) [] σ' H' s' → RelV v u → Q v H' → CE outer P w H s Q u s' :=
    fun {σ' H' v u} J rv q => ⟨v, H', J.os, J.bare, J.base, J.hok, rv, q⟩
  cases fl with
  | ret u =>
    obtain ⟨v, σ', H', J, rv, q⟩ := hs
    exact fin J rv q
  | next =>
    obtain ⟨σ', H', J, q⟩ := hs
    exact fin (v := V.non) (u := Value.none) J rfl q
  | brk =>
    obtain ⟨_, _, _, q⟩ := hs
    exact False.elim q
  | cont =>
    obtain ⟨_, _, _, q⟩ := hs
    exact False.elim q
end L2

namespace L2
open PySem PySem.Spec PyProof.Rows
section
variable {X : Cx} {x : Str} {p pos : Pos} {e : Expr} {es : List Expr} {t : TA} {id T : String} {r : List V → Hp → VK → Prop}

def tCB (r : List V → Hp → VK → Prop) (t : TA) : TE := fun σ H Q => t σ H fun vs H1 => r vs H1 Q
/-- f(e, ..), f a built-in function -/
theorem pe_callB (hc : CallR X (.builtin id) r) (hg : Gl X x) (hm : X.mg x = none) (hv : bootBuiltins x = some (.builtin id)) (ha : PA X (e :: es) t) (hn : x ≠ "__name__" := by decide) (hdb : (x == ("__debug__" : Str)) = false := by decide)
    (he : starEach (e :: es) X.env = (false, eval e X.env) :: starEach es X.env := by rfl) (hpl : (backTo pos (starEach es X.env)).any (·.1) = false := by rfl) : PE X (.Call (.Name x p) (e :: es) [] pos) (tCB r t) := by
  intro pins s σ H Q I h
  refine wpAny_Call_Name_kw (ld_blt I hg hm hv ?_ hn hdb)
  exact PyProof.Rows.callWith_builtin1 (thn (ha pos pins s σ H _ I h) fun us s1 ⟨vs, H1, I1, r1, q1⟩ => hc pins s1 σ H1 vs us Q I1 r1 q1) he hpl
/-- T(e, ..), T a built-in type -/
theorem pe_callTy (hc : CallR X (.type T) r) (hg : Gl X x) (hm : X.mg x = none) (hv : bootBuiltins x = some (.type T)) (ha : PA X (e :: es) t) (hn : x ≠ "__name__" := by decide) (hdb : (x == ("__debug__" : Str)) = false := by decide)
    (he : starEach (e :: es) X.env = (false, eval e X.env) :: starEach es X.env := by rfl) (hpl : (backTo pos (starEach es X.env)).any (·.1) = false := by rfl) : PE X (.Call (.Name x p) (e :: es) [] pos) (tCB r t) := by
  intro pins s σ H Q I h
  refine wpAny_Call_Name_kw (ld_blt I hg hm hv ?_ hn hdb)
  exact PyProof.Rows.callWith_type1 (thn (ha pos pins s σ H _ I h) fun us s1 ⟨vs, H1, I1, r1, q1⟩ => hc pins s1 σ H1 vs us Q I1 r1 q1) he hpl
end
end L2

namespace HT
open PySem PyProof.Rows

section
open PySem.SeqAt
open PySem.AutoSeq1 (wpAny_loadPart')
open PySem.MeetsSeq PySem.MeetsSeq2 PySem.MeetsSeq3

end

section
variable {prog : Program} {w : World} {A : Around} {E : Value → Shared → Prop} {s : Shared}

/-- a slice's bound as a place among n (d where it is left out) -/
def sIx (n d : Nat) : Option Int → Nat
  | none => d
  | some v => if v < 0 then (v + (n : Int)).toNat else min v.toNat n
end
end HT

namespace L2
open PySem PySem.Spec PyProof.Rows

abbrev TO := St → Hp → (Option Int → Hp → Prop) → Prop
/-- a slice's part (left out, or an int) -/
def PO (X : Cx) (e : Option Expr) (t : TO) : Prop :=
  ∀ (pins : List (Addr × Obj)) (s : Shared) (σ : St) (H : Hp) (Q : Option Int → Hp → Prop), Inv X pins σ H s → t σ H Q →
    wpAny (model X.prog X.w) X.A (evalPart e X.env) (fun u s' => ∃ o H', Inv X pins σ H' s' ∧ IsPart u o ∧ Q o H') X.xe s
def tNoPart : TO := fun _ H Q => Q none H
def tPart (t : TE) : TO := fun σ H Q => t σ H fun x H1 => ∃ i, x = .int i ∧ Q (some i) H1

section
variable {X : Cx} {e : Expr} {te : TE} {lo hi : Option Expr} {tl th : TO} {pos p2 : Pos}

theorem po_none : PO X none tNoPart := by
  intro pins s σ H Q I h
  rw [evalPart_none]
  exact wpAny_pure ⟨none, H, I, .none, h⟩
theorem po_some (h : PE X e te) : PO X (some e) (tPart te) := by
  intro pins s σ H Q I hw
  rw [evalPart_some]
  refine thn (h pins s σ H _ I hw) fun u s1 ⟨x, H1, I1, r1, q1⟩ => ?_
  obtain ⟨i, rfl, q⟩ := q1
  obtain ⟨t, rfl⟩ := r1
  exact ⟨some i, H1, I1, .int i t, q⟩

/-- what a slice of a value is, by values: the slice object stands at sl -/
def SlR (X : Cx) (r : V → Option Int → Option Int → Hp → VK → Prop) : Prop :=
  ∀ (pins : List (Addr × Obj)) (s : Shared) (σ : St) (H : Hp) (x : V) (v vl vu : Value) (lo hi : Option Int) (sl : Addr) (Q : VK), Inv X pins σ H s → RelV x v → s.heap.IsSliceOf sl vl vu .none → IsPart vl lo → IsPart vu hi → r x lo hi H Q →
    ∃ T id, typeLookup (.type T) "__getitem__" = pure (some (.builtin id)) ∧ s.TypeIs v T ∧ wpAny (model X.prog X.w) X.A (getItem v (.ref sl)) (EP X pins σ Q) X.xe s
def tSl (r : V → Option Int → Option Int → Hp → VK → Prop) (te : TE) (tl th : TO) : TE := fun σ H Q => te σ H fun x H1 => tl σ H1 fun l H2 => th σ H2 fun u H3 => r x l u H3 Q
/-- a[lo:hi], any a -/
theorem pe_slice {r : V → Option Int → Option Int → Hp → VK → Prop} (hr : SlR X r) (he : PE X e te) (hl : PO X lo tl) (hu : PO X hi th) : PE X (.Subscript e (.Slice lo hi none p2) pos) (tSl r te tl th) := by
  intro pins s σ H Q I h
  refine Subscript_ (thn (he pins s σ H _ I h) fun v s1 ⟨x, H1, I1, r1, q1⟩ => ?_)
  refine wpAny_Slice (thn (hl pins s1 σ H1 _ I1 q1) fun vl s2 ⟨l, H2, I2, pl, q2⟩ => thn (hu pins s2 σ H2 _ I2 q2) fun vu s3 ⟨u, H3, I3, pu, q3⟩ => ?_)
  rw [evalPart_none]
  refine wpAny_pure ?_
  have I4 : Inv X pins σ H3 { s3 with heap := s3.heap.push { cls := .type "slice", data := .fields #[vl, vu, .none] } } := I3.kept (t' := s3.toks) fun b ob q => Heap.get?_push_of_some _ q
  obtain ⟨T, id, hT, ht, hg⟩ := hr pins { s3 with heap := s3.heap.push { cls := .type "slice", data := .fields #[vl, vu, .none] } } σ H3 x v vl vu l u s3.heap.objs.size Q I4 r1 (Heap.IsSliceOf.new ..) pl pu q3
  show wpAny (model X.prog X.w) X.A (subscriptTail e (.Slice lo hi none p2) v (.ref s3.heap.objs.size)) (EP X pins σ Q) X.xe { s3 with heap := s3.heap.push { cls := .type "slice", data := .fields #[vl, vu, .none] } }
  exact tail_any (ops := [.ref s3.heap.objs.size, v]) ht hT hg (by with_unfolding_all rfl)

/-- the items of xs[lo:hi] -/
def cutV (xs : List V) (lo hi : Option Int) : List V := (xs.drop (HT.sIx xs.length 0 lo)).take (HT.sIx xs.length xs.length hi - HT.sIx xs.length 0 lo)
theorem cutV_length (xs : List V) (lo hi : Option Int) : (cutV xs lo hi).length ≤ xs.length := by
  unfold cutV
  rw [List.length_take, List.length_drop]
  omega
end
end L2

namespace L2
open PySem PySem.Spec PyProof.Rows

/-- the place that an index of any sign means -/
def ixN (n : Nat) (i : Int) : Option Nat := if 0 ≤ i then (if i < n then some i.toNat else none) else if -(n : Int) ≤ i then some (i + n).toNat else none
def atI {α : Type} (xs : List α) (i : Int) : Option α := (ixN xs.length i).bind fun j => xs[j]?
theorem ixN_seq {n : Nat} {i : Int} {j : Nat} (h : ixN n i = some j) : seqIndex? i n = some j ∧ j < n ∧ -(n : Int) ≤ i ∧ i < n := by
  unfold ixN at h
  by_cases h0 : 0 ≤ i
  · rw [if_pos h0] at h
    by_cases h1 : i < n
    · rw [if_pos h1] at h
      have e : i.toNat = j := Option.some.inj h
      exact ⟨by rw [seqIndex_of h0 h1, e], by omega, by omega, h1⟩
    · rw [if_neg h1] at h; cases h
  · rw [if_neg h0] at h
    by_cases h1 : -(n : Int) ≤ i
    · rw [if_pos h1] at h
      have e : (i + n).toNat = j := Option.some.inj h
      exact ⟨by rw [seqIndex_neg (by omega) h1, e], by omega, h1, by omega⟩
    · rw [if_neg h1] at h; cases h
theorem atI_get {α : Type} {xs : List α} {i : Int} {v : α} (h : atI xs i = some v) : ∃ j, seqIndex? i xs.length = some j ∧ xs[j]? = some v ∧ j < xs.length ∧ -(xs.length : Int) ≤ i ∧ i < xs.length := by
  unfold atI at h
  cases e : ixN xs.length i with
  | none => rw [e] at h; cases h
  | some j =>
    rw [e] at h
    obtain ⟨h1, h2, h3, h4⟩ := ixN_seq e
    exact ⟨j, h1, h, h2, h3, h4⟩
theorem atI_nat {α : Type} {xs : List α} {j : Nat} {v : α} (h : xs[j]? = some v) : atI xs (j : Int) = some v := by
  have hj : j < xs.length := (List.getElem?_eq_some_iff.mp h).1
  have e : ixN xs.length (j : Int) = some j := by
    unfold ixN
    rw [if_pos (by omega), if_pos (by omega)]; simp
  unfold atI; rw [e]; exact h
/-- what stands as an index of a plain subscript -/
def PlainIx (b : Expr) : Prop := ∀ o i, subscripted b false o i = operate [o, i] (getItem o i)
/-- a subscript by values -/
def IxR (X : Cx) (r : R2) : Prop :=
  ∀ (value slice : Expr) (pins : List (Addr × Obj)) (s : Shared) (σ : St) (H : Hp) (x y : V) (v u : Value) (Q : VK), Inv X pins σ H s → RelV x v → RelV y u → r x y H Q →
    subscripted slice false v u = operate [v, u] (getItem v u) → wpAny (model X.prog X.w) X.A (subscriptTail value slice v u) (EP X pins σ Q) X.xe s
/-- a call of a builtin's method by values: the receiver, the arguments -/
def MtR (X : Cx) (id : String) (r : V → List V → Hp → VK → Prop) : Prop :=
  ∀ (pins : List (Addr × Obj)) (s : Shared) (σ : St) (H : Hp) (x : V) (xs : List V) (v : Value) (us : List Value) (Q : VK), Inv X pins σ H s → RelV x v → Vals xs us → r x xs H Q →
    wpAny (model X.prog X.w) X.A (call (.builtin id) (v :: us)) (EP X pins σ Q) X.xe s
section
variable {X : Cx} {a b : Expr} {ta tb : TE} {pos : Pos}
/-- a[b] -/
theorem pe_ix {r : R2} (hr : IxR X r) (ha : PE X a ta) (hb : PE X b tb) (hs : PlainIx b) : PE X (.Subscript a b pos) (tOp r ta tb) := by
  intro pins s σ H Q I h
  exact Subscript_ (binT ha hb I h fun v u s2 x y H2 I2 rx ry q => hr a b pins s2 σ H2 x y v u Q I2 rx ry q (hs _ _))

def rIxL (K : PySem.W.Frag) : R2 := fun x y H Q => ∃ p xs i v, x = .ref p ∧ y = .int i ∧ SqL K H p xs ∧ atI xs i = some v ∧ Q v H
def rIxT (K : PySem.W.Frag) : R2 := fun x y H Q => ∃ p xs i v, x = .ref p ∧ y = .int i ∧ SqT K H p xs ∧ atI xs i = some v ∧ Q v H
def rIxS : R2 := fun x y H Q => ∃ z i c, x = .str z ∧ y = .int i ∧ z.length ≤ sizeLine ∧ atI z.cps.toList i = some c ∧ Q (.str ⟨#[c]⟩) H
theorem ix_list : IxR X (rIxL X.K) := by
  intro value slice pins s σ H x y v u Q I rx ry h hs
  obtain ⟨p, xs, i, z, rfl, rfl, hq, he, q⟩ := h
  cases rx
  obtain ⟨t, rfl⟩ := ry
  obtain ⟨its, r, pl, hz⟩ := I.list hq
  obtain ⟨j, h1, h2, h3, h4, h5⟩ := atI_get he
  obtain ⟨w, ew, rw'⟩ := r.get h2
  have hl := r.length
  have hn := line63
  have fin : EP X pins σ Q w s := ⟨z, H, I, rw', q⟩
  by_cases h0 : 0 ≤ i
  · have hj : i.toNat = j := by
      rw [seqIndex_of h0 h5] at h1
      exact Option.some.inj h1
    exact item_listR pl.isList h0 (by omega) (by rw [hj]; simpa using ew) fin hs
  · have hj : (i + (its.toArray.size : Int)).toNat = j := by
      rw [seqIndex_neg (by omega) h4] at h1
      rw [List.size_toArray, ← hl]
      exact Option.some.inj h1
    exact subscriptTail_builtinR (x := w) pl.isList.typeIs slot_list_getitem.lookup
      (wpAny_getItem_list_neg (Q := fun r s' => r = w ∧ EP X pins σ Q r s') pl.isList (by omega) (by rw [List.size_toArray] <;> omega) (by omega) (by rw [hj]; simpa using ew) ⟨rfl, fin⟩) hs
theorem ix_tup : IxR X (rIxT X.K) := by
  intro value slice pins s σ H x y v u Q I rx ry h hs
  obtain ⟨p, xs, i, z, rfl, rfl, hq, he, q⟩ := h
  cases rx
  obtain ⟨t, rfl⟩ := ry
  obtain ⟨its, r, pl, hz⟩ := I.tuple hq
  obtain ⟨j, h1, h2, h3, h4, h5⟩ := atI_get he
  obtain ⟨w, ew, rw'⟩ := r.get h2
  have hl := r.length
  have hn := line63
  have fin : EP X pins σ Q w s := ⟨z, H, I, rw', q⟩
  exact subscriptTail_builtinR (x := w) pl.typeIs slot_tuple_getitem.lookup
    (getItem_tuple (j := j) (Q := fun r s' => r = w ∧ EP X pins σ Q r s') pl (by omega) (by omega) (by rw [List.size_toArray, ← hl]; exact h1) (by simpa using ew) ⟨rfl, fin⟩) hs
theorem ix_str : IxR X rIxS := by
  intro value slice pins s σ H x y v u Q I rx ry h hs
  obtain ⟨z, i, c, rfl, rfl, hz, he, q⟩ := h
  obtain ⟨t, rfl⟩ := rx
  obtain ⟨t', rfl⟩ := ry
  obtain ⟨j, h1, h2, h3, h4, h5⟩ := atI_get he
  have hl : z.cps.toList.length = z.length := by simp [Str.length]
  rw [hl] at h1 h4 h5
  have hn := line63
  exact tail_any (typeIs_str s z t) slot_str_getitem.lookup (getItem_str (c := c) (by
    have e1 : decide (i < -(2 ^ 63 : Int)) = false := decide_eq_false (by omega)
    have e2 : decide (i ≥ 2 ^ 63) = false := decide_eq_false (by omega)
    rw [e1, e2, Bool.or_false]) (by rw [h1]; simpa using h2) ⟨.str ⟨#[c]⟩, H, I.tok _, ⟨_, rfl⟩, q⟩) hs
/-- the list's object behind a store -/
theorem mapSeq_set (its : List Value) (n j : Nat) (u : Value) : Obj.mapSeq (·.setIfInBounds j u) { cls := .type "list", data := .seq its.toArray n } = { cls := .type "list", data := .seq (its.set j u).toArray n } := by
  simp [Obj.mapSeq]
theorem Inv.lst {pins : List (Addr × Obj)} {σ : St} {H : Hp} {s : Shared} {p : Addr} {xs : List V} (I : Inv X pins σ H s) (h : H p = some (.lst xs)) :
    ∃ (its : List Value) (n : Nat), Vals xs its ∧ s.heap.get? p = some { cls := .type "list", data := .seq its.toArray n } ∧ xs.length ≤ sizeLine := by
  obtain ⟨z, its, n, r, e⟩ := I.hok p _ h
  exact ⟨its, n, r, e, z⟩
/-- the list at p is written by an update of its object -/
theorem Inv.lstUpd {pins : List (Addr × Obj)} {σ : St} {H : Hp} {s : Shared} {p : Addr} {xs ys : List V} {its its' : List Value} {n n' : Nat} {f : Obj → Obj} (I : Inv X pins σ H s) (h : H p = some (.lst xs))
    (ho : s.heap.get? p = some { cls := .type "list", data := .seq its.toArray n }) (hf : f { cls := .type "list", data := .seq its.toArray n } = { cls := .type "list", data := .seq its'.toArray n' }) (r : Vals ys its') (hz : ys.length ≤ sizeLine) (t : Nat) :
    Inv X pins σ (upd H p (.lst ys)) { s with heap := s.heap.update p f, toks := t } := by
  have e : (s.heap.update p f).get? p = some { cls := .type "list", data := .seq its'.toArray n' } := by
    rw [Heap.get?_update_self f ho (by rw [hf] <;> rfl), hf]
  refine I.write (x := p) (e := p) (by rw [h]; trivial) (.inl rfl) (fun b u hb q => (Heap.get?_update_other _ _ (Ne.symm hb)).trans q) ⟨_, e⟩ ?_
  exact ⟨hz, its', n', r, e⟩
def rSetL : V → V → V → Hp → (Hp → Prop) → Prop := fun o i v H Q => ∃ p xs k j, o = .ref p ∧ i = .int k ∧ H p = some (.lst xs) ∧ ixN xs.length k = some j ∧ Q (upd H p (.lst (xs.set j v)))
theorem set_list : PSet X rSetL := by
  intro pins s σ H o i v ov iv u Q I ro ri rv h
  obtain ⟨p, xs, k, j, rfl, rfl, hp, hj, q⟩ := h
  cases ro
  obtain ⟨t, rfl⟩ := ri
  obtain ⟨its, n, r, ho, hz⟩ := I.lst hp
  obtain ⟨h1, h2, h3, h4⟩ := ixN_seq hj
  have hl := r.length
  have hn := line63
  have I' : Inv X pins σ (upd H p (.lst (xs.set j v))) { s with heap := s.heap.update p (Obj.mapSeq (·.setIfInBounds j u)) } :=
    I.lstUpd hp ho (mapSeq_set its n j u) (r.set rv j) (by rw [List.length_set]; exact hz) s.toks
  by_cases h0 : 0 ≤ k
  · have hk : k.toNat = j := by
      rw [seqIndex_of h0 h4] at h1
      exact Option.some.inj h1
    exact PySem.W.ki_setAt ho h0 (by omega) (by rw [List.size_toArray, ← hl]; exact h4) (by rw [hk]; exact ⟨_, I', q⟩)
  · have hk : (k + (its.toArray.size : Int)).toNat = j := by
      rw [seqIndex_neg (by omega) h3] at h1
      rw [List.size_toArray, ← hl]
      exact Option.some.inj h1
    exact PySem.W.ki_setBack ho (by omega) (by rw [List.size_toArray, ← hl]; exact h3) (by omega) (by rw [hk]; exact ⟨_, I', q⟩)

theorem slice_bounds (lo hi : Option Int) (n : Nat) : (sliceBounds lo hi none n).1 = ((HT.sIx n 0 lo : Nat) : Int) ∧ (sliceBounds lo hi none n).2.1 = ((HT.sIx n n hi : Nat) : Int) ∧ (sliceBounds lo hi none n).2.2 = 1 := by
  refine ⟨?_, ?_, rfl⟩
  · cases lo with
    | none => simp [sliceBounds, HT.sIx]
    | some i =>
      simp only [sliceBounds, HT.sIx, Option.getD_none, show (1 : Int) > 0 by decide, if_true]
      by_cases h : i < 0
      · simp only [h, if_true] <;> omega
      · simp only [h, if_false] <;> omega
  · cases hi with
    | none => simp [sliceBounds, HT.sIx]
    | some i =>
      simp only [sliceBounds, HT.sIx, Option.getD_none, show (1 : Int) > 0 by decide, if_true]
      by_cases h : i < 0
      · simp only [h, if_true] <;> omega
      · simp only [h, if_false] <;> omega
theorem slicePick_cut (its : List Value) (lo hi : Option Int) : slicePick its.toArray lo hi none = ((its.drop (HT.sIx its.length 0 lo)).take (HT.sIx its.length its.length hi - HT.sIx its.length 0 lo)).toArray := by
  obtain ⟨h1, h2, h3⟩ := slice_bounds lo hi its.toArray.size
  unfold slicePick
  rw [h1, h2, h3]
  simp only [sliceRange_one, pick_run, List.size_toArray] <;> rfl
/-- xs[lo:hi] of a list: a new list -/
def rSlL (K : PySem.W.Frag) : V → Option Int → Option Int → Hp → VK → Prop := fun x lo hi H Q => ∃ a xs, x = .ref a ∧ SqL K H a xs ∧ ∀ p, H p = none → Q (.ref p) (upd H p (.lst (cutV xs lo hi)))
theorem sl_list : SlR X (rSlL X.K) := by
  intro pins s σ H x v vl vu lo hi sl Q I rx hs pl pu h
  obtain ⟨a, xs, rfl, hx, q⟩ := h
  cases rx
  obtain ⟨its, r, ht, hz⟩ := I.list hx
  have hlen := r.length
  refine ⟨"list", _, slot_list_getitem.lookup, ht.isList.typeIs, ?_⟩
  refine wpAny_getItem_list_slice ht.isList hs pl pu .none (by simp) ?_ (by rw [List.size_toArray] <;> omega)
  rw [slicePick_cut, ← hlen]
  refine ⟨.ref s.heap.objs.size, _, I.laid (t' := s.toks) (o := .lst (cutV xs lo hi)) (fun b ob q => Heap.get?_push_of_some _ q) (Nat.le_refl _) ?_, rfl, q _ (I.hok.fresh (Nat.le_refl _))⟩
  exact ⟨Nat.le_trans (cutV_length xs lo hi) hz, _, 0, (r.drop (HT.sIx xs.length 0 lo)).take (HT.sIx xs.length xs.length hi - HT.sIx xs.length 0 lo), Heap.get?_push_size _ rfl⟩

def flatV : V → Bool
  | .non => true
  | .bl _ => true
  | .int _ => true
  | .str _ => true
  | _ => false
/-- == of flat values -/
def eqV : V → V → Bool
  | .non, .non => true
  | .bl a, .bl b => a == b
  | .bl a, .int b => (if a then 1 else 0) == b
  | .int a, .bl b => a == (if b then 1 else 0)
  | .int a, .int b => a == b
  | .str a, .str b => a == b
  | _, _ => false
theorem eqAt_V {A : Around} {s : Shared} {y x : V} {u v : Value} (ry : RelV y u) (rx : RelV x v) (fy : flatV y = true) (fx : flatV x = true) : SeqAt.EqAt A s u v (eqV y x) := by
  cases y with
  | non =>
    cases ry
    cases x with
    | non => cases rx; exact SeqAt.EqAt.same _
    | bl b => cases rx; exact SeqAt.EqAt.none_bool b
    | int b => obtain ⟨t, rfl⟩ := rx; exact SeqAt.EqAt.none_int b t
    | str b => obtain ⟨t, rfl⟩ := rx; exact SeqAt.EqAt.none_str b t
    | _ => exact absurd (show false = true from fx) Bool.false_ne_true
  | bl a =>
    cases ry
    cases x with
    | non => cases rx; exact SeqAt.EqAt.bool_none a
    | bl b => cases rx; exact SeqAt.EqAt.bool_bool a b
    | int b => obtain ⟨t, rfl⟩ := rx; exact SeqAt.EqAt.bool_int a b t
    | str b => obtain ⟨t, rfl⟩ := rx; exact SeqAt.EqAt.bool_str a b t
    | _ => exact absurd (show false = true from fx) Bool.false_ne_true
  | int a =>
    obtain ⟨t', rfl⟩ := ry
    cases x with
    | non => cases rx; exact SeqAt.EqAt.int_none a t'
    | bl b => cases rx; exact SeqAt.EqAt.int_bool a t' b
    | int b => obtain ⟨t, rfl⟩ := rx; exact SeqAt.EqAt.int_int a t' b t
    | str b => obtain ⟨t, rfl⟩ := rx; exact SeqAt.EqAt.int_str a t' b t
    | _ => exact absurd (show false = true from fx) Bool.false_ne_true
  | str a =>
    obtain ⟨t', rfl⟩ := ry
    cases x with
    | non => cases rx; exact SeqAt.EqAt.str_none a t'
    | bl b => cases rx; exact SeqAt.EqAt.str_bool a t' b
    | int b => obtain ⟨t, rfl⟩ := rx; exact SeqAt.EqAt.str_int a t' b t
    | str b => obtain ⟨t, rfl⟩ := rx; exact SeqAt.EqAt.str_str a t' b t
    | _ => exact absurd (show false = true from fx) Bool.false_ne_true
  | _ => exact absurd (show false = true from fy) Bool.false_ne_true
/-- the items' answers, read off the values (a value's own answer does not lean on its token) -/
def eqU (x : V) (u : Value) : Bool := match u with
  | .none => eqV .non x
  | .bool b => eqV (.bl b) x
  | .int i _ => eqV (.int i) x
  | .str z _ => eqV (.str z) x
  | _ => false
theorem eqU_of {x y : V} {u : Value} (r : RelV y u) (f : flatV y = true) : eqU x u = eqV y x := by
  cases y with
  | non => cases r; rfl
  | bl b => cases r; rfl
  | int i => obtain ⟨t, rfl⟩ := r; rfl
  | str z => obtain ⟨t, rfl⟩ := r; rfl
  | _ => exact absurd (show false = true from f) Bool.false_ne_true
theorem any_eqU {x : V} : ∀ {xs : List V} {us : List Value}, Vals xs us → xs.all flatV = true → us.any (eqU x) = xs.any fun y => eqV y x
  | _, _, .nil, _ => rfl
  | y :: xs, u :: us, .cons r t, f => by
    rw [List.all_cons, Bool.and_eq_true] at f
    rw [List.any_cons, List.any_cons, eqU_of r f.1, any_eqU t f.2]
theorem mem_eqAt {A : Around} {s : Shared} {x : V} {v : Value} (rx : RelV x v) (fx : flatV x = true) : ∀ {xs : List V} {us : List Value}, Vals xs us → xs.all flatV = true → ∀ u ∈ us, SeqAt.EqAt A s u v (eqU x u)
  | _, _, .nil, _ => fun u hu => by cases hu
  | y :: xs, u :: us, .cons r t, f => fun u' hu => by
    rw [List.all_cons, Bool.and_eq_true] at f
    rcases List.mem_cons.mp hu with rfl | hu
    · rw [eqU_of r f.1]; exact eqAt_V r rx f.1 fx
    · exact mem_eqAt rx fx t f.2 u' hu
def inV (x : V) (xs : List V) : Bool := xs.any fun y => eqV y x
/-- x in a list or tuple of flat items -/
def rIn (K : PySem.W.Frag) (neg : Bool) : R2 := fun x y H Q => ∃ p xs, y = .ref p ∧ (SqL K H p xs ∨ SqT K H p xs) ∧ flatV x = true ∧ xs.all flatV = true ∧ Q (.bl (if neg then !inV x xs else inV x xs)) H
theorem op_in_seq : OpR X (compareOp .In) (rIn X.K false) := by
  intro pins s σ H x y v u Q I rx ry h
  obtain ⟨p, xs, rfl, hq, fx, fs, q⟩ := h
  cases ry
  rcases hq with hq | hq
  · obtain ⟨its, r, pl, hz⟩ := I.list hq
    refine SeqAt.in_listAt (eqU x) pl.isList (fun w hw => mem_eqAt rx fx r fs w (by simpa using hw)) ⟨.bl _, H, I, rfl, ?_⟩
    rw [show its.toArray.any (eqU x) = its.any (eqU x) by simp, any_eqU r fs]
    exact q
  · obtain ⟨its, r, pl, hz⟩ := I.tuple hq
    refine SeqAt.in_tupleAt (eqU x) pl (fun w hw => mem_eqAt rx fx r fs w (by simpa using hw)) ⟨.bl _, H, I, rfl, ?_⟩
    rw [show its.toArray.any (eqU x) = its.any (eqU x) by simp, any_eqU r fs]
    exact q
theorem op_notIn_str : OpR X (compareOp .NotIn) (fun x y H Q => ∃ i j, x = .str i ∧ y = .str j ∧ Q (.bl (!(!(Builtin.Str.occurrences j i 0 j.length 1).isEmpty))) H) := by
  intro pins s σ H x y v u Q I rx ry h
  obtain ⟨i, j, rfl, rfl, q⟩ := h
  obtain ⟨t, rfl⟩ := rx
  obtain ⟨t', rfl⟩ := ry
  exact notIn_str ⟨.bl _, H, I, rfl, q⟩

/-- the value is of that builtin type -/
def tyV (K : PySem.W.Frag) (T : String) (x : V) (H : Hp) : Prop := match x with
  | .str _ => T = "str"
  | .int _ => T = "int"
  | .ref p => (T = "list" ∧ ∃ xs, SqL K H p xs) ∨ (T = "tuple" ∧ ∃ o, K.lookup p = some o ∧ o.cls = .type "tuple" ∧ o.dict = none) ∨
      (T = "dict" ∧ ((∃ kvs, H p = some (.dK kvs)) ∨ ∃ kvs, H p = some (.dT kvs))) ∨ (T = "set" ∧ ∃ S n, H p = some (.set S n))
  | _ => False
theorem tyV_is {pins : List (Addr × Obj)} {σ : St} {H : Hp} {s : Shared} {T : String} {x : V} {v : Value} (I : Inv X pins σ H s) (r : RelV x v) (ty : tyV X.K T x H) :
    s.TypeIs v T ∧ ∀ a, v = .ref a → ∃ ob, s.heap.get? a = some ob ∧ ob.dict = none := by
  cases x with
  | str z =>
    obtain ⟨t, rfl⟩ := r
    cases (show T = "str" from ty)
    exact ⟨typeIs_str s z t, fun _ e => nomatch e⟩
  | int i =>
    obtain ⟨t, rfl⟩ := r
    cases (show T = "int" from ty)
    exact ⟨typeIs_int s i t, fun _ e => nomatch e⟩
  | ref p =>
    cases r
    rcases ty with ⟨rfl, xs, hq⟩ | ⟨rfl, o, hk, hc, hd⟩ | ⟨rfl, hk⟩ | ⟨rfl, S, n, hk⟩
    · obtain ⟨its, _, pl, _⟩ := I.list hq
      refine ⟨pl.isList.typeIs, fun a e => ?_⟩
      cases e
      obtain ⟨o, n, e, c, hd, _⟩ := pl
      exact ⟨o, e, hd⟩
    · refine ⟨⟨o, I.kIn p o hk, hc⟩, fun a e => ?_⟩
      cases e
      exact ⟨o, I.kIn _ o hk, hd⟩
    · have z : ∃ o, s.heap.get? p = some o ∧ o.ExactDict := by
        rcases hk with ⟨kvs, hk⟩ | ⟨kvs, hk⟩
        · obtain ⟨_, _, _, _, o, _, _, e, ex, _⟩ := I.hok p _ hk
          exact ⟨o, e, ex⟩
        · obtain ⟨_, _, _, _, o, _, _, e, ex, _⟩ := I.hok p _ hk
          exact ⟨o, e, ex⟩
      obtain ⟨o, e, ex⟩ := z
      refine ⟨⟨o, e, ex.1⟩, fun a e2 => ?_⟩
      cases e2
      exact ⟨o, e, ex.2.1⟩
    · obtain ⟨o, _, _, _, e, ex, _⟩ := I.hok p _ hk
      refine ⟨⟨o, e, ex.1⟩, fun a e2 => ?_⟩
      cases e2
      exact ⟨o, e, ex.2.1⟩
  | _ => exact False.elim ty
def tBM (K : PySem.W.Frag) (T : String) (r : V → List V → Hp → VK → Prop) (to : TE) (t : TA) : TE := fun σ H Q => to σ H fun x H1 => tyV K T x H1 ∧ t σ H1 fun xs H2 => r x xs H2 Q
variable {o e : Expr} {es : List Expr} {to : TE} {t : TA} {name : Str} {apos cpos : Pos} {T id : String} {r : V → List V → Hp → VK → Prop}
theorem pe_bm (pa : PlainAttrs T) (slot : Slot T name id) (hty : typeOf (.builtin id) = pure (.type "method_descriptor")) (hm : MtR X id r) (ho : PE X o to) (ha : PA X (e :: es) t)
    (hbase : attributeBase o name X.env (eval o X.env) = eval o X.env := by rfl)
    (hfew : ((backTo cpos (starEach (e :: es) X.env)).all (fun x => !x.1) && (backToKw cpos (keywordEach [] X.env)).all (fun x => x.1.isSome)
      && decide ((e :: es).length + ([] : List Keyword).length + (if ([] : List Keyword).isEmpty then 0 else 1) < 30)) = true := by rfl)
    (hline : (apos.endLine == cpos.line) = true := by rfl) (hs : starEach (e :: es) X.env = (false, eval e X.env) :: starEach es X.env := by rfl) (hplain : (backTo cpos (starEach es X.env)).any (·.1) = false := by rfl) :
    PE X (.Call (.Attribute o name apos) (e :: es) [] cpos) (tBM X.K T r to t) := by
  intro pins s σ H Q I h
  refine wpAny_Call_method_late hbase hfew hline rfl (thn (ho pins s σ H _ I h) fun v s1 ⟨x, H1, I1, r1, ty, q1⟩ => ?_)
  obtain ⟨h1, h2⟩ := tyV_is I1 r1 ty
  refine ⟨T, id, pa, slot, hty, h1, h2, ?_⟩
  have hA := ha cpos pins s1 σ H1 _ I1 q1
  rw [hs] at hA ⊢
  refine Calls.callWith_builtin (by show (false || (backTo cpos (starEach es X.env)).any (·.1)) = false; rw [hplain] <;> rfl) (Calls.evalArgs_plain ?_)
  exact thn hA fun us s2 ⟨vs, H2, I2, r2, q2⟩ => hm pins s2 σ H2 x vs v us Q I2 r1 r2 q2
/- xs.append(e), list.index on a module's tuple .. are MtR facts of 06m -/
end
end L2

namespace L2
open PySem PySem.Spec PyProof.Rows

def MtM (X : Cx) (id : String) (r : V → List V → Hp → VK → Prop) : Prop :=
  ∀ (pins : List (Addr × Obj)) (s : Shared) (σ : St) (H : Hp) (x : V) (xs : List V) (v : Value) (us : List Value) (Q : VK), Inv X pins σ H s → RelV x v → Vals xs us → r x xs H Q →
    wpAny (model X.prog X.w) X.A (call (.builtin id) (v :: us)) (EP X pins σ Q) X.xe s

theorem Vals.one : ∀ {x : V} {us : List Value}, Vals [x] us → ∃ u, us = [u] ∧ RelV x u
  | _, _, .cons r .nil => ⟨_, rfl, r⟩
theorem Vals.two : ∀ {x y : V} {us : List Value}, Vals [x, y] us → ∃ u v, us = [u, v] ∧ RelV x u ∧ RelV y v
  | _, _, _, .cons r (.cons q .nil) => ⟨_, _, rfl, r, q⟩
section
variable {X : Cx} {pins : List (Addr × Obj)} {σ : St} {H : Hp} {s : Shared} {l b : Addr} {xs ys zs : List V}

theorem Inv.lset {its its' : List Value} {n : Nat} {f : Array Value → Array Value} {t' : Nat} (I : Inv X pins σ H s) (hH : H l = some (.lst xs))
    (e : s.heap.get? l = some { cls := .type "list", data := .seq its.toArray n }) (hf : f its.toArray = its'.toArray) (hv : Vals ys its') (hz : ys.length ≤ sizeLine) :
    Inv X pins σ (upd H l (.lst ys)) { s with heap := s.heap.update l (Obj.mapSeq f), toks := t' } := by
  have q := PySem.IsL.update e f
  rw [hf] at q
  refine I.write (x := l) (e := l) (by rw [hH]; exact trivial) (.inl rfl) (fun b' u hb hu => (Heap.get?_update_other s.heap (Obj.mapSeq f) (Ne.symm hb)).trans hu) ⟨_, q⟩ ?_
  exact ⟨hz, its', _, hv, q⟩
theorem Inv.lnew {its : List Value} {t' : Nat} (I : Inv X pins σ H s) (hv : Vals ys its) (hz : ys.length ≤ sizeLine) :
    Inv X pins σ (upd H s.heap.objs.size (.lst ys)) { s with heap := s.heap.push { cls := .type "list", data := .seq its.toArray }, toks := t' } :=
  I.laid (fun _ _ q => Heap.get?_push_of_some _ q) (Nat.le_refl _) ⟨hz, its, 0, hv, Heap.get?_push_size _ rfl⟩
theorem Inv.fresh (I : Inv X pins σ H s) : H s.heap.objs.size = none := I.hok.fresh (Nat.le_refl _)
theorem Inv.lstM (I : Inv X pins σ H s) (hH : H l = some (.lst xs)) : xs.length ≤ sizeLine ∧ ∃ (its : List Value) (n : Nat), Vals xs its ∧ xs.length = its.length ∧ s.heap.get? l = some { cls := .type "list", data := .seq its.toArray n } := by
  obtain ⟨z, its, n, r, e⟩ := I.hok l _ hH
  exact ⟨z, its, n, r, r.length, e⟩

end

section
variable {X : Cx}

def rAppend : V → List V → Hp → VK → Prop := fun x vs H Q => ∃ l xs y, x = .ref l ∧ vs = [y] ∧ H l = some (.lst xs) ∧ xs.length < sizeLine ∧ Q .non (upd H l (.lst (xs ++ [y])))
theorem mt_append : MtM X "list.append" rAppend := by
  intro pins s σ H x vs v us Q I rx rv h
  obtain ⟨l, xs, y, rfl, rfl, hH, hz, q⟩ := h
  cases rx
  obtain ⟨u, rfl, ru⟩ := rv.one
  obtain ⟨z, its, n, r, hl, e⟩ := I.lstM hH
  refine call_meets F.slot_list_append ⟨_, e, rfl⟩ F.entry_list_append (F.args_list_append_2 _ _) (PySem.list_append l its.toArray n u (by rw [List.size_toArray]; omega)) ⟨e, ?_⟩
  refine ⟨.non, _, I.lset (its' := its ++ [u]) hH e (by simp) (r.append (.cons ru .nil)) ?_, rfl, q⟩
  rw [List.length_append, List.length_singleton]
  omega

def rCat : R2 := fun x y H Q => ∃ l b xs zs, x = .ref l ∧ y = .ref b ∧ H l = some (.lst xs) ∧ H b = some (.lst zs) ∧ xs.length + zs.length ≤ sizeLine ∧ ∀ p, H p = none → Q (.ref p) (upd H p (.lst (xs ++ zs)))
theorem op_cat : OpR X (binaryOp .Add) rCat := by
  intro pins s σ H x y v u Q I rx ry h
  obtain ⟨l, b, xs, zs, rfl, rfl, hH, hB, hz, q⟩ := h
  cases rx
  cases ry
  obtain ⟨z, its, n, r, hl, e⟩ := I.lstM hH
  obtain ⟨z2, its2, n2, r2, hl2, e2⟩ := I.lstM hB
  refine PySem.P.add_list e e2 ?_ (by rw [List.size_toArray, List.size_toArray]; omega)
  have ea : its.toArray ++ its2.toArray = (its ++ its2).toArray := by simp
  rw [ea]
  exact ⟨.ref _, _, I.lnew (t' := s.toks) (r.append r2) (by rw [List.length_append]; omega), rfl, q _ I.fresh⟩
end

section
variable {prog : Program} {w : World} {A : Around} {E : Value → Shared → Prop} {s : Shared}
end

section
variable {X : Cx}
end
end L2

namespace L2
open PySem PySem.Spec PyProof.Rows

section
variable {κ : Type} [DecidableEq κ]
def valV (kvs : List (κ × V)) (k : κ) : Option V := (kvs.find? fun kv => decide (kv.1 = k)).map (·.2)
/-- in its place, or at the end -/
def putK (kvs : List (κ × V)) (k : κ) (v : V) : List (κ × V) :=
  if (kvs.any fun kv => decide (kv.1 = k)) = true then kvs.map (fun kv => if kv.1 = k then (kv.1, v) else kv) else kvs ++ [(k, v)]
end


section
variable {P : Program} {w : World} {H : Hp} {h : Heap} {a : Addr}
end

/-- what the dict at a holds at the key y -/
def DGet (H : Hp) (a : Addr) (y : V) (r : Option V) : Prop :=
  (∃ kvs k, Rd H a (.dK kvs) ∧ y = kV k ∧ r = valV kvs k) ∨ ∃ kvs k b, Rd H a (.dT kvs) ∧ y = .ref b ∧ H b = some (.tup (k.map kV)) ∧ r = valV kvs k
/-- the heap behind a[y] = v -/
def DPut (H : Hp) (a : Addr) (y v : V) (H' : Hp) : Prop :=
  (∃ kvs k, H a = some (.dK kvs) ∧ y = kV k ∧ kvs.length < sizeLine ∧ H' = upd H a (.dK (putK kvs k v))) ∨
  ∃ kvs k b, H a = some (.dT kvs) ∧ y = .ref b ∧ H b = some (.tup (k.map kV)) ∧ kvs.length < sizeLine ∧ H' = upd H a (.dT (putK kvs k v))
theorem DGet.k {H : Hp} {a : Addr} {kvs : List (Key × V)} {k : Key} (e : H a = some (.dK kvs)) : DGet H a (kV k) (valV kvs k) := .inl ⟨kvs, k, .inl e, rfl, rfl⟩
theorem DPut.k {H : Hp} {a : Addr} {kvs : List (Key × V)} {k : Key} {v : V} (e : H a = some (.dK kvs)) (hl : kvs.length < sizeLine) : DPut H a (kV k) v (upd H a (.dK (putK kvs k v))) := .inl ⟨kvs, k, e, rfl, hl, rfl⟩
section
variable {X : Cx} {pins : List (Addr × Obj)} {σ : St} {H : Hp} {s : Shared} {a : Addr} {y v : V} {u r : Value} {o : Option V} {A : Around} {E : Value → Shared → Prop}

end

section
variable {X : Cx} {pins : List (Addr × Obj)} {σ : St} {H : Hp} {s : Shared} {a : Addr} {kvs : List (Key × V)} {k : Key} {u : Value} {A : Around} {E : Value → Shared → Prop}
end


section
variable {X : Cx} {o i e value : Expr} {pos pos' tpos : Pos} {td ty tv : TE}
end


/-- {}, to be a dict of the kind that is wanted -/
def tDNewK : TE := fun _ H Q => ∀ p, H p = none → Q (.ref p) (upd H p (.dK []))
section
variable {X : Cx} {pos : Pos}
end

section
variable {X : Cx} {pins : List (Addr × Obj)} {σ : St} {H : Hp} {s : Shared} {a : Addr} {y d : V} {u r : Value} {o : Option V} {A : Around} {E : Value → Shared → Prop}
end

section
variable {X : Cx} {o e f : Expr} {apos cpos : Pos} {td ty tx : TE}
end

section
variable {X : Cx} {pins : List (Addr × Obj)} {σ : St} {H : Hp} {s : Shared} {a : Addr} {kvs : List (Key × V)} {A : Around} {E : Value → Shared → Prop}
end


section
variable {X : Cx} {pins : List (Addr × Obj)} {σ : St} {H : Hp} {s : Shared} {a : Addr} {y : V} {u : Value} {A : Around} {E : Value → Shared → Prop}
end
end L2

namespace Att
open PySem PySem.W PySem.Calls PyProof.Rows

theorem ints_of_wellAll {P : Params} {h : Heap} : ∀ (ns : List Int) (vs : List Value), WellAll P h vs (ns.map WData.int) → IntsAre vs ns := by
  intro ns
  induction ns with
  | nil =>
    intro vs w
    rw [List.map_nil] at w
    cases w
    exact .nil
  | cons n ns ih =>
    intro vs w
    rw [List.map_cons] at w
    cases w with
    | cons a b =>
      cases a
      exact .cons _ _ (ih _ b)

theorem script_of {l : OpenLaw} {n : Nat} (hn : l.most = some n) {P : Params} {h : Heap} {args : List WData} {vals : List Value}
    (hpre : l.row.toRowW.claim.pre args = true) (hwl : WellAll P h vals args) :
    ∃ a vs ns, vals = [Value.ref a] ∧ args = [WData.list (ns.map WData.int)] ∧ h.get? a = some { cls := .type "list", data := .seq vs.toArray } ∧ IntsAre vs ns ∧ ns.length ≤ n := by
  have hsh : WShape.hasAll [] args [.list .int] = true := (pre_splitW hpre).1
  have hc : l.pre.holds [] { args := args } = true := (pre_splitW hpre).2
  obtain ⟨d, r, rfl, h1, h2⟩ := hasAllW_cons hsh
  obtain rfl := hasAllW_nil h2
  obtain ⟨xs, rfl, h3⟩ := hasW_list h1
  obtain ⟨ns, rfl⟩ := items_int h3
  have hlen : ns.length ≤ n := by
    unfold OpenLaw.pre at hc
    have h4 : (WTm.not (.lt (.lit (.int (n : Int))) (.len (.arg 0)))).holds [] { args := [.list (ns.map .int)] } = true := by
      have h4 := (holds_andW hc).1
      rw [hn] at h4
      exact h4
    have h5 := condW_of h4 (w_not (w_lt w_lit (w_len_list (w_arg rfl))))
    rw [List.length_map] at h5
    refine Nat.le_of_not_lt fun q => ?_
    have q' : (n : Int) < ((ns.length : Nat) : Int) := by omega
    first
      | (rw [decide_eq_true q'] at h5; exact absurd h5 (by decide))
      | (simp at h5; omega)
  cases hwl with
  | cons w1 w2 =>
    cases w2
    cases w1 with
    | list ho hall => exact ⟨_, _, ns, rfl, rfl, ho, ints_of_wellAll ns _ hall, hlen⟩

theorem post_true (l : OpenLaw) (args : List WData) : l.row.toRowW.claim.post args (.bool true) args = true :=
  postW_of (r := l.row.toRowW) (X := (true == true))
    (show WShape.has [] (.bool true) .bool = true by first | rfl | decide | simp [WShape.has, WShape.arms, WShape.armsAll])
    (show (WTm.eq .res (.lit (.bool true))).value [] { args := args, res := some (.bool true), after := args } = some (.bool (true == true)) from w_eq_bool (w_res rfl) w_lit) rfl

/-- the same from a codeAny of the CALL (for a layer whose function contracts speak of calls) -/
theorem attach_call {l : OpenLaw} {n : Nat} {q : Program} {loose : List Str} {XP : (Str → Option Value) → Heap → Prop} {YP : World → Heap → Prop} {d : DefRec}
    (hn : l.most = some n) (hdf : d.params.defaults = [])
    (call : ∀ (w : World) (s₀ s₁ : Shared) (mg mb : Str → Option Value) (fa : Addr) (o : Obj) (pm cd doc : Value) (a : Addr) (vs : List Value) (ns : List Int),
      Ground q loose [] XP w s₀ mg mb s₁.heap → YP w s₁.heap →
      s₁.heap.get? fa = some o → o.data = .func (docDef d.name d.params d.body d.scope pm cd doc) → s₁.heap.CodeRec cd d.name → mg d.name = some (.ref fa) →
      s₁.heap.get? a = some { cls := .type "list", data := .seq vs.toArray } → IntsAre vs ns → ns.length ≤ n → s₁.gens = #[] →
      codeAny (model l.prog w) callerA (.call (.ref fa) ⟨[.ref a], []⟩) (fun r s' => r = .ok (.ret (.bool true)) ∧ OldK s₁.heap s'.heap ∧ s'.os = s₁.os ∧ AllBare s'.gens) s₁) :
    WalkO q loose XP YP l.row.toRowW d [] (fun f vs => PySem.call f vs) := by
  intro w s₀ s₁ mg mb G Y fa o pm cd doc dV kV ho hd hcd hD hmg hg args vals as hpre hlay hrd hwl hlo
  obtain rfl : dV = .none := Dflts.none hD hdf
  obtain rfl : kV = .none := Dflts.noKw hD
  obtain ⟨a, vs, ns, rfl, rfl, hobj, hints, hlen⟩ := script_of hn hpre hwl
  refine enter_call (codeAny_mono (call w s₀ s₁ mg mb fa o pm cd doc a vs ns G Y ho (fd_plain hd) hcd hmg hobj hints hlen hg) fun r s' hq => ?_)
  obtain ⟨rfl, h2, h3, h4⟩ := hq
  exact ⟨.inl ⟨.bool true, .bool true, [], rfl, fun _ => rfl, .bool true, post_true l _, fun _ => ⟨List.Pairwise.nil, fun _ hm => (nomatch hm)⟩⟩, h2, h3, h4⟩

section
variable {prog : Program} {w : World} {A : Around} {E : Value → Shared → Prop} {s : Shared} {K : Frag}

end
end Att

namespace L2
open PySem PySem.Spec PyProof.Rows

theorem vals_ints : ∀ {vs : List Value} {ns : List Int}, IntsAre vs ns → Vals (ns.map V.int) vs
  | _, _, .nil => .nil
  | _, _, .cons n t h => .cons ⟨t, rfl⟩ (vals_ints h)

/-- nothing is tracked but the script, known to the object (or it is an object of the module) -/
def Only (H : Hp) : Prop := ∀ b, H b = none ∨ ∃ o xs, H b = some (.frz o (.lst xs))

/-- THE HEAD: the law's promise, at the heap behind the top. F, the promise of the law's def, may use that base is part of the heap (so K.In base, base.Ns mainGlobals mg stand in Mod) -/
theorem law_call {P : Program} {w : World} {K : PySem.W.Frag} {mg mb : Str → Option Value} {CX : CXT} {k : Nat} {fa a : Addr} {fd : FuncData} {x : Str} {sp : Sp} {s₁ : Shared} {vs : List Value} {ns : List Int}
    (KX : K.In s₁.heap) (hns : s₁.heap.Ns mainGlobals mg) (hb : s₁.heap.Ns builtinsNs mb) (hbb : ∀ x : Str, x ≠ "__name__" → mb x = bootBuiltins x) (hlim : s₁.heap.NoLimit) (hg : s₁.gens = #[])
    (ha : s₁.heap.get? a = some { cls := .type "list", data := .seq vs.toArray }) (hi : IntsAre vs ns) (hl : ns.length ≤ sizeLine) (hr : Room k callerA)
    (F : ∀ base : Heap, K.In base → base.Ns mainGlobals mg → FnOk P w K mg base CX k fa fd [x] sp) (hbind : ∀ (s : Shared) (u : Value), BindsTo s fd ⟨[u], []⟩ [(x, u)])
    (hsp : ∀ H : Hp, Only H → SqL K H a (ns.map V.int) → sp [.ref a] H (fun v _ => v = .bl true) fun _ _ _ => False)
    (hCX : ∀ H e s', CX [] H s₁ (fun _ _ _ => False) e s' → False) :
    codeAny (model P w) callerA (.call (.ref fa) ⟨[.ref a], []⟩) (fun r s' => r = .ok (.ret (.bool true)) ∧ OldK s₁.heap s'.heap ∧ s'.os = s₁.os ∧ AllBare s'.gens) s₁ := by
  have rv := vals_ints hi
  have lenV := hi.length
  have core : ∀ H : Hp, Only H → SqL K H a (ns.map V.int) → HOk P w H s₁.heap → (∀ b, H b ≠ none → b = a) → (H a ≠ none → K.lookup a = none) →
      codeAny (model P w) callerA (.call (.ref fa) ⟨[.ref a], []⟩) (fun r s' => r = .ok (.ret (.bool true)) ∧ OldK s₁.heap s'.heap ∧ s'.os = s₁.os ∧ AllBare s'.gens) s₁ := by
    intro H hO hS hok hA hK
    have base_of : ∀ {b : Addr} {o : Obj}, s₁.heap.get? b = some o → H b = none → (hidT s₁.heap H).get? b = some o := fun e n => hidT_get e n
    have noA : ∀ {b : Addr} {o : Obj} {es : Array DictEntry} {ep : Nat}, s₁.heap.get? b = some o → o.data = .dict es ep → H b = none := fun {b o es ep} e d => by
      cases q : H b with
      | none => rfl
      | some u =>
        have e' : b = a := hA b (by rw [q]; simp)
        subst e'
        rw [ha] at e; cases e
        have d' : Data.seq vs.toArray _ = Data.dict es ep := d
        cases d'
    have nsK : ∀ {b : Addr} {m : Str → Option Value}, s₁.heap.Ns b m → (hidT s₁.heap H).Ns b m := fun {b m} ⟨o, es, ep, e, d, r⟩ => ⟨o, es, ep, base_of e (noA e d), d, r⟩
    have hKb : K.In (hidT s₁.heap H) := fun b o e => base_of (KX b o e) (by
      cases q : H b with
      | none => rfl
      | some u =>
        have e' : b = a := hA b (by rw [q]; simp)
        subst e'
        rw [hK (by rw [q]; simp)] at e; cases e)
    have hM : Mod K mg (hidT s₁.heap H) := ⟨hKb, nsK hns, ⟨mb, nsK hb, hbb⟩, let ⟨mc, h1, h2⟩ := hlim; ⟨mc, nsK h1, h2⟩⟩
    have e0 : Env0 P w K mg (hidT s₁.heap H) callerA [] s₁ H := ⟨rfl, hM, fun b o e => of_hidT e, Nat.le_of_eq (hidT_size _ _), trivial, fun b hb => absurd (show b ∈ ([] : List Addr) from hb) (by simp), hok, .of_eq hg⟩
    refine codeAny_mono ((F _ hKb (nsK hns)).run callerA [] s₁ H ⟨[.ref a], []⟩ [.ref a] [.ref a] _ _ hr e0 (hbind s₁ (.ref a)) (.cons rfl .nil) (hsp H hO hS)) fun r s' h => ?_
    cases r with
    | error e => exact (hCX H e s' h).elim
    | ok fl =>
      cases fl with
      | next => exact False.elim h
      | brk => exact False.elim h
      | cont => exact False.elim h
      | ret u =>
        obtain ⟨v, H', os, bare, un, hok', r', q⟩ := h
        have q' : v = .bl true := q
        subst q'
        obtain rfl : u = Value.bool true := r'
        refine ⟨rfl, OldK.of_keep fun b o e => ?_, os, bare⟩
        cases q : H b with
        | none => exact un.keep b o e q (by intro z; exact absurd (show b ∈ ([] : List Addr) from z) (by simp)) (by simp)
        | some u =>
          rcases hO b with z | ⟨ob, xs, z⟩
          · rw [q] at z; cases z
          · have z2 := un.frzs b ob _ z
            obtain ⟨e1, _⟩ := hok b _ z
            obtain ⟨e2, _⟩ := hok' b _ z2
            rw [e] at e1; cases e1
            exact e2
  cases hk : K.lookup a with
  | some o =>
    have e := KX a o hk
    rw [ha] at e
    cases e
    refine core (fun _ => none) (fun _ => .inl rfl) (.inr ⟨_, vs.toArray, _, hk, rfl, rfl, rfl, by rw [List.size_toArray, lenV]; exact hl, by simpa using rv⟩) (fun b u z => by have z' : (none : Option HO) = some u := z; cases z') (fun b z => absurd rfl z) fun z => absurd rfl z
  | none =>
    refine core (fun b => if b = a then some (.frz { cls := .type "list", data := .seq vs.toArray } (.lst (ns.map V.int))) else none) (fun b => ?_) (.inl (.inr ⟨{ cls := .type "list", data := .seq vs.toArray }, if_pos rfl⟩)) (fun b u z => ?_) (fun b z => ?_) fun _ => hk
    · by_cases hb : b = a
      · exact .inr ⟨_, _, if_pos hb⟩
      · exact .inl (if_neg hb)
    · by_cases hb : b = a
      · have z' := (if_pos hb).symm.trans z
        cases z'
        subst hb
        exact ⟨ha, by rw [List.length_map]; exact hl, vs, _, rv, ha⟩
      · have z' := (if_neg hb).symm.trans z
        cases z'
    · by_cases hb : b = a
      · exact hb
      · exact absurd (if_neg hb) z
end L2

namespace L2
open PySem PySem.Spec PyProof.Rows

abbrev KOf {K : PySem.W.Frag} {h : Heap} (_ : K.In h) : PySem.W.Frag := K

/-- the goal that k_head leaves (case hc), from the law's promise. F gives the function object fd (K's own) once, then the promise over every base -/
theorem walk_of {l : PySem.W.OpenLaw} {n k : Nat} {q : Program} {loose : List Str} {XP : (Str → Option Value) → Heap → Prop} {YP : World → Heap → Prop} {d : DefRec} {K : Params → PySem.W.Frag} {CX : World → CXT} {sp : World → Sp} {x : Str}
    (hn : l.most = some n) (hn2 : n ≤ sizeLine) (hdf : d.params.defaults = []) (hr : Room k callerA)
    (hY : ∀ (w : World) (h : Heap), YP w h → (K w.params).In h)
    (F : ∀ (w : World) (mg : Str → Option Value) (fa : Addr) (h : Heap), (K w.params).In h → h.Ns mainGlobals mg → mg d.name = some (.ref fa) →
      ∃ fd : FuncData, (∀ (s : Shared) (u : Value), BindsTo s fd ⟨[u], []⟩ [(x, u)]) ∧
        ∀ base : Heap, (K w.params).In base → base.Ns mainGlobals mg → FnOk l.prog w (K w.params) mg base (CX w) k fa fd [x] (sp w))
    (hsp : ∀ (w : World) (H : Hp) (a : Addr) (ns : List Int), ns.length ≤ n → Only H → SqL (K w.params) H a (ns.map V.int) → sp w [.ref a] H (fun v _ => v = .bl true) fun _ _ _ => False)
    (hCX : ∀ (w : World) (H : Hp) (s : Shared) (e : Value) (s' : Shared), CX w [] H s (fun _ _ _ => False) e s' → False) :
    PySem.W.WalkO q loose XP YP l.row.toRowW d [] (fun f vs => PySem.call f vs) := by
  refine Att.attach_call hn hdf fun w s₀ s₁ mg mb fa o pm cd doc a vs ns G Y ho hd hcd hmg hobj hints hlen hg => ?_
  have KX := hY w _ Y
  obtain ⟨fd, hb, hF⟩ := F w mg fa _ KX G.T.g hmg
  exact law_call KX G.T.g G.T.b G.T.builtins G.T.nolimit hg hobj hints (Nat.le_trans hlen hn2) hr hF hb (fun H hO hS => hsp w H a ns hlen hO hS) fun H e s' => hCX w H s₁ e s'
end L2

/- THE LAST THEOREM (shape; LID, My.* are yours):
   My.Adr: a structure of the addresses that your layer names (classes, functions); My.Txt K t: a structure (Prop) of the equations over K;
   My.txt_mk : {K} {implicit addresses ..} (e1 : nsIn K mainGlobals "law" = some (some (.ref f))) (e2 : K.lookup f = some ⟨oc, od, .func (fnOf "law" "law" params body scope dV kV doc pm an cdv ct), sl⟩) (e3 : codeIn K cdv "law" = true) .. : ∃ t, My.Txt K t

set_option maxRecDepth 100000 in
set_option maxHeartbeats 0 in
theorem PySem.Challenge.cw_LID_holds : PySem.Challenge.rw_LID.Holds := by
  w_on; o_law; k_head; (case hw => w_witness2)
  k_fill
  refine L2.walk_of (l := PySem.Challenge.rw_LID) (n := 63) (k := 40) (x := "script") (CX := fun w => ..) (sp := fun _ => My.sp_law) rfl (by decide) rfl ⟨rfl, by decide, by decide⟩ (fun w h Y => PySem.W.kIn_of Y) ?F ?S ?C
  case F =>
    intro w mg fa h KX G hmg
    have T : ∃ t, My.Txt (L2.KOf KX) t := by
      dsimp only [L2.KOf]                          -- K must stand as «<heap const> w.params» for k_is
      refine' My.txt_mk ?e1 ?e2 ?e3 ..
      (case e1 => PySem.W.k_is)                    -- in the order: a name -> its address -> its object -> its parts
      (case e2 => PySem.W.k_is)
      ..
    obtain ⟨t, T⟩ := T
    have e0 := hmg.symm.trans (PySem.W.mg_of KX G T.law)
    cases e0                                       -- fa is the law's own address
    exact ⟨_, fun s u => .of_eq rfl, fun base kb nb => My.law_fn T kb nb⟩     -- if «.of_eq rfl» comes too early: refine' ⟨_, ?b, fun base kb nb => My.law_fn T kb nb⟩; exact fun s u => .of_eq rfl
  case S => exact fun w H a ns hl hO hS => ..
  case C => exact ..
(the tactic k_is has no namespace: write k_is) -/

namespace L2
open PySem PySem.Spec PyProof.Rows

def defArgs (s : Stmt) : Arguments := match s with
  | .FunctionDef _ a _ _ _ _ _ _ _ _ => a
  | _ => { posonlyargs := [], args := [], vararg := none, kwonlyargs := [], kw_defaults := [], kwarg := none, defaults := [] }
def defBody (s : Stmt) : List Stmt := match s with
  | .FunctionDef _ _ b _ _ _ _ _ _ _ => b
  | _ => []
def defScope (s : Stmt) : Scope := match s with
  | .FunctionDef _ _ _ _ _ _ sc _ _ _ => sc
  | _ => { kind := .function, names := [], isGenerator := false, isCoroutine := false }

abbrev E0 : XK := fun _ _ _ => False
structure Fun (K : PySem.W.Frag) (x qual : Str) (st : Stmt) (f : Addr) (fd : FuncData) : Prop where
  ex : ∃ (oc : Value) (od : Option Addr) (kV doc pm : Value) (an : Option Addr) (cdv ct : Value) (osl : Array (Option Value)),
    fd = PySem.W.fnOf x qual (defArgs st) (defBody st) (defScope st) .none kV doc pm an cdv ct ∧ K.lookup f = some ⟨oc, od, .func fd, osl⟩ ∧ PySem.W.codeIn K cdv qual = true
  kp : PySem.W.keepIn K (.ref f) = true
section
variable {P : Program} {w : World} {K : PySem.W.Frag} {mg : Str → Option Value} {base : Heap}
/-- how its arguments bind (no defaults): h is «fun _ _ _ _ _ _ us hl => match us, hl with | [_, _], _ => rfl», one _ a parameter -/
theorem Fun.binds {x qual : Str} {st : Stmt} {f : Addr} {fd : FuncData} {ps : List Str} (F : Fun K x qual st f fd)
    (h : ∀ (kV doc pm : Value) (an : Option Addr) (cdv ct : Value) (us : List Value), us.length = ps.length → bindArgs (PySem.W.fnOf x qual (defArgs st) (defBody st) (defScope st) .none kV doc pm an cdv ct) ⟨us, []⟩ = pure (ps.zip us)) : Binds K fd ps [] := by
  obtain ⟨oc, od, kV, doc, pm, an, cdv, ct, osl, rfl, lk, hcd⟩ := F.ex
  exact .all (h kV doc pm an cdv ct)
theorem fun_mk {x qual : Str} {st : Stmt} {f : Addr} {oc : Value} {od an : Option Addr} {osl : Array (Option Value)} {kV doc pm cdv ct : Value} (l : K.lookup f = some ⟨oc, od, .func (PySem.W.fnOf x qual (defArgs st) (defBody st) (defScope st) .none kV doc pm an cdv ct), osl⟩)
    (c : PySem.W.codeIn K cdv qual = true) (k : PySem.W.keepIn K (.ref f) = true) : Fun K x qual st f (PySem.W.fnOf x qual (defArgs st) (defBody st) (defScope st) .none kV doc pm an cdv ct) := ⟨⟨oc, od, kV, doc, pm, an, cdv, ct, osl, rfl, l, c⟩, k⟩
end
theorem hu_of {A : Around} {k : Nat} (hr : Room k A) : A.units + 1 < cLine := Nat.lt_of_le_of_lt (Nat.add_le_add_left (by decide : 1 ≤ 64) _) hr.units
section
variable {X : Cx}
theorem pv (i : Nat) {x : Str} {pos : Pos} (hN : X.N[i]? = some x := by rfl) (hv : Vis X.env.scope x := by first | exact Or.inl rfl | exact Or.inr (Or.inl rfl) | exact Or.inr (Or.inr rfl)) (hd : (x == ("__debug__" : Str)) = false := by decide)
    (hcd : (x == ("__classdict__" : Str)) = false := by decide) : PE X (.Name x pos) (tVar i) := pe_var hN hv hd hcd
end

theorem ite2 {c A B : Prop} [Decidable c] (h1 : c → A) (h2 : ¬ c → B) : if c then A else B := by
  by_cases h : c
  · rw [if_pos h]
    exact h1 h
  · rw [if_neg h]
    exact h2 h
/-- all that was tracked is as it was -/
def Same (H H' : Hp) : Prop := ∀ b o, H b = some o → H' b = some o
theorem Same.refl (H : Hp) : Same H H := fun _ _ h => h
theorem Same.trans {H H1 H2 : Hp} (a : Same H H1) (b : Same H1 H2) : Same H H2 := fun c o h => b c o (a c o h)
theorem Same.free {H H' : Hp} (e : Same H H') {l : Addr} (h : H' l = Option.none) : H l = Option.none := by
  cases q : H l with
  | none => rfl
  | some o =>
    rw [e l o q] at h
    cases h
theorem Same.seq {K : PySem.W.Frag} {H H' : Hp} {a : Addr} {xs : List V} (e : Same H H') (h : SqL K H a xs) : SqL K H' a xs := by
  rcases h with (h | ⟨o, h⟩) | h
  · exact .inl (.inl (e _ _ h))
  · exact .inl (.inr ⟨o, e _ _ h⟩)
  · exact .inr h

section
variable {κ : Type} [DecidableEq κ]
end
end L2

set_option Elab.async false
set_option linter.all false
set_option maxRecDepth 100000
namespace L2
open PySem PySem.Spec PyProof.Rows

def clOf (env : Env) (names : List (Str × NameKind)) (cs : List (Str × Addr)) : List (Str × Addr) :=
  names.foldl (fun cs y => if y.2 == NameKind.free then (y.1, (env.cells.lookup y.1).getD 0) :: cs else cs) cs
theorem clOf_loop {env : Env} : ∀ (names : List (Str × NameKind)) (cs : List (Str × Addr)), (∀ y ∈ names, y.2 = .free → ∃ c, env.cells.lookup y.1 = some c) →
    (forIn names cs fun (p : Str × NameKind) (cs : List (Str × Addr)) => (if (p.2 == NameKind.free) = true then do
      let a ← cellOf env p.1
      pure (ForInStep.yield ((p.1, a) :: cs))
     else pure (ForInStep.yield cs) : Sem (ForInStep (List (Str × Addr))))) = pure (clOf env names cs)
  | [], cs, _ => rfl
  | (n, k) :: r, cs, h => by
    have hr : ∀ y ∈ r, y.2 = NameKind.free → ∃ c, env.cells.lookup y.1 = some c := fun y hy => h y (List.mem_cons_of_mem _ hy)
    rw [List.forIn_cons]
    cases hk : (k == NameKind.free) with
    | true =>
      obtain ⟨c, hc⟩ := h (n, k) List.mem_cons_self (by simpa using hk)
      have e1 : cellOf env n = pure c := by
        have hc' : env.cells.lookup n = some c := hc
        unfold cellOf; rw [hc']
      have e2 := clOf_loop r ((n, c) :: cs) hr
      have e3 : clOf env ((n, k) :: r) cs = clOf env r ((n, c) :: cs) := by
        have hc' : env.cells.lookup n = some c := hc
        show List.foldl _ (if (k == NameKind.free) = true then (n, (env.cells.lookup n).getD 0) :: cs else cs) r = _
        rw [hk, hc']; rfl
      rw [e3, ← e2]
      simp only [hk, if_true, e1]
      rfl
    | false =>
      have e2 := clOf_loop r cs hr
      have e3 : clOf env ((n, k) :: r) cs = clOf env r cs := by
        show List.foldl _ (if (k == NameKind.free) = true then _ else cs) r = _
        rw [hk]; rfl
      rw [e3, ← e2]
      simp only [hk, Bool.false_eq_true, if_false]
      rfl
theorem closureFor_ok {scope : Scope} {env : Env} (h : ∀ y ∈ scope.names, y.2 = .free → ∃ c, env.cells.lookup y.1 = some c) : closureFor scope env = pure (clOf env scope.names []) := by
  have := clOf_loop scope.names [] h
  unfold closureFor
  simp only [bind_pure]
  exact this
theorem clOf_sub {env : Env} : ∀ (names : List (Str × NameKind)) (cs : List (Str × Addr)), (∀ y ∈ names, y.2 = .free → ∃ c, env.cells.lookup y.1 = some c) → (∀ x c, cs.lookup x = some c → env.cells.lookup x = some c) →
    ∀ x c, (clOf env names cs).lookup x = some c → env.cells.lookup x = some c
  | [], cs, _, hc => hc
  | (n, k) :: r, cs, h, hc => by
    refine clOf_sub r _ (fun y hy => h y (List.mem_cons_of_mem _ hy)) ?_
    intro x c e
    dsimp only at e
    split at e
    · rename_i hk
      obtain ⟨c', hc'⟩ := h (n, k) List.mem_cons_self (by simpa using hk)
      have hc' : env.cells.lookup n = some c' := hc'
      rw [List.lookup_cons] at e
      cases hx : (x == n) with
      | true =>
        rw [hx] at e
        have e' : (env.cells.lookup n).getD 0 = c := Option.some.inj e
        have hxn : x = n := by simpa using hx
        rw [hxn, hc', ← e', hc']; rfl
      | false =>
        rw [hx] at e
        exact hc x c e
    · exact hc x c e
theorem clOf_has {env : Env} {x : Str} : ∀ (names : List (Str × NameKind)) (cs : List (Str × Addr)), ((x, NameKind.free) ∈ names ∨ ∃ c, cs.lookup x = some c) → ∃ c, (clOf env names cs).lookup x = some c
  | [], cs, h => by
    rcases h with h | h
    · simp at h
    · exact h
  | (n, k) :: r, cs, h => by
    refine clOf_has r _ ?_
    rcases h with h | ⟨c, h⟩
    · rcases List.mem_cons.mp h with e | h
      · cases e
        refine .inr ⟨(env.cells.lookup x).getD 0, ?_⟩
        simp
      · exact .inl h
    · refine .inr ?_
      dsimp only
      split
      · rw [List.lookup_cons]
        cases (x == n) with
        | true => exact ⟨_, rfl⟩
        | false => exact ⟨c, h⟩
      · exact ⟨c, h⟩
theorem relabel_free {env : Env} : ∀ {names : List (Str × NameKind)} {x : Str}, names.lookup x = some .free →
    (names.map fun (n, k) => if (k == NameKind.free && env.scope.kind == .function && env.kindOf n == some .cell) then (n, NameKind.cell) else (n, k)).lookup x = some .cell ∨
    (names.map fun (n, k) => if (k == NameKind.free && env.scope.kind == .function && env.kindOf n == some .cell) then (n, NameKind.cell) else (n, k)).lookup x = some .free
  | [], _, h => by simp at h
  | (n, k) :: r, x, h => by
    have ih := @relabel_free env r x
    rw [List.map_cons]
    cases hx : x == n with
    | true =>
      simp only [List.lookup_cons, hx] at h
      cases h
      by_cases hc : (NameKind.free == NameKind.free && env.scope.kind == .function && env.kindOf n == some .cell) = true
      · left
        show List.lookup x ((if (NameKind.free == NameKind.free && env.scope.kind == .function && env.kindOf n == some .cell) = true then (n, NameKind.cell) else (n, NameKind.free)) :: _) = _
        rw [if_pos hc]; simp [List.lookup_cons, hx]
      · right
        show List.lookup x ((if (NameKind.free == NameKind.free && env.scope.kind == .function && env.kindOf n == some .cell) = true then (n, NameKind.cell) else (n, NameKind.free)) :: _) = _
        rw [if_neg hc]; simp [List.lookup_cons, hx]
    | false =>
      simp only [List.lookup_cons, hx] at h
      have ih := ih h
      have e : ∀ l, List.lookup x ((if (k == NameKind.free && env.scope.kind == .function && env.kindOf n == some .cell) = true then (n, NameKind.cell) else (n, k)) :: l) = List.lookup x l := fun l => by
        split <;> simp [List.lookup_cons, hx]
      show List.lookup x ((if (k == NameKind.free && env.scope.kind == .function && env.kindOf n == some .cell) = true then (n, NameKind.cell) else (n, k)) :: _) = _ ∨ List.lookup x ((if (k == NameKind.free && env.scope.kind == .function && env.kindOf n == some .cell) = true then (n, NameKind.cell) else (n, k)) :: _) = _
      rw [e]
      exact ih
/-- kinds in the block's scope come from the scope's -/
theorem relabel_back {env : Env} : ∀ {names : List (Str × NameKind)} {x : Str}, 
    ((names.map fun (n, k) => if (k == NameKind.free && env.scope.kind == .function && env.kindOf n == some .cell) then (n, NameKind.cell) else (n, k)).lookup x = some .cell ∨
    (names.map fun (n, k) => if (k == NameKind.free && env.scope.kind == .function && env.kindOf n == some .cell) then (n, NameKind.cell) else (n, k)).lookup x = some .free) →
    names.lookup x = some .free ∨ names.lookup x = some .cell
  | [], x, h => by simp at h
  | (n, k) :: r, x, h => by
    have ih := @relabel_back env r x
    cases hx : x == n with
    | true =>
      rw [List.lookup_cons, hx]
      show some k = _ ∨ some k = _
      have e : ∀ l, List.lookup x ((if (k == NameKind.free && env.scope.kind == .function && env.kindOf n == some .cell) = true then (n, NameKind.cell) else (n, k)) :: l) = if (k == NameKind.free && env.scope.kind == .function && env.kindOf n == some .cell) = true then some .cell else some k := fun l => by
        split <;> simp [List.lookup_cons, hx]
      rw [List.map_cons] at h
      have h : List.lookup x ((if (k == NameKind.free && env.scope.kind == .function && env.kindOf n == some .cell) = true then (n, NameKind.cell) else (n, k)) :: _) = some .cell ∨ List.lookup x ((if (k == NameKind.free && env.scope.kind == .function && env.kindOf n == some .cell) = true then (n, NameKind.cell) else (n, k)) :: _) = some .free := h
      rw [e] at h
      by_cases hc : (k == NameKind.free && env.scope.kind == .function && env.kindOf n == some .cell) = true
      · left
        simp at hc
        rw [hc.1.1]
      · rw [if_neg hc] at h
        rcases h with h | h
        · exact .inr h
        · exact .inl h
    | false =>
      rw [List.lookup_cons, hx]
      have e : ∀ l, List.lookup x ((if (k == NameKind.free && env.scope.kind == .function && env.kindOf n == some .cell) = true then (n, NameKind.cell) else (n, k)) :: l) = List.lookup x l := fun l => by
        split <;> simp [List.lookup_cons, hx]
      rw [List.map_cons] at h
      have h : List.lookup x ((if (k == NameKind.free && env.scope.kind == .function && env.kindOf n == some .cell) = true then (n, NameKind.cell) else (n, k)) :: _) = some .cell ∨ List.lookup x ((if (k == NameKind.free && env.scope.kind == .function && env.kindOf n == some .cell) = true then (n, NameKind.cell) else (n, k)) :: _) = some .free := h
      rw [e] at h
      exact ih h

section
variable {prog : Program} {w : World} {A : Around} {E : Value → Shared → Prop} {R : Result → Shared → Prop} {s : Shared}
theorem compLoop_any {elt target iter : Expr} {ifs : List Expr} {scope : Scope} {pos : Pos} {it acc : Value} {env : Env} (I : Nat → Shared → Prop)
    (turn : ∀ n s, I n s → wpAny (model prog w) A (pyNext it) (fun r s₁ => match r with
      | none => R (.ok .next) s₁
      | some v => wpAny (model prog w) A (letOwnedTupleGo target it v) (fun _ s₁' => wpAny (model prog w) A (assign target env v) (fun _ s₂ =>
          wpAny (model prog w) A (forIn ifs true fun c r => if r = true then do let ok ← isTrue c env (eval c env); pure (ForInStep.yield ok) else pure (ForInStep.yield r)) (fun ok s₃ =>
            if ok = true then wpAny (model prog w) A (eval elt env) (fun x s₄ =>
              wpAny (model prog w) A (call (.builtin "list.append") [acc, x]) (fun _ s₅ => ∃ m, m < n ∧ I m s₅) (notedBy (model prog w) A env fun e s' => R (.error e) s') s₄) (notedBy (model prog w) A env fun e s' => R (.error e) s') s₃
            else ∃ m, m < n ∧ I m s₃) (notedBy (model prog w) A env fun e s' => R (.error e) s') s₂) (notedBy (model prog w) A env fun e s' => R (.error e) s') s₁') (notedBy (model prog w) A env fun e s' => R (.error e) s') s₁) (notedBy (model prog w) A env fun e s' => R (.error e) s') s)
    (n : Nat) (h : I n s) :
    codeAny (model prog w) A (.compLoop (.ListComp elt [⟨target, iter, ifs, 0⟩] scope pos) 0 it acc env) R s := by
  refine codeAny_loop rfl I (fun n s hI => ?_) n h
  show wpAny _ A ((compTurn (.ListComp elt [⟨target, iter, ifs, 0⟩] scope pos) 0 it acc env).onRaise (fun x => do noteFrame x env; theTreesLotGoes x)) _ _ s
  refine wpAny_noted ?_
  rw [compTurn_list]
  refine wpAny_bind (wpAny_standAt (wpAny_bind (wpAny_mono (turn n s hI) (fun r s₁ h₁ => ?_) fun _ _ h' => h')))
  cases r with
  | none => exact wpAny_pure h₁
  | some v =>
    refine wpAny_bind (wpAny_mono h₁ (fun _ s₁' h₁' => ?_) fun _ _ h' => h')
    refine wpAny_bind (wpAny_mono h₁' (fun _ s₂ h₂ => wpAny_bind (wpAny_mono h₂ (fun ok s₃ h₃ => ?_) fun _ _ h' => h')) fun _ _ h' => h')
    cases ok with
    | false => exact wpAny_pure ⟨rfl, h₃⟩
    | true =>
      exact wpAny_bind (wpAny_bind (wpAny_mono h₃ (fun x s₄ h₄ => wpAny_bind (wpAny_mono h₄ (fun _ s₅ h₅ => wpAny_pure (wpAny_pure ⟨rfl, h₅⟩)) fun _ _ h' => h')) fun _ _ h' => h'))
end

/-- its context: the block's names N', its frame at C, the iterator's records ex -/
def cxComp (X : Cx) (scope : Scope) (N' : List Str) (C : Addr) (ex : List Addr) (s : Shared) (H : Hp) : Cx :=
  { X with N := N', s₀ := s, H₀ := H, env := compEnvC scope (clOf X.env scope.names []) C X.env, outer := X.stack, stack := X.stack, ex := ex, fn := fun _ => false, pn := [], xe := fun _ _ => False }
/-- cap: for each of the block's names the slot of the def's name that it means, none for its own -/
def capOk (N N' : List Str) (cap : List (Option Nat)) (names : List (Str × NameKind)) : Bool :=
  (N'.zip cap).all fun p => match p.2 with
    | none => true
    | some j => N[j]? == some p.1 && names.lookup p.1 == some .free
structure CompOk (X : Cx) (scope : Scope) (N' : List Str) (cap : List (Option Nat)) : Prop where
  kind : scope.kind = .function
  nocell : ∀ y ∈ scope.names, y.2 ≠ .cell
  names : ∀ y ∈ scope.names, y.2 = .local → scope.names.lookup y.1 = some .local
  freeB : (scope.names.all fun y => y.2 != .free || X.env.scope.names.lookup y.1 == some .cell || X.env.scope.names.lookup y.1 == some .free) = true
  len : cap.length = N'.length
  cap : capOk X.N N' cap scope.names = true
theorem CompOk.free {X : Cx} {scope : Scope} {N' : List Str} {cap : List (Option Nat)} (c : CompOk X scope N' cap) : ∀ y ∈ scope.names, y.2 = .free → (X.env.scope.names.lookup y.1 = some .cell ∨ X.env.scope.names.lookup y.1 = some .free) := fun y hy hf => by
  have h := List.all_eq_true.mp c.freeB y hy
  rw [hf] at h
  simpa using h
/-- the block's names at the start of each turn -/
def capSt (cap : List (Option Nat)) (σ : St) : St := cap.map fun o => match o with
  | none => none
  | some j => (σ[j]?).join
theorem capOk_get {N N' : List Str} {cap : List (Option Nat)} {names : List (Str × NameKind)} (h : capOk N N' cap names = true) {i : Nat} {x : Str} {j : Nat} (h1 : N'[i]? = some x) (h2 : cap[i]? = some (some j)) :
    N[j]? = some x ∧ names.lookup x = some .free := by
  have hm : (x, some j) ∈ N'.zip cap := by
    refine List.mem_of_getElem? (i := i) ?_
    rw [List.getElem?_zip_eq_some]
    exact ⟨h1, h2⟩
  have := List.all_eq_true.mp h _ hm
  simpa using this
section
variable {X : Cx} {pins : List (Addr × Obj)} {σ : St} {H : Hp} {s : Shared} {scope : Scope} {N' : List Str} {cap : List (Option Nat)}
theorem CompOk.clos (c : CompOk X scope N' cap) (I : Inv X pins σ H s) : ∀ y ∈ scope.names, y.2 = .free → ∃ a, X.env.cells.lookup y.1 = some a := fun y hy hf => I.ok.has y.1 (c.free y hy hf)
/-- the block's frame laid: the invariant inside -/
theorem comp_start (c : CompOk X scope N' cap) (I : Inv X pins σ H s) {fp : List Addr} (hf : ∀ b ∈ fp, FpOk X pins H b) (ho : ∀ b ∈ fp, ∃ o, s.heap.get? b = some o) {h₁ : Heap} {t : Nat} (hns : h₁.Ns s.heap.objs.size (fun _ => none))
    (hsb : ∀ b o, s.heap.get? b = some o → h₁.get? b = some o) : Inv (cxComp X scope N' s.heap.objs.size fp s H) [] (capSt cap σ) H { s with heap := h₁, toks := t } := by
  have hcl := c.clos I
  have sub := clOf_sub (env := X.env) scope.names [] hcl (fun x c e => by simp at e)
  have CI : ∀ x a, (clOf X.env scope.names []).lookup x = some a → X.env.cells.lookup x = some a := sub
  have cz : ∀ x a, (clOf X.env scope.names []).lookup x = some a → a < s.heap.objs.size := fun x a e => by
    obtain ⟨v, o, q, _⟩ := I.cell x a (CI x a e)
    exact Heap.lt_size q
  have fz : ∀ b ∈ fp, b ≠ s.heap.objs.size → True := fun _ _ _ => trivial
  refine ⟨⟨I.ok.mod, c.kind, I.ok.glob, I.ok.blt, Nat.le_refl _, fun x y a h1 h2 => I.ok.inj x y a (CI x a h1) (CI y a h2), fun x hx => ?_, fun x a h => (by cases h), I.ok.hd, I.ok.frames, .inl rfl, fun b hb => ?_, I.bs, Nat.le_trans I.ok.bsz I.sz, fun b o e hb => ?_, fun b hb => ?_, I.stack, I.stkFree⟩,
    rfl, I.bare, Un.kept hsb, ⟨_, hns, fun i x v h1 h2 h3 => ?_⟩, fun x a e => ?_, I.hok.fresh (Nat.le_refl _), fun x a e => I.freeC x a (CI x a e), fun p hp => by simp [cxComp] at hp, I.hok.kept hsb, ?_⟩
  · have hx : (relabel scope X.env).names.lookup x = some .cell ∨ (relabel scope X.env).names.lookup x = some .free := hx
    rcases relabel_back hx with h | h
    · exact clOf_has (env := X.env) scope.names [] (.inl (PySem.mem_of_lookup h))
    · exact absurd rfl (c.nocell _ (PySem.mem_of_lookup h))
  · obtain ⟨o, e⟩ := ho b hb
    exact ⟨Nat.ne_of_lt (Heap.lt_size e), fun x a e => (hf b hb).2.2.2.2.1 x a (CI x a e)⟩
  · rcases (hf b hb).2.2.2.1 with z | z
    · exact I.ok.noex b o e z
    · exact absurd (Nat.lt_of_lt_of_le (Heap.lt_size e) (Nat.le_trans I.ok.bsz z)) (Nat.lt_irrefl _)
  · intro z
    rcases List.mem_cons.mp (I.stkSub b z) with q | q
    · exact (hf b hb).2.1 q
    · exact (hf b hb).2.2.1 q
  · have hi : i < cap.length := by
      unfold capSt at h2
      have := (List.getElem?_eq_some_iff.mp h2).1
      simpa using this
    obtain ⟨j, hj, hv⟩ : ∃ j, cap[i]? = some (some j) ∧ σ[j]? = some (some v) := by
      unfold capSt at h2
      rw [List.getElem?_map] at h2
      cases e : cap[i]? with
      | none => rw [e] at h2; cases h2
      | some o =>
        rw [e] at h2
        cases o with
        | none => cases h2
        | some j =>
          refine ⟨j, rfl, ?_⟩
          have h2 : (σ[j]?).join = some v := Option.some.inj h2
          cases q : σ[j]? with
          | none => rw [q] at h2; cases h2
          | some y => rw [q] at h2; cases y with
            | none => cases h2
            | some z => exact congrArg some h2
    obtain ⟨hN, hfree⟩ := capOk_get c.cap h1 hj
    have hk := c.free (x, .free) (PySem.mem_of_lookup hfree) rfl
    obtain ⟨m, hm, hl⟩ := I.loc
    obtain ⟨u, ru, l⟩ := hl j x v hN hv (hk.elim (fun z => .inr (.inl z)) fun z => .inr (.inr z))
    refine ⟨u, ru, .inr ⟨relabel_free hfree, ?_⟩⟩
    rcases l with ⟨k, _⟩ | ⟨_, a, ea, ca⟩
    · have k : X.env.scope.names.lookup x = some .local := k
      rcases hk with z | z <;> · rw [z] at k; cases k
    · obtain ⟨a', ea'⟩ := clOf_has (env := X.env) (x := x) scope.names [] (.inl (PySem.mem_of_lookup hfree))
      have := CI x a' ea'
      rw [ea] at this; cases this
      obtain ⟨o, q, d⟩ := ca
      exact ⟨a, ea', o, hsb a o q, d⟩
  · obtain ⟨v, o, q, d⟩ := I.cell x a (CI x a e)
    exact ⟨v, o, hsb a o q, d⟩
  · unfold capSt
    rw [List.length_map]
    exact c.len
end
/-- the tests of a comprehension -/
def PIfs (Y : Cx) (ifs : List Expr) (t : TT) : Prop :=
  ∀ (pins : List (Addr × Obj)) (s : Shared) (σ : St) (H : Hp) (Q : Bool → Hp → Prop) (E : Value → Shared → Prop), Inv Y pins σ H s → t σ H Q →
    wpAny (model Y.prog Y.w) Y.A (forIn ifs true fun c r => if r = true then do let ok ← isTrue c Y.env (eval c Y.env); pure (ForInStep.yield ok) else pure (ForInStep.yield r)) (TP Y pins σ Q) E s
def tTrue : TT := fun _ H Q => Q true H
theorem pifs_nil {Y : Cx} : PIfs Y [] tTrue := fun pins s σ H Q E I h => wpAny_tests_nil ⟨H, I, h⟩
theorem pifs_one {Y : Cx} {c : Expr} {t : TT} (h : PT Y.nox c t) : PIfs Y [c] t := fun pins s σ H Q E I hw =>
  wpAny_tests_one (wpAny_mono (h pins s σ H Q (I.wish _) hw) (fun _ _ ⟨H', I', q⟩ => ⟨H', I'.unwish, q⟩) fun _ _ z => False.elim z)

/-- a target that stores into the slots of own alone -/
def GKp (own : Nat → Bool) (g : TG) : Prop := ∀ v σ H Q, g v σ H Q → g v σ H fun σ' H' => (σ'.length = σ.length ∧ ∀ i, own i = false → σ'[i]? = σ[i]?) ∧ Q σ' H'
theorem gkp_name {own : Nat → Bool} {j : Nat} (h : own j = true := by rfl) : GKp own (gName j) := fun v σ H Q q =>
  ⟨⟨List.length_set .., fun i hi => List.getElem?_set_ne (fun e => by rw [e, hi] at h; cases h)⟩, q⟩
def ownOf (cap : List (Option Nat)) (i : Nat) : Bool := cap[i]? == some none
/-- what a comprehension reads: W by the turn, a measure, the items so far and the heap (the new list at D among it) -/
def tComp (cap : List (Option Nat)) (wi : TI) (g : TG) (tt : TT) (te : TE) : TE := fun σ H Q => wi σ H fun J H1 => ∀ D, H1 D = none →
  ∃ W : Nat → Nat → List V → Hp → Prop, (∃ m, W 0 m [] (upd H1 D (.lst []))) ∧ ∀ i m ys H2, W i m ys H2 → H2 D = some (.lst ys) ∧
    ((J.stop i H2 ∧ Q (.ref D) H2) ∨ (J.go i H2 ∧ ys.length < sizeLine ∧ ∃ N : List V → Hp → Prop, (∀ ys' H', N ys' H' → ∃ m', m' < m ∧ W (i + 1) m' ys' H') ∧ ∀ x H3, J.yld i H2 x H3 → g x (capSt cap σ) H3 fun σ4 H4 => tt σ4 H4 fun b H5 =>
      if b = true then te σ4 H5 fun y H6 => H6 D = some (.lst ys) ∧ N (ys ++ [y]) (upd H6 D (.lst (ys ++ [y]))) else N ys H5))
section
variable {X : Cx} {pins : List (Addr × Obj)} {σ : St} {H : Hp} {s : Shared} {scope : Scope} {N' : List Str} {cap : List (Option Nat)}
theorem comp_core {tg elt iter : Expr} {ifs : List Expr} {pos : Pos} {g : TG} {tt : TT} {te : TE} {it : Addr} {fp : List Addr} {tn : Nat → Heap → Prop} {J : It} {RR : Value → Addr → Result → Shared → Prop} {Q : VK} {E : Value → Shared → Prop}
    (c : CompOk X scope N' cap) (hc : X.calm = true) (I : Inv X pins σ H s) (T : Turn X.prog X.w X.K tg J fp it tn) (st : tn 0 s.heap) (hf : ∀ b ∈ fp, FpOk X pins H b)
    (hg : ∀ C ex s H, PG (cxComp X scope N' C ex s H) tg g) (hk : GKp (ownOf cap) g) (hi : ∀ C ex s H, PIfs (cxComp X scope N' C ex s H) ifs tt) (he : ∀ C ex s H, PE (cxComp X scope N' C ex s H) elt te)
    (h : ∀ D, H D = none →
      ∃ W : Nat → Nat → List V → Hp → Prop, (∃ m, W 0 m [] (upd H D (.lst []))) ∧ ∀ i m ys H2, W i m ys H2 → H2 D = some (.lst ys) ∧
        ((J.stop i H2 ∧ Q (.ref D) H2) ∨ (J.go i H2 ∧ ys.length < sizeLine ∧ ∃ N : List V → Hp → Prop, (∀ ys' H', N ys' H' → ∃ m', m' < m ∧ W (i + 1) m' ys' H') ∧ ∀ x H3, J.yld i H2 x H3 → g x (capSt cap σ) H3 fun σ4 H4 => tt σ4 H4 fun b H5 =>
          if b = true then te σ4 H5 fun y H6 => H6 D = some (.lst ys) ∧ N (ys ++ [y]) (upd H6 D (.lst (ys ++ [y]))) else N ys H5)))
    (hRR : ∀ D C H' s', Inv X pins σ H' s' → FpOk X pins H' C → (∃ m, s'.heap.Ns C m) → Q (.ref D) H' → RR (.ref D) C (.ok .next) s') :
    wpAny (model X.prog X.w) X.A (newList []) (fun acc s₃ => wpAny (model X.prog X.w) X.A (newFunctionEnv scope X.env.globals (clOf X.env scope.names []) [] X.env.qual none .none (some X.env)) (fun cenv s₄ =>
      codeAny (model X.prog X.w) X.A (.compStart (.ListComp elt [⟨tg, iter, ifs, 0⟩] scope pos) 0 (.ref it) acc { cenv with scope := relabel scope X.env }) (RR acc cenv.locals) s₄) E s₃) E s := by
  refine wpAny_newObj_type (wpAny_newFunctionEnv c.nocell (by intro y hy; simp at hy) (fun h₁ hns₁ hsb₁ => ?_) c.kind)
  dsimp only at hns₁ hsb₁ ⊢
  have hD : H s.heap.objs.size = none := I.hok.fresh (Nat.le_refl _)
  have I1 : Inv X pins σ (upd H s.heap.objs.size (.lst [])) { s with heap := s.heap.push { cls := .type "list", dict := none, data := .seq ([] : List Value).toArray } } :=
    I.laid (t' := s.toks) (fun b u e => Heap.get?_push_of_some _ e) (Nat.le_refl _) ⟨Nat.zero_le _, [], 0, .nil, Heap.get?_push_size _ rfl⟩
  have ob : ∀ b ∈ fp, ∃ o, s.heap.get? b = some o ∧ ∀ v, o.data ≠ .cell v := T.obj 0 _ st
  have hf1 : ∀ b ∈ fp, FpOk X pins (upd H s.heap.objs.size (.lst [])) b := fun b hb => by
    obtain ⟨o, e, _⟩ := ob b hb
    have : b ≠ s.heap.objs.size := Nat.ne_of_lt (Heap.lt_size e)
    exact ⟨by rw [upd_ne this]; exact (hf b hb).1, (hf b hb).2⟩
  generalize hs1 : ({ s with heap := s.heap.push { cls := .type "list", dict := none, data := .seq ([] : List Value).toArray } } : Shared) = s1 at I1
  have hh : s.heap.push { cls := .type "list", dict := none, data := .seq ([] : List Value).toArray } = s1.heap := by rw [← hs1]
  have old1 : ∀ b o, s.heap.get? b = some o → s1.heap.get? b = some o := fun b o e => by rw [← hh]; exact Heap.get?_push_of_some _ e
  rw [hh] at hns₁ hsb₁ ⊢
  have old2 : ∀ b o, s1.heap.get? b = some o → h₁.get? b = some o := fun b o e => hsb₁.extBut b o (Nat.ne_of_lt (Heap.lt_size e)) (Heap.get?_push_of_some _ e)
  have J0 : Inv (cxComp X scope N' s1.heap.objs.size fp s1 (upd H s.heap.objs.size (.lst []))) [] (capSt cap σ) (upd H s.heap.objs.size (.lst [])) { s1 with heap := h₁, toks := s.toks + ([] : List (Str × Value)).length } :=
    comp_start c I1 hf1 (fun b hb => (ob b hb).imp fun o e => old1 b o e.1) hns₁ old2
  have es4 : ({ heap := h₁, gens := s.gens, drawn := s.drawn, toks := s.toks + ([] : List (Str × Value)).length, os := s.os } : Shared) = { s1 with heap := h₁, toks := s.toks + ([] : List (Str × Value)).length } := by rw [← hs1]
  have st4 : tn 0 ({ s1 with heap := h₁, toks := s.toks + ([] : List (Str × Value)).length } : Shared).heap := T.keep 0 _ _ st fun b hb o e => old2 b o (old1 b o e)
  rw [es4]
  generalize ({ s1 with heap := h₁, toks := s.toks + ([] : List (Str × Value)).length } : Shared) = s4 at J0 st4 ⊢
  obtain ⟨W, ⟨m0, w0⟩, step⟩ := h _ hD
  generalize hY : cxComp X scope N' s1.heap.objs.size fp s1 (upd H s.heap.objs.size (.lst [])) = Y at J0
  have stat : ∀ {H' : Hp}, (∀ b ∈ fp, H' b = none) → ∀ b ∈ fp, FpOk Y [] H' b := fun hn b hb => by
    obtain ⟨o, e, _⟩ := ob b hb
    have e1 := old1 b o e
    subst hY
    refine ⟨hn b hb, Nat.ne_of_lt (Heap.lt_size e1), fun z => ?_, .inl hb, fun x a q => (J0.ok.exf b hb).2 x a q, fun p hp => by simp [cxComp] at hp⟩
    exact J0.ok.exfs b hb z
  have loop : codeAny (model X.prog X.w) X.A (.compLoop (.ListComp elt [⟨tg, iter, ifs, 0⟩] scope pos) 0 (.ref it) (.ref s.heap.objs.size) (compEnvC scope (clOf X.env scope.names []) s1.heap.objs.size X.env)) (RR (.ref s.heap.objs.size) s1.heap.objs.size) s4 := by
    refine compLoop_any (fun n s' => ∃ i ys H', Inv Y [] (capSt cap σ) H' s' ∧ tn i s'.heap ∧ (∀ b ∈ fp, H' b = none) ∧ W i n ys H') ?_ m0 ⟨0, [], _, J0, st4, fun b hb => (hf1 b hb).1, w0⟩
    rintro n s3 ⟨i, ys, H3, I3, st3, fr3, w3⟩
    obtain ⟨hDl, alt⟩ := step i n ys H3 w3
    rcases alt with ⟨stop, q⟩ | ⟨go, hlen, NN, hNN, stp⟩
    · have := T.done Y (by rw [← hY]; rfl) (by rw [← hY]; rfl) (by rw [← hY]; rfl) (by rw [← hY]; exact hc) i [] s3 (capSt cap σ) H3 (notedBy (model X.prog X.w) X.A (compEnvC scope (clOf X.env scope.names []) s1.heap.objs.size X.env) fun e s' => RR (.ref s.heap.objs.size) s1.heap.objs.size (.error e) s') I3 (stat fr3) st3 stop
      subst hY
      refine thn this fun r s5 ⟨hr, I5⟩ => ?_
      subst hr
      refine hRR _ _ H3 s5 (I1.call' I5.os I5.base I5.hok I5.bare fun b hb => ?_) (I1.fpOk (Nat.le_refl _) I5.free) (I5.loc.imp fun m z => z.1) q
      obtain ⟨_, f1, f2, f3, f4, f5⟩ := hf1 b hb
      exact ⟨f3, f1, f4, f5⟩
    · have := T.item Y (by rw [← hY]; rfl) (by rw [← hY]; rfl) (by rw [← hY]; rfl) (by rw [← hY]; exact hc) i [] s3 (capSt cap σ) H3 (notedBy (model X.prog X.w) X.A (compEnvC scope (clOf X.env scope.names []) s1.heap.objs.size X.env) fun e s' => RR (.ref s.heap.objs.size) s1.heap.objs.size (.error e) s') I3 (stat fr3) st3 go
      have hgY := hg s1.heap.objs.size fp s1 (upd H s.heap.objs.size (.lst []))
      have hiY := hi s1.heap.objs.size fp s1 (upd H s.heap.objs.size (.lst []))
      have heY := he s1.heap.objs.size fp s1 (upd H s.heap.objs.size (.lst []))
      rw [hY] at hgY hiY heY
      have nox : ∀ {P : Value → Shared → Prop} e s', Y.xe e s' → P e s' := fun e s' z => by subst hY; exact False.elim z
      have eA : Y.A = X.A := by rw [← hY]; rfl
      have eP : Y.prog = X.prog := by rw [← hY]; rfl
      have eW : Y.w = X.w := by rw [← hY]; rfl
      have eE : Y.env = compEnvC scope (clOf X.env scope.names []) s1.heap.objs.size X.env := by rw [← hY]; rfl
      rw [← eA, ← eP, ← eW, ← eE] at this ⊢
      refine thn this fun r s5 ⟨u, hr, h5⟩ => ?_
      subst hr
      refine thn h5 fun _ s6 ⟨x, H6, I6, rx, y6, st6, fr6⟩ => ?_
      have I6' := I6.pinned (stat fr6) (T.obj _ _ st6)
      refine wpAny_mono (hgY _ s6 (capSt cap σ) H6 x u _ I6' rx (hk _ _ _ _ (stp x H6 y6))) (fun _ s7 ⟨σ7, H7, I7, ⟨k1, k2⟩, q7⟩ => ?_) nox
      refine thn (hiY _ s7 σ7 H7 _ _ I7 q7) fun ok s8 ⟨H8, I8, q8⟩ => ?_
      have again : ∀ {H9 : Hp} {s9 : Shared} {σ9 : St} {ys' : List V}, Inv Y ([] ++ pinsAt fp s6.heap) σ9 H9 s9 → σ9.length = (capSt cap σ).length → (∀ (i : Nat) v, (capSt cap σ)[i]? = some (some v) → σ9[i]? = some (some v)) → (∃ m', m' < n ∧ W (i + 1) m' ys' H9) → ∃ m, m < n ∧ ∃ i ys H', Inv Y [] (capSt cap σ) H' s9 ∧ tn i s9.heap ∧ (∀ b ∈ fp, H' b = none) ∧ W i m ys H' := by
        rintro H9 s9 σ9 ys' I9 hl hw ⟨m', hm, w9⟩
        refine ⟨m', hm, i + 1, ys', H9, I9.unpinned.weak hl.symm hw, T.keep _ _ _ st6 fun b hb o e => (I9.pin (b, o) (List.mem_append_right _ (List.mem_append_right _ (mem_pinsAt hb e)))).1, fun b hb => ?_, w9⟩
        obtain ⟨o, e, d⟩ := T.obj _ _ st6 b hb
        exact (I9.pin (b, o) (List.mem_append_right _ (List.mem_append_right _ (mem_pinsAt hb e)))).2.1
      have kw : ∀ (i : Nat) v, (capSt cap σ)[i]? = some (some v) → σ7[i]? = some (some v) := fun i v e => by
        rw [k2 i ?_]
        · exact e
        · unfold ownOf
          cases q : cap[i]? with
          | none => rfl
          | some o =>
            cases o with
            | none =>
              unfold capSt at e
              rw [List.getElem?_map, q] at e
              cases e
            | some j => rfl
      cases ok with
      | false =>
        rw [if_neg Bool.false_ne_true] at q8 ⊢
        exact again I8 k1 kw (hNN _ _ q8)
      | true =>
        rw [if_pos rfl] at q8 ⊢
        refine wpAny_mono (heY _ s8 σ7 H8 _ I8 q8) (fun u9 s9 ⟨y, H9, I9, ry, hD9, q9⟩ => ?_) nox
        refine wpAny_mono (mt_append (X := Y) _ s9 σ7 H9 (.ref s.heap.objs.size) [y] (.ref s.heap.objs.size) [u9] (fun _ H10 => NN (ys ++ [y]) H10) I9 rfl (.cons ry .nil) ⟨_, ys, y, rfl, rfl, hD9, hlen, q9⟩) (fun _ s10 ⟨_, H10, I10, _, q10⟩ => ?_) nox
        exact again I10 k1 kw (hNN _ _ q10)
  exact codeAny_compStart_list loop (T.self X.A 0 _ _ _ st4 loop)

theorem turned_of {C : Addr} {H' : Hp} {s' : Shared} (I' : Inv X pins σ H' s') (fC : FpOk X pins H' C) {h' : Heap} (hs' : Heap.SameBut C s'.heap h') : Inv X pins σ H' { s' with heap := h' } := by
  obtain ⟨f0, f1, f2, f3, f4, f5⟩ := fC
  exact I'.turned (t' := s'.toks) (fun b o hb e => hs'.extBut b o hb e) f0 f1 f3 f4 f5
/-- a list comprehension of one clause -/
theorem pe_comp {tg elt iter : Expr} {ifs : List Expr} {pos : Pos} {wi : TI} {g : TG} {tt : TT} {te : TE} (c : CompOk X scope N' cap) (hc : X.calm = true) (hit : PI X tg iter wi)
    (hg : ∀ C ex s H, PG (cxComp X scope N' C ex s H) tg g) (hk : GKp (ownOf cap) g) (hi : ∀ C ex s H, PIfs (cxComp X scope N' C ex s H) ifs tt) (he : ∀ C ex s H, PE (cxComp X scope N' C ex s H) elt te)
    (hs : ∀ x, foldedSetIterable iter X.env x = pure x := by intro _; rfl) : PE X (.ListComp elt [⟨tg, iter, ifs, 0⟩] scope pos) (tComp cap wi g tt te) := by
  intro pins s σ H Q I h
  rw [eval_ListComp]
  refine wpAny_comprehension_free (use := none) rfl hs (closureFor_ok (c.clos I)) c.kind c.names (thn (hit pins s σ H _ I h) fun v s1 h1 => thn h1 fun itv s2 h2 => ?_)
  obtain ⟨it, fp, tn, J, H2, e, I2, T, st2, f2, q⟩ := h2
  subst e
  refine comp_core c hc I2 T st2 f2 hg hk hi he q fun D C H' s' I' fC hn hq => ?_
  obtain ⟨m, hn⟩ := hn
  exact ⟨m, hn, fun h' hs' => ⟨.ref D, H', turned_of I' fC hs', rfl, hq⟩⟩
/-- name = a list comprehension -/
theorem ps_setc {i : Nat} {x : Str} {px spos : Pos} {tg elt iter : Expr} {ifs : List Expr} {pos : Pos} {wi : TI} {g : TG} {tt : TT} {te : TE} (hN : X.N.Nodup) (hx0 : X.N[i]? = some x) (hx : Loc X.env.scope x)
    (c : CompOk X scope N' cap) (hc : X.calm = true) (hit : PI X tg iter wi)
    (hg : ∀ C ex s H, PG (cxComp X scope N' C ex s H) tg g) (hk : GKp (ownOf cap) g) (hi : ∀ C ex s H, PIfs (cxComp X scope N' C ex s H) ifs tt) (he : ∀ C ex s H, PE (cxComp X scope N' C ex s H) elt te)
    (hsw : swapsWith (.ListComp elt [⟨tg, iter, ifs, 0⟩] scope pos) (some (.Name x px)) spos.line X.env = pure true := by rfl)
    (hs : ∀ x, foldedSetIterable iter X.env x = pure x := by intro _; rfl) (hf : X.fn x = true ∨ X.env.scope.names.lookup x = some .local := by first | exact .inl rfl | exact .inr rfl | assumption) : PS X (.Assign [.Name x px] (.ListComp elt [⟨tg, iter, ifs, 0⟩] scope pos) spos) (tAsg (tComp cap wi g tt te) (gName i)) := by
  intro pins s σ H D0 I h
  rw [exec_Assign_Name_used _ _ _ _ hsw]
  refine wpAny_bind (wpAny_standAt (wpAny_bind ?_))
  show wpAny _ X.A (do let _ ← comprehension (.ListComp elt [⟨tg, iter, ifs, 0⟩] scope pos) scope X.env _ (newList []) false (eval iter X.env) (some (assign (.Name x px) X.env))) _ _ s
  refine wpAny_bind (wpAny_mono (wpAny_comprehension_free (use := some (assign (.Name x px) X.env)) (Q := fun _ s' => SP X pins D0 .next s') rfl hs (closureFor_ok (c.clos I)) c.kind c.names
    (thn (hit pins s σ H _ I h) fun v s1 h1 => thn h1 fun itv s2 h2 => ?_)) (fun _ s' hq => wpAny_pure (wpAny_pure hq)) fun _ _ e => e)
  obtain ⟨it, fp, tn, J, H2, e, I2, T, st2, f2, q⟩ := h2
  subst e
  refine comp_core (Q := fun v H1 => gName i v σ H1 D0.nx) c hc I2 T st2 f2 hg hk hi he q fun D C H' s' I' fC hn hq => ?_
  obtain ⟨m, hn⟩ := hn
  refine wpAny_assign_Name (store_ok2 (v := .ref D) I' hN hx0 hx rfl (fun s'' I'' ⟨a, sb, ha⟩ => ?_) hf)
  have hne : C ≠ a := by
    rcases ha with z | z
    · rw [z]; exact fC.2.1
    · exact fun e => fC.2.2.2.2.1 x a z e.symm
  exact ⟨m, hn.sameBut sb hne, fun h' hs' => ⟨σ.set i (some (.ref D)), H', turned_of I'' fC hs', hq⟩⟩
end

theorem comp_list {K : PySem.W.Frag} {a D : Addr} {xs : List V} {g : TG} {tt : TT} {te : TE} {σ0 : St} {H1 : Hp} {R : Hp → Prop} (Pv : Nat → List V → Hp → Prop) (h0 : Pv 0 [] (upd H1 D (.lst [])))
    (hl : ∀ i ys H, i ≤ xs.length → Pv i ys H → SqL K H a xs ∧ H D = some (.lst ys) ∧ ys.length ≤ i) (hz : xs.length ≤ sizeLine)
    (hs : ∀ i x ys H, xs[i]? = some x → Pv i ys H → g x σ0 H fun σ4 H4 => tt σ4 H4 fun b H5 => if b = true then te σ4 H5 fun y H6 => H6 D = some (.lst ys) ∧ Pv (i + 1) (ys ++ [y]) (upd H6 D (.lst (ys ++ [y]))) else Pv (i + 1) ys H5)
    (hd : ∀ ys H, Pv xs.length ys H → R H) :
    ∃ W : Nat → Nat → List V → Hp → Prop, (∃ m, W 0 m [] (upd H1 D (.lst []))) ∧ ∀ i m ys H2, W i m ys H2 → H2 D = some (.lst ys) ∧
      (((Itl K a).stop i H2 ∧ R H2) ∨ ((Itl K a).go i H2 ∧ ys.length < sizeLine ∧ ∃ N : List V → Hp → Prop, (∀ ys' H', N ys' H' → ∃ m', m' < m ∧ W (i + 1) m' ys' H') ∧ ∀ x H3, (Itl K a).yld i H2 x H3 → g x σ0 H3 fun σ4 H4 => tt σ4 H4 fun b H5 =>
        if b = true then te σ4 H5 fun y H6 => H6 D = some (.lst ys) ∧ N (ys ++ [y]) (upd H6 D (.lst (ys ++ [y]))) else N ys H5)) := by
  refine ⟨fun i m ys H => m = xs.length - i ∧ i ≤ xs.length ∧ Pv i ys H, ⟨xs.length, by simp, Nat.zero_le _, h0⟩, ?_⟩
  rintro i m ys H2 ⟨rfl, hi, p⟩
  obtain ⟨q, hD, hly⟩ := hl i ys H2 hi p
  refine ⟨hD, ?_⟩
  by_cases hlt : i < xs.length
  · refine .inr ⟨⟨xs, xs[i], q, by simp [hlt]⟩, by omega, Pv (i + 1), fun ys' H' p' => ⟨xs.length - (i + 1), by omega, rfl, hlt, p'⟩, fun x H3 y => ?_⟩
    obtain ⟨e, y⟩ := y
    subst e
    exact hs i x ys _ (y xs q) p
  · have e : i = xs.length := by omega
    subst e
    exact .inl ⟨⟨xs, q, Nat.le_refl _⟩, hd ys H2 p⟩
theorem comp_range {lo : Int} {n : Nat} {D : Addr} {g : TG} {tt : TT} {te : TE} {σ0 : St} {H1 : Hp} {R : Hp → Prop} (Pv : Nat → List V → Hp → Prop) (h0 : Pv 0 [] (upd H1 D (.lst [])))
    (hl : ∀ i ys H, i ≤ n → Pv i ys H → H D = some (.lst ys) ∧ ys.length ≤ i) (hz : n ≤ sizeLine)
    (hs : ∀ i ys H, i < n → Pv i ys H → g (.int (lo + i)) σ0 H fun σ4 H4 => tt σ4 H4 fun b H5 => if b = true then te σ4 H5 fun y H6 => H6 D = some (.lst ys) ∧ Pv (i + 1) (ys ++ [y]) (upd H6 D (.lst (ys ++ [y]))) else Pv (i + 1) ys H5)
    (hd : ∀ ys H, Pv n ys H → R H) :
    ∃ W : Nat → Nat → List V → Hp → Prop, (∃ m, W 0 m [] (upd H1 D (.lst []))) ∧ ∀ i m ys H2, W i m ys H2 → H2 D = some (.lst ys) ∧
      (((Itr lo n).stop i H2 ∧ R H2) ∨ ((Itr lo n).go i H2 ∧ ys.length < sizeLine ∧ ∃ N : List V → Hp → Prop, (∀ ys' H', N ys' H' → ∃ m', m' < m ∧ W (i + 1) m' ys' H') ∧ ∀ x H3, (Itr lo n).yld i H2 x H3 → g x σ0 H3 fun σ4 H4 => tt σ4 H4 fun b H5 =>
        if b = true then te σ4 H5 fun y H6 => H6 D = some (.lst ys) ∧ N (ys ++ [y]) (upd H6 D (.lst (ys ++ [y]))) else N ys H5)) := by
  refine ⟨fun i m ys H => m = n - i ∧ i ≤ n ∧ Pv i ys H, ⟨n, by simp, Nat.zero_le _, h0⟩, ?_⟩
  rintro i m ys H2 ⟨rfl, hi, p⟩
  obtain ⟨hD, hly⟩ := hl i ys H2 hi p
  refine ⟨hD, ?_⟩
  by_cases hlt : i < n
  · refine .inr ⟨hlt, by omega, Pv (i + 1), fun ys' H' p' => ⟨n - (i + 1), by omega, rfl, hlt, p'⟩, fun x H3 y => ?_⟩
    obtain ⟨e, y⟩ := y
    subst e y
    exact hs i ys _ hlt p
  · have e : i = n := by omega
    subst e
    exact .inl ⟨Nat.le_refl _, hd ys H2 p⟩
end L2

set_option Elab.async false
set_option linter.all false
set_option maxRecDepth 100000
namespace L2
open PySem PySem.Spec PyProof.Rows
def CDivB (i j : Int) : Prop := 0 < j ∧ j ≤ 10 ^ 70
section
variable {X : Cx}
theorem op_fdivB : OpR X (binaryOp .FloorDiv) (rI CDivB fun i j => .int (i / j)) := opI fun i j _ _ _ _ _ hc q => by
  have h1 : (0 : Int) < j := hc.1
  have h2 : j ≤ 10 ^ 70 := hc.2
  refine floordiv_int (by omega) ?_ (.inl (PyProof.noPylong_of_log2 ?_))
  · rw [Int.fdiv_eq_ediv_of_nonneg _ (by omega)]
    exact q
  · have h3 : j.natAbs < 2 ^ 300 := by
      have : (j.natAbs : Int) = j := by omega
      have h4 : (10 : Int) ^ 70 < 2 ^ 300 := by decide
      omega
    have h5 : j.natAbs.log2 < 300 := (Nat.log2_lt (by omega)).mpr h3
    omega
/-- isinstance(x, C), C a built-in type -/
theorem call_isinst : CallR X (.builtin "isinstance") (fun xs H Q => ∃ x n t b, xs = [x, .ty n] ∧ TyOf X.K H x t ∧ PySem.W.kitOne X.K t (.type n) = some b ∧ Q (.bl b) H) := by
  intro pins s σ H xs us Q I r h
  obtain ⟨x, n, t, b, rfl, ty, e, q⟩ := h
  obtain ⟨u, v, rfl, ru, rv⟩ := Vals.two r
  cases rv
  exact isinst_ok I ru ty e fun tk => ⟨.bl b, H, I.tok _, rfl, q⟩
end
def eqVs (xs ys : List V) : Bool := xs.length == ys.length && (xs.zip ys).all fun p => eqV p.1 p.2
theorem range_all_zip : ∀ (xs ys : List V), xs.length = ys.length → ((List.range xs.length).all fun j => eqV (xs.getD j .non) (ys.getD j .non)) = (xs.zip ys).all fun p => eqV p.1 p.2
  | [], [], _ => rfl
  | x :: xs, y :: ys, h => by
    have ih := range_all_zip xs ys (by simpa using h)
    rw [List.length_cons, List.range_succ_eq_map, List.all_cons, List.all_map, List.zip_cons_cons, List.all_cons, ← ih]
    rfl
  | [], _ :: _, h => by simp at h
  | _ :: _, [], h => by simp at h
theorem range_all_zip' : ∀ (xs ys : List V), ((List.range (min xs.length ys.length)).all fun j => eqV (xs.getD j .non) (ys.getD j .non)) = (xs.zip ys).all fun p => eqV p.1 p.2
  | [], ys => by simp
  | x :: xs, [] => by simp
  | x :: xs, y :: ys => by
    have ih := range_all_zip' xs ys
    rw [List.length_cons, List.length_cons, Nat.succ_min_succ, Nat.succ_eq_add_one, List.range_succ_eq_map, List.all_cons, List.all_map, List.zip_cons_cons, List.all_cons, ← ih]
    rfl
def rEqD (K : PySem.W.Frag) (neg : Bool) : R2 := fun x y H Q => ∃ l b xs ys, x = .ref l ∧ y = .ref b ∧ ((SqL K H l xs ∧ SqL K H b ys) ∨ (SqT K H l xs ∧ SqT K H b ys)) ∧ xs.all flatV = true ∧ ys.all flatV = true ∧
  Q (.bl (if neg then !eqVs xs ys else eqVs xs ys)) H
section
variable {X : Cx}
theorem items_eqAt {A : Around} {s : Shared} {xs ys : List V} {us ws : List Value} (r : Vals xs us) (q : Vals ys ws) (fx : xs.all flatV = true) (fy : ys.all flatV = true) :
    ∀ j (h1 : j < us.toArray.size) (h2 : j < ws.toArray.size), SeqAt.EqAt A s us.toArray[j] ws.toArray[j] (eqV (xs.getD j .non) (ys.getD j .non)) := by
  intro j h1 h2
  have l1 := r.length
  have l2 := q.length
  simp only [List.size_toArray] at h1 h2
  have hx : xs[j]? = some xs[j] := List.getElem?_eq_getElem (by omega)
  have hy : ys[j]? = some ys[j] := List.getElem?_eq_getElem (by omega)
  obtain ⟨u, eu, ru⟩ := r.get hx
  obtain ⟨v, ev, rv⟩ := q.get hy
  have e1 : us.toArray[j] = u := by
    have := (List.getElem?_eq_some_iff.mp eu).2
    simpa using this
  have e2 : ws.toArray[j] = v := by
    have := (List.getElem?_eq_some_iff.mp ev).2
    simpa using this
  have e3 : xs.getD j .non = xs[j] := by rw [List.getD_eq_getElem?_getD, hx]; rfl
  have e4 : ys.getD j .non = ys[j] := by rw [List.getD_eq_getElem?_getD, hy]; rfl
  rw [e1, e2, e3, e4]
  exact eqAt_V ru rv (List.all_eq_true.mp fx _ (List.getElem_mem _)) (List.all_eq_true.mp fy _ (List.getElem_mem _))
theorem op_eqD (hu : X.A.units + 1 < cLine) : OpR X (compareOp .Eq) (rEqD X.K false) := by
  intro pins s σ H x y v u Q I rx ry h
  obtain ⟨l, b, xs, ys, rfl, rfl, hq, fx, fy, q⟩ := h
  cases rx
  cases ry
  rcases hq with ⟨h1, h2⟩ | ⟨h1, h2⟩
  · obtain ⟨us, r1, p1, z1⟩ := I.list h1
    obtain ⟨ws, r2, p2, z2⟩ := I.list h2
    have l1 := r1.length
    have l2 := r2.length
    by_cases hl : xs.length = ys.length
    · refine SeqAt.eq_listAt p1.isList p2.isList (by simp; omega) (by omega) (items_eqAt r1 r2 fx fy) ⟨.bl _, H, I, rfl, ?_⟩
      have e : (List.range us.toArray.size).all (fun j => eqV (xs.getD j .non) (ys.getD j .non)) = eqVs xs ys := by
        unfold eqVs
        rw [List.size_toArray, ← l1, range_all_zip xs ys hl, hl]
        simp
      rw [e]
      exact q
    · refine SeqAt.eq_list_lengthsAt p1.isList p2.isList (by simp; omega) (by omega) ⟨.bl _, H, I, rfl, ?_⟩
      have e : eqVs xs ys = false := by unfold eqVs; simp [hl]
      rw [← e]
      exact q
  · obtain ⟨us, r1, p1, z1⟩ := I.tuple h1
    obtain ⟨ws, r2, p2, z2⟩ := I.tuple h2
    have l1 := r1.length
    have l2 := r2.length
    refine SeqAt.eq_tupleAt p1 p2 (by omega) (items_eqAt r1 r2 fx fy) ⟨.bl _, H, I, rfl, ?_⟩
    have e : ((List.range (min us.toArray.size ws.toArray.size)).all (fun j => eqV (xs.getD j .non) (ys.getD j .non)) && us.toArray.size == ws.toArray.size) = eqVs xs ys := by
      unfold eqVs
      rw [List.size_toArray, List.size_toArray, ← l1, ← l2, range_all_zip' xs ys, Bool.and_comm]
    rw [e]
    exact q
end

/-- the items of a list or tuple that stands at p -/
def seqV (H : Hp) (p : Addr) : Option (List V) := match H p with
  | some (.lst xs) => some xs
  | some (.tup xs) => some xs
  | some (.frz _ (.lst xs)) => some xs
  | _ => none
theorem seqV_cases {K : PySem.W.Frag} {H : Hp} {p : Addr} {xs : List V} (h : seqV H p = some xs) : SqL K H p xs ∨ SqT K H p xs := by
  unfold seqV at h
  split at h
  · rename_i e; cases h; exact .inl (.of e)
  · rename_i e; cases h; exact .inr (.of e)
  · rename_i o ys e; cases h; exact .inl (.inl (.inr ⟨o, e⟩))
  · cases h
def rIxF : R2 := fun x y H Q => ∃ p i xs v, x = .ref p ∧ y = .int i ∧ seqV H p = some xs ∧ atI xs i = some v ∧ Q v H
/-- the type of a value -/
def tyF (x : V) (H : Hp) : Option String := match x with
  | .non => some "NoneType"
  | .bl _ => some "bool"
  | .int _ => some "int"
  | .str _ => some "str"
  | .ref a => match H a with
    | some (.lst _) => some "list"
    | some (.frz _ (.lst _)) => some "list"
    | some (.tup _) => some "tuple"
    | some (.dK _) => some "dict"
    | some (.dT _) => some "dict"
    | _ => none
  | _ => none
def isTy (t n : String) : Bool := t == n || (t == "bool" && n == "int")
theorem tyF_of {K : PySem.W.Frag} {x : V} {H : Hp} {t : String} (h : tyF x H = some t) : TyOf K H x (.type t) ∧ (t = "NoneType" ∨ t = "bool" ∨ t = "int" ∨ t = "str" ∨ t = "list" ∨ t = "tuple" ∨ t = "dict") := by
  unfold tyF at h
  split at h
  · cases h; exact ⟨.non, by simp⟩
  · cases h; exact ⟨.bl _, by simp⟩
  · cases h; exact ⟨.int _, by simp⟩
  · cases h; exact ⟨.str _, by simp⟩
  · split at h
    · rename_i e; cases h; exact ⟨.lst e, by simp⟩
    · rename_i e; cases h; exact ⟨.frz e, by simp⟩
    · rename_i e; cases h; exact ⟨.tup e, by simp⟩
    · rename_i e; cases h; exact ⟨.dK e, by simp⟩
    · rename_i e; cases h; exact ⟨.dT e, by simp⟩
    · cases h
  · cases h
theorem kitOne_ty {K : PySem.W.Frag} {t n : String} (h : t = "NoneType" ∨ t = "bool" ∨ t = "int" ∨ t = "str" ∨ t = "list" ∨ t = "tuple" ∨ t = "dict") (hn : n = "bool" ∨ n = "int" ∨ n = "str" ∨ n = "list" ∨ n = "tuple" ∨ n = "dict") :
    PySem.W.kitOne K (.type t) (.type n) = some (isTy t n) := by
  rcases h with rfl | rfl | rfl | rfl | rfl | rfl | rfl <;> rcases hn with rfl | rfl | rfl | rfl | rfl | rfl <;> rfl
def lenF (x : V) (H : Hp) : Option Nat := match x with
  | .str y => if y.length ≤ sizeLine then some y.length else none
  | .ref p => match H p with
    | some (.lst xs) => some xs.length
    | some (.tup xs) => some xs.length
    | some (.frz _ (.lst xs)) => some xs.length
    | _ => none
  | _ => none
theorem lenF_of {K : PySem.W.Frag} {x : V} {H : Hp} {n : Nat} (h : lenF x H = some n) : LenV K x H n := by
  unfold lenF at h
  split at h
  · split at h
    · rename_i z; cases h; exact ⟨z, rfl⟩
    · cases h
  · split at h
    · rename_i e; cases h; exact .inl ⟨_, .of e, rfl⟩
    · rename_i e; cases h; exact .inr ⟨_, .of e, rfl⟩
    · rename_i o xs e; cases h; exact .inl ⟨_, .inl (.inr ⟨o, e⟩), rfl⟩
    · cases h
  · cases h
/-- two of one kind, both lists or both tuples -/
def kindV (H : Hp) (p : Addr) : Option Bool := match H p with
  | some (.lst _) => some true
  | some (.frz _ (.lst _)) => some true
  | some (.tup _) => some false
  | _ => none
theorem kindV_l {K : PySem.W.Frag} {H : Hp} {p : Addr} {xs : List V} (h : seqV H p = some xs) (k : kindV H p = some true) : SqL K H p xs := by
  rcases seqV_cases (K := K) h with q | q
  · exact q
  · unfold seqV at h
    unfold kindV at k
    split at h
    · rename_i e; cases h; exact .of e
    · rename_i e; rw [e] at k; cases k
    · rename_i o ys e; cases h; exact .inl (.inr ⟨o, e⟩)
    · cases h
theorem kindV_t {K : PySem.W.Frag} {H : Hp} {p : Addr} {xs : List V} (h : seqV H p = some xs) (k : kindV H p = some false) : SqT K H p xs := by
  unfold seqV at h
  unfold kindV at k
  split at h
  · rename_i e; rw [e] at k; cases k
  · rename_i e; cases h; exact .of e
  · rename_i o ys e; rw [e] at k; cases k
  · cases h
def rEqF (neg : Bool) : R2 := fun x y H Q => ∃ l b k xs ys, x = .ref l ∧ y = .ref b ∧ seqV H l = some xs ∧ seqV H b = some ys ∧ kindV H l = some k ∧ kindV H b = some k ∧ xs.all flatV = true ∧ ys.all flatV = true ∧
  Q (.bl (if neg then !eqVs xs ys else eqVs xs ys)) H
theorem rEqF_D {K : PySem.W.Frag} {neg : Bool} {x y : V} {H : Hp} {Q : VK} (h : rEqF neg x y H Q) : rEqD K neg x y H Q := by
  obtain ⟨l, b, k, xs, ys, e1, e2, h1, h2, k1, k2, r⟩ := h
  cases k with
  | true => exact ⟨l, b, xs, ys, e1, e2, .inl ⟨kindV_l h1 k1, kindV_l h2 k2⟩, r⟩
  | false => exact ⟨l, b, xs, ys, e1, e2, .inr ⟨kindV_t h1 k1, kindV_t h2 k2⟩, r⟩
section
variable {X : Cx}
theorem ix_F : IxR X rIxF := by
  intro value slice pins s σ H x y v u Q I rx ry h hs
  obtain ⟨p, i, xs, z, e1, e2, hq, he, q⟩ := h
  rcases seqV_cases (K := X.K) hq with g | g
  · exact ix_list value slice pins s σ H x y v u Q I rx ry ⟨p, xs, i, z, e1, e2, g, he, q⟩ hs
  · exact ix_tup value slice pins s σ H x y v u Q I rx ry ⟨p, xs, i, z, e1, e2, g, he, q⟩ hs
theorem call_isF : CallR X (.builtin "isinstance") (fun xs H Q => ∃ x n t, xs = [x, .ty n] ∧ tyF x H = some t ∧ (n = "bool" ∨ n = "int" ∨ n = "str" ∨ n = "list" ∨ n = "tuple" ∨ n = "dict") ∧ Q (.bl (isTy t n)) H) := by
  intro pins s σ H xs us Q I r h
  obtain ⟨x, n, t, e, ht, hn, q⟩ := h
  obtain ⟨ty, h7⟩ := tyF_of (K := X.K) ht
  exact call_isinst pins s σ H xs us Q I r ⟨x, n, _, _, e, ty, kitOne_ty h7 hn, q⟩
theorem call_lenF : CallR X (.builtin "len") (fun xs H Q => ∃ x n, xs = [x] ∧ lenF x H = some n ∧ Q (.int n) H) := by
  intro pins s σ H xs us Q I r h
  obtain ⟨x, n, e, hl, q⟩ := h
  exact call_len pins s σ H xs us Q I r ⟨x, n, e, lenF_of hl, q⟩
theorem op_eqF (hu : X.A.units + 1 < cLine) : OpR X (compareOp .Eq) (rEqF false) := fun pins s σ H x y v u Q I rx ry h => op_eqD hu pins s σ H x y v u Q I rx ry (rEqF_D h)
end
theorem scal_int {i j : Int} : scal (.int i) (.int j) = true := rfl
theorem scal_bl {i j : Bool} : scal (.bl i) (.bl j) = true := rfl
theorem scal_str {i j : Str} : scal (.str i) (.str j) = true := rfl
theorem atI_0 {α : Type} {x : α} {r : List α} : atI (x :: r) 0 = some x := atI_nat (j := 0) rfl
theorem atI_1 {α : Type} {x y : α} {r : List α} : atI (x :: y :: r) 1 = some y := atI_nat (j := 1) rfl
theorem atI_2 {α : Type} {x y z : α} {r : List α} : atI (x :: y :: z :: r) 2 = some z := atI_nat (j := 2) rfl
theorem atI_3 {α : Type} {x y z w : α} {r : List α} : atI (x :: y :: z :: w :: r) 3 = some w := atI_nat (j := 3) rfl
theorem atI_4 {α : Type} {x y z w v : α} {r : List α} : atI (x :: y :: z :: w :: v :: r) 4 = some v := atI_nat (j := 4) rfl

theorem isTys : isTy "NoneType" "bool" = false ∧ isTy "NoneType" "int" = false ∧ isTy "NoneType" "str" = false ∧ isTy "NoneType" "list" = false ∧ isTy "NoneType" "tuple" = false ∧ isTy "NoneType" "dict" = false ∧ isTy "bool" "bool" = true ∧ isTy "bool" "int" = true ∧ isTy "bool" "str" = false ∧ isTy "bool" "list" = false ∧ isTy "bool" "tuple" = false ∧ isTy "bool" "dict" = false ∧ isTy "int" "bool" = false ∧ isTy "int" "int" = true ∧ isTy "int" "str" = false ∧ isTy "int" "list" = false ∧ isTy "int" "tuple" = false ∧ isTy "int" "dict" = false ∧ isTy "str" "bool" = false ∧ isTy "str" "int" = false ∧ isTy "str" "str" = true ∧ isTy "str" "list" = false ∧ isTy "str" "tuple" = false ∧ isTy "str" "dict" = false ∧ isTy "list" "bool" = false ∧ isTy "list" "int" = false ∧ isTy "list" "str" = false ∧ isTy "list" "list" = true ∧ isTy "list" "tuple" = false ∧ isTy "list" "dict" = false ∧ isTy "tuple" "bool" = false ∧ isTy "tuple" "int" = false ∧ isTy "tuple" "str" = false ∧ isTy "tuple" "list" = false ∧ isTy "tuple" "tuple" = true ∧ isTy "tuple" "dict" = false ∧ isTy "dict" "bool" = false ∧ isTy "dict" "int" = false ∧ isTy "dict" "str" = false ∧ isTy "dict" "list" = false ∧ isTy "dict" "tuple" = false ∧ isTy "dict" "dict" = true := by decide
def tyO : Option HO → Option String
  | some (.lst _) => some "list"
  | some (.frz _ (.lst _)) => some "list"
  | some (.tup _) => some "tuple"
  | some (.dK _) => some "dict"
  | some (.dT _) => some "dict"
  | _ => none
def lenO : Option HO → Option Nat
  | some (.lst xs) => some xs.length
  | some (.tup xs) => some xs.length
  | some (.frz _ (.lst xs)) => some xs.length
  | _ => none
def seqO : Option HO → Option (List V)
  | some (.lst xs) => some xs
  | some (.tup xs) => some xs
  | some (.frz _ (.lst xs)) => some xs
  | _ => none
def kindO : Option HO → Option Bool
  | some (.lst _) => some true
  | some (.frz _ (.lst _)) => some true
  | some (.tup _) => some false
  | _ => none
theorem tyF_ref {a : Addr} {H : Hp} : tyF (.ref a) H = tyO (H a) := rfl
theorem tyF_int {i : Int} {H : Hp} : tyF (.int i) H = some "int" := rfl
theorem tyF_bl {i : Bool} {H : Hp} : tyF (.bl i) H = some "bool" := rfl
theorem tyF_str {i : Str} {H : Hp} : tyF (.str i) H = some "str" := rfl
theorem tyF_non {H : Hp} : tyF .non H = some "NoneType" := rfl
theorem lenF_ref {a : Addr} {H : Hp} : lenF (.ref a) H = lenO (H a) := rfl
theorem seqV_eq {a : Addr} {H : Hp} : seqV H a = seqO (H a) := rfl
theorem kindV_eq {a : Addr} {H : Hp} : kindV H a = kindO (H a) := rfl
theorem tyO_lst {xs : List V} : tyO (some (.lst xs)) = some "list" := rfl
theorem tyO_frz {o : Obj} {xs : List V} : tyO (some (.frz o (.lst xs))) = some "list" := rfl
theorem tyO_tup {xs : List V} : tyO (some (.tup xs)) = some "tuple" := rfl
theorem tyO_dK {xs} : tyO (some (.dK xs)) = some "dict" := rfl
theorem lenO_lst {xs : List V} : lenO (some (.lst xs)) = some xs.length := rfl
theorem lenO_frz {o : Obj} {xs : List V} : lenO (some (.frz o (.lst xs))) = some xs.length := rfl
theorem lenO_tup {xs : List V} : lenO (some (.tup xs)) = some xs.length := rfl
theorem seqO_lst {xs : List V} : seqO (some (.lst xs)) = some xs := rfl
theorem seqO_frz {o : Obj} {xs : List V} : seqO (some (.frz o (.lst xs))) = some xs := rfl
theorem seqO_tup {xs : List V} : seqO (some (.tup xs)) = some xs := rfl
theorem kindO_lst {xs : List V} : kindO (some (.lst xs)) = some true := rfl
theorem kindO_frz {o : Obj} {xs : List V} : kindO (some (.frz o (.lst xs))) = some true := rfl
theorem kindO_tup {xs : List V} : kindO (some (.tup xs)) = some false := rfl

theorem upd_old {H : Hp} {p q : Addr} {o u : HO} (hq : H q = some o) (hp : H p = none) : upd H p u q = some o := by rw [upd_ne (ne_of_none hq hp)]; exact hq
theorem Same.laid {H : Hp} {p : Addr} {u : HO} (hp : H p = none) : Same H (upd H p u) := fun _ _ h => upd_old h hp
theorem Same.step {H H1 : Hp} {p : Addr} {u : HO} (s : Same H H1) (hp : H1 p = none) : Same H (upd H1 p u) := s.trans (.laid hp)
theorem of_map_get {α : Type} {f : α → V} {l : List α} {i : Nat} {x : V} (h : (l.map f)[i]? = some x) : ∃ z, l[i]? = some z ∧ x = f z := by
  rw [List.getElem?_map] at h
  cases e : l[i]? with
  | none => rw [e] at h; cases h
  | some z => rw [e] at h; exact ⟨z, rfl, (Option.some.inj h).symm⟩
end L2

set_option Elab.async false
set_option linter.all false
set_option maxRecDepth 100000
namespace L2
open PySem PySem.Spec PyProof.Rows
section
variable {prog : Program} {w : World} {A : Around} {E : Value → Shared → Prop} {s : Shared}
end

section
variable {X : Cx} {tg : Expr}
end
end L2

set_option Elab.async false
set_option linter.all false
set_option maxRecDepth 100000
namespace L2
open PySem PySem.Spec PyProof.Rows
def Its (z : Str) : It := ⟨fun i _ => i < z.cps.size, fun i H x H' => H' = H ∧ ∃ c, z.cps[i]? = some c ∧ x = .str ⟨#[c]⟩, fun i _ => z.cps.size ≤ i⟩
theorem turn_str {P : Program} {w : World} {K : PySem.W.Frag} {tg : Expr} (it : Addr) (z : Str) (t : Tok) : Turn P w K tg (Its z) [it] it (fun i h => h.IsStrIter it "str_ascii_iterator" z t i) where
  mem := by simp
  obj := fun i h st b hb => by
    have e : b = it := by simpa using hb
    subst e
    obtain ⟨o, e, c, d⟩ := st
    exact ⟨o, e, fun v z => by rw [d] at z; cases z⟩
  keep := fun i h h' st k => let ⟨o, ho, r⟩ := st; ⟨o, k it (by simp) o ho, r⟩
  item := by
    intro X hP hw hK hc i pins s σ H E I hf st hg
    subst hP hw hK
    obtain ⟨f0, f1, f2, f3, f4, f5⟩ := hf it (by simp)
    have hi : i < z.cps.size := hg
    refine (Walks.strAscii (prog := X.prog) (w := X.w) (I.ok.hd hc) it z t).item i s _ _ hi st fun v h' tk hv st' kk => ?_
    obtain ⟨c, u, hcu, rfl⟩ := hv
    have I1 : Inv X pins σ H { s with heap := h', toks := tk } := I.turned (fun b o hb e => kk b o (by simpa using hb) e) f0 f1 f3 f4 f5
    obtain ⟨o, e1, e2, e3⟩ := id st'
    exact ⟨_, rfl, go_of (s := { s with heap := h', toks := tk }) e1 e2 e3 (by decide) ⟨.str ⟨#[c]⟩, H, I1, ⟨u, rfl⟩, ⟨rfl, c, hcu, rfl⟩, st', fun b hb => (hf b hb).1⟩⟩
  done := by
    intro X hP hw hK hc i pins s σ H E I hf st hg
    subst hP hw hK
    obtain ⟨f0, f1, f2, f3, f4, f5⟩ := hf it (by simp)
    have hi : z.cps.size ≤ i := hg
    exact wpAny_pyNext_ascii_end (I.ok.hd hc) st (by simp; omega) fun h' eb => ⟨rfl, I.turned (t' := s.toks) (fun b o hb e => eb b o hb e) f0 f1 f3 f4 f5⟩
  self := fun _ _ _ _ _ st h => wpAny_pyIter_striter_ascii st h
section
variable {X : Cx} {tg : Expr}
def iStr (tl : TE) : TI := fun σ H R => tl σ H fun x H1 => ∃ z, x = .str z ∧ z.cps.all (· < 128) = true ∧ R (Its z) H1
theorem pi_str {l : Expr} {tl : TE} (hl : PE X l tl) : PI X tg l (iStr tl) := by
  intro pins s σ H R I h
  refine thn (hl pins s σ H _ I h) fun v s1 ⟨x, H1, I1, r1, q1⟩ => ?_
  obtain ⟨z, e, ha, q⟩ := q1
  subst e
  obtain ⟨t, rfl⟩ := r1
  refine wpAny_pyIter_ascii ha ?_
  refine ⟨s1.heap.objs.size, [s1.heap.objs.size], _, _, H1, rfl, I1.kept (t' := s1.toks) fun b o e => Heap.get?_push_of_some _ e, turn_str _ z t, ⟨_, Heap.get?_push_size _ rfl, rfl, rfl⟩, fun b hb => ?_, q⟩
  have e : b = s1.heap.objs.size := by simpa using hb
  subst e
  exact I1.fpOk (Nat.le_refl _) (I1.hok.fresh (Nat.le_refl _))
def rSlS : V → Option Int → Option Int → Hp → VK → Prop := fun x lo hi H Q => ∃ z, x = .str z ∧ z.length ≤ sizeLine ∧ Q (.str (Txt.slice z lo hi)) H
theorem sl_str : SlR X rSlS := by
  intro pins s σ H x v vl vu lo hi sl Q I rx hs pl pu h
  obtain ⟨z, rfl, hz, q⟩ := h
  obtain ⟨t, rfl⟩ := rx
  refine ⟨"str", _, F.slot_str_getitem.lookup, typeIs_str _ _ _, ?_⟩
  cases pl with
  | none =>
    cases pu with
    | none => exact wpAny_getItem_str_slice (l := none) (u := none) (st := none) hs rfl (post_val_or_str ⟨Nat.le_trans (Txt.slice_le z _ _) hz, fun t' k => ⟨.str _, H, I.tok _, ⟨_, rfl⟩, q⟩⟩)
    | int j uj => exact wpAny_getItem_str_slice (l := none) (u := some (j, uj)) (st := none) hs rfl (post_val_or_str ⟨Nat.le_trans (Txt.slice_le z _ _) hz, fun t' k => ⟨.str _, H, I.tok _, ⟨_, rfl⟩, q⟩⟩)
  | int i ui =>
    cases pu with
    | none => exact wpAny_getItem_str_slice (l := some (i, ui)) (u := none) (st := none) hs rfl (post_val_or_str ⟨Nat.le_trans (Txt.slice_le z _ _) hz, fun t' k => ⟨.str _, H, I.tok _, ⟨_, rfl⟩, q⟩⟩)
    | int j uj => exact wpAny_getItem_str_slice (l := some (i, ui)) (u := some (j, uj)) (st := none) hs rfl (post_val_or_str ⟨Nat.le_trans (Txt.slice_le z _ _) hz, fun t' k => ⟨.str _, H, I.tok _, ⟨_, rfl⟩, q⟩⟩)
theorem strsAre_of {zs : List Str} : ∀ {us : List Value}, Vals (zs.map V.str) us → StrsAre us zs := by
  induction zs with
  | nil => intro us r; cases r; exact .nil
  | cons z zs ih =>
    intro us r
    cases r with
    | cons r1 r2 =>
      obtain ⟨t, e⟩ := r1
      subst e
      exact .cons z t (ih r2)
def rJoin : V → List V → Hp → VK → Prop := fun x xs H Q => ∃ sep l zs, x = .str sep ∧ xs = [.ref l] ∧ H l = some (.lst (zs.map V.str)) ∧ (zs.map (·.length)).sum + zs.length * sep.length ≤ 16777216 ∧ Q (.str (Txt.join sep zs)) H
theorem mt_join : MtR X "str.join" rJoin := by
  intro pins s σ H x xs v us Q I rx rs h
  obtain ⟨sep, l, zs, rfl, rfl, hl, hz, q⟩ := h
  obtain ⟨t, rfl⟩ := rx
  obtain ⟨u, rfl, ru⟩ := rs.one
  cases ru
  obtain ⟨its, r, pl, _⟩ := I.list (.of hl)
  exact join_list pl.isList (by simpa using strsAre_of r) hz fun t' k => ⟨.str _, H, I.tok _, ⟨_, rfl⟩, q⟩
end
section
variable {prog : Program} {w : World} {A : Around} {E : Value → Shared → Prop} {s : Shared} {T : String} {r d : Addr} {n : Nat} {P : Nat → Value → Prop} {OK : Heap → Prop} {Q : Value → Shared → Prop}
end

section
variable {X : Cx}
end
end L2

set_option Elab.async false
set_option linter.all false
set_option maxRecDepth 100000
namespace L2
open PySem PySem.Spec PyProof.Rows
abbrev bmVE : List Value := [.type "ValueError", .type "Exception", .type "BaseException", .type "object"]
def XCls (K : PySem.W.Frag) (C : Addr) : Prop := PySem.W.excIn K C bmVE "ValueError.__new__" = true
theorem XCls.obj {K : PySem.W.Frag} {h : Heap} {C : Addr} (X : K.In h) (q : XCls K C) : ∃ bm N nm qn bs hdct sn sub ab col dd k0 k1 k2 k3 k5 mN,
    h.get? C = some (excClassObj nm qn C N bs bm hdct sn sub ab col dd k0 k1 k2 k3 k5 "ValueError.__new__") ∧ h.Ns N mN ∧ mN "__init__" = none ∧ OwnTail h bmVE bm := by
  have q : PySem.W.excIn K C bmVE "ValueError.__new__" = true := q
  unfold PySem.W.excIn at q
  split at q
  · rename_i dct cdt sls found
    split at q
    · rename_i own tailv s0 s1 s2 s3 ident s5 hmro hslots
      simp only [Bool.and_eq_true, beq_iff_eq, Bool.not_eq_true'] at q
      obtain ⟨⟨⟨⟨⟨e1, e2⟩, e3⟩, e4⟩, e5⟩, e6⟩ := q
      subst e1
      subst e2
      obtain ⟨c1, c2, c3, c4, c5, c6, c7, c8, c9, c10, c11⟩ := cdt
      dsimp only at hmro e3 e5 e6
      subst hmro
      subst e3
      have sl6 : sls = #[s0, s1, s2, s3, some (.builtin "ValueError.__new__"), s5] := by
        cases sls with
        | mk l => simp only at hslots; rw [hslots]
      subst sl6
      exact ⟨tailv, c4, c1, c5, c2, c6, c7, c8, c9, c10, dct, s0, s1, s2, s3, s5, _, X _ _ found, .of_isNs (PySem.W.isNs_of_in X e5), PySem.W.nsMap_none_of_in X e5 e6, PySem.W.tail_of_in X e4⟩
    · cases q
  · cases q
theorem HOk.obj {P : Program} {w : World} {H : Hp} {h : Heap} {a : Addr} {u : HO} (x : HOk P w H h) (q : H a = some u) : ∃ ob, h.get? a = some ob := by
  have x := x a u q
  cases u with
  | lst xs => obtain ⟨_, _, _, _, e⟩ := x; exact ⟨_, e⟩
  | tup xs => obtain ⟨_, _, _, p⟩ := x; obtain ⟨_, e, _⟩ := p; exact ⟨_, e⟩
  | dK kvs => obtain ⟨_, _, _, _, o, _, _, e, _⟩ := x; exact ⟨_, e⟩
  | dT kvs => obtain ⟨_, _, _, _, o, _, _, e, _⟩ := x; exact ⟨_, e⟩
  | set S n => obtain ⟨o, _, _, _, e, _⟩ := x; exact ⟨_, e⟩
  | ins C dx fs => obtain ⟨_, _, _, e, _⟩ := x; exact ⟨_, e⟩
  | own y => exact x
  | xd fs => obtain ⟨_, ⟨_, _, _, e, _⟩, _⟩ := x; exact ⟨_, e⟩
  | rng lo hi => obtain ⟨_, _, _, e⟩ := x; exact ⟨_, e⟩
  | frz ob u => obtain ⟨e, _⟩ := x; exact ⟨_, e⟩
  | tbl ps => exact ⟨_, (show h.get? a = some _ from x)⟩
  | met f y => exact ⟨_, (show h.get? a = some _ from x)⟩
  | ext φ => obtain ⟨_, e, _⟩ := x; exact e
theorem Un.slide {fs : List Addr} {H H' : Hp} {h0 h1 h2 : Heap} (u : Un fs [] H H' h0 h1) (k : ∀ b o, (∃ o', h0.get? b = some o') → h1.get? b = some o → b ∉ fs → h2.get? b = some o)
    (sl : ∀ b o, h1.get? b = some o → b ∈ fs → ∃ s, h2.get? b = some { o with slots := s }) : Un fs [] H H' h0 h2 where
  keep := fun b o q n hb hx => k b o ⟨o, q⟩ (u.keep b o q n hb hx) hb
  slot := fun b o q n hb hx => by
    obtain ⟨s1, e1⟩ := u.slot b o q n hb hx
    obtain ⟨s2, e2⟩ := sl b _ e1 hb
    exact ⟨s2, e2⟩
  free := u.free
  there := fun b o q hx => by
    obtain ⟨o1, e1⟩ := u.there b o q hx
    by_cases hb : b ∈ fs
    · obtain ⟨s2, e2⟩ := sl b _ e1 hb
      exact ⟨_, e2⟩
    · exact ⟨o1, k b o1 ⟨o, q⟩ e1 hb⟩
  tups := u.tups
  frzs := u.frzs
  tbls := u.tbls
/-- how an exception lies behind a call: it flies over B, which holds all that is tracked and all that was there, but the frames -/
def CX1 (P : Program) (w : World) : CXT := fun outer H s E e s' => ∃ (ea t C : Addr) (B : Heap) (H' : Hp), e = .ref ea ∧ s'.os = s.os ∧ AllBare s'.gens ∧ Un (frs outer) [] H H' s.heap s'.heap ∧ HOk P w H' s'.heap ∧
  Heap.FlyingW B outer ea (.ref C) (.ref t) s'.heap ∧ (∀ b o, s'.heap.get? b = some o → b ∉ frs outer → ((∃ u, H' b = some u) ∨ ∃ o', s.heap.get? b = some o') → B.get? b = some o) ∧ E (.ref C) none H'
theorem pass1 {X : Cx} {P : Program} {w : World} : Passes (CX1 P w) X E0 := fun _ _ _ _ _ _ _ h => by
  obtain ⟨_, _, _, _, _, _, _, _, _, _, _, _, z⟩ := h
  exact z.elim
section
variable {X : Cx} {pins : List (Addr × Obj)} {σ : St} {H H' : Hp} {s s' : Shared}
theorem Inv.frameData (I : Inv X pins σ H s) {b : Addr} (hb : b ∈ frs X.stack) : ∃ o, s.heap.get? b = some o ∧ ∀ vs, o.data ≠ .fields vs := (I.stack.mem hb).2
/-- the heap moves on under a flying exception: all but the frames is kept -/
theorem Inv.flown (I : Inv X pins σ H s) {B h' : Heap} (un : Un (frs X.stack) [] H H' s.heap s'.heap) (hok : HOk X.prog X.w H' s'.heap) (ho : s'.os = s.os) (hg : AllBare s'.gens)
    (hB : ∀ b o, s'.heap.get? b = some o → b ∉ frs X.stack → ((∃ u, H' b = some u) ∨ ∃ o', s.heap.get? b = some o') → B.get? b = some o) (st : B.StaysIn h') (up : s'.heap.UpToSlots h') :
    Inv X pins σ H' { s' with heap := h' } ∧ HOk X.prog X.w H' h' ∧ Un (frs X.stack) [] H H' s.heap h' := by
  have I' : Inv X pins σ H' s' := I.call' ho un hok hg (ch := []) (fun b z => absurd z (by simp))
  have hok' : HOk X.prog X.w H' h' := fun a u e => by
    have nf : ∀ c v, H' c = some v → c ∉ frs X.stack := fun c v q z => by rw [I'.stkFree c z] at q; cases q
    have kk : ∀ c o, (∃ v, H' c = some v) → s'.heap.get? c = some o → h'.get? c = some o := fun c o ⟨v, q⟩ g => st c o (hB c o g (nf c v q) (.inl ⟨v, q⟩))
    refine (hok a u e).stay (fun c v hc g => kk c v ?_ g) (fun _ q => q) fun _ _ q => q
    rcases hc with rfl | hc
    · exact ⟨_, e⟩
    · exact ⟨_, hc⟩
  have un' : Un (frs X.stack) [] H H' s.heap h' := un.slide (fun b o z g hb => st b o (hB b o g hb (.inr z))) fun b o g hb => by
    obtain ⟨o1, e1, d1⟩ := I'.frameData hb
    rw [e1] at g
    cases g
    exact up b o e1 d1
  exact ⟨I.call' (s' := { s' with heap := h' }) ho un' hok' hg (ch := []) (fun b z => absurd z (by simp)), hok', un'⟩
end
/-- what is wanted of an exception that is raised in the body itself -/
def Flies (X : Cx) (E : XK) : Prop := ∀ (pins : List (Addr × Obj)) (σ : St) (H : Hp) (s : Shared) (e C : Addr) (h' : Heap) (vs : List Value), Inv X pins σ H s → Heap.MadeExcOf s.heap h' e (.ref C) vs → E (.ref C) none H → X.xe (.ref e) { s with heap := h' }
section
variable {P : Program} {w : World} {K : PySem.W.Frag} {mg : Str → Option Value} {base : Heap} {N : List Str} {qual : Str} {scope : Scope} {f : Addr} {cd : Value} {A : Around} {outer : List Env} {s₀ : Shared} {H₀ : Hp} {E : XK}
/-- an exception leaves a def: it lies behind the call -/
theorem fly_out {pins : List (Addr × Obj)} {σ : St} {H : Hp} {s : Shared} {ea t C : Addr} {B h' : Heap} (I : Inv (cxOf (CX1 P w) P w K mg base N qual scope f cd A outer s₀ H₀ E) pins σ H s)
    (hB : ∀ b o, s.heap.get? b = some o → b ∉ frs (envOfC qual scope s₀.heap.objs.size f cd :: outer) → ((∃ u, H b = some u) ∨ ∃ o', s₀.heap.get? b = some o') → B.get? b = some o)
    (fl : Heap.FlyingW B outer ea (.ref C) (.ref t) h') (up : s.heap.UpToSlots h') {s1 : Shared} (ho : s1.os = s.os) (hg : s1.gens = s.gens) (hE : E (.ref C) none H) :
    CX1 P w outer H₀ s₀ E (.ref ea) { s1 with heap := h' } := by
  have nL : ∀ b o, s₀.heap.get? b = some o → b ∉ frs outer → b ∉ frs (envOfC qual scope s₀.heap.objs.size f cd :: outer) := fun b o e hb z => by
    rcases List.mem_cons.mp (I.stkSub b z) with q | q
    · exact absurd (Heap.lt_size e) (by rw [q]; exact Nat.lt_irrefl _)
    · exact hb q
  have hst : B.StaysIn h' := fl.1
  have nf : ∀ c v, H c = some v → c ∉ frs (envOfC qual scope s₀.heap.objs.size f cd :: outer) := fun c v q z => by
    have := I.stkFree c z
    rw [this] at q; cases q
  have kk : ∀ c o, (∃ v, H c = some v) → s.heap.get? c = some o → h'.get? c = some o := fun c o ⟨v, q⟩ g => hst c o (hB c o g (nf c v q) (.inl ⟨v, q⟩))
  have ub : Un (frs outer) [] H₀ H s₀.heap s.heap := I.base
  refine ⟨ea, t, C, B, H, rfl, ho.trans I.os, by show AllBare s1.gens; rw [hg]; exact I.bare, ub.slide (fun b o ⟨o', z⟩ g hb => hst b o (hB b o g (nL b o' z hb) (.inr ⟨o', z⟩))) (fun b o g hb => ?_), fun a u e => ?_, fl, fun b o g hb z => ?_, hE⟩
  · have hb' : b ∈ frs (envOfC qual scope s₀.heap.objs.size f cd :: outer) := by
      unfold frs
      rw [List.filterMap_cons]
      exact List.mem_cons_of_mem _ hb
    obtain ⟨o1, e1, d1⟩ := I.frameData hb'
    rw [e1] at g
    cases g
    exact up b o e1 d1
  · refine (I.hok a u e).stay (fun c v hc g => kk c v ?_ g) (fun _ q => q) fun _ _ q => q
    rcases hc with rfl | hc
    · exact ⟨_, e⟩
    · exact ⟨_, hc⟩
  · rcases z with ⟨v, q⟩ | ⟨o', q⟩
    · obtain ⟨o1, e1⟩ := HOk.obj I.hok q
      have b1 := hB b o1 e1 (nf b v q) (.inl ⟨v, q⟩)
      have := hst b o1 b1
      rw [show h'.get? b = some o from g] at this
      cases this
      exact b1
    · obtain ⟨o1, e1⟩ := ub.there b o' q (by simp)
      have b1 := hB b o1 e1 (nL b o' q hb) (.inr ⟨o', q⟩)
      have := hst b o1 b1
      rw [show h'.get? b = some o from g] at this
      cases this
      exact b1
theorem flies_cx : Flies (cxOf (CX1 P w) P w K mg base N qual scope f cd A outer s₀ H₀ E) E := by
  intro pins σ H s e C h' vs I hx hE
  have hin : ∀ env ∈ (envOfC qual scope s₀.heap.objs.size f cd :: outer), ∀ b, env.frame = some b → b ∈ frs (envOfC qual scope s₀.heap.objs.size f cd :: outer) := fun env he b hb => List.mem_filterMap.mpr ⟨env, he, hb⟩
  show wpAny (model P w) (A.deeper (envOfC qual scope s₀.heap.objs.size f cd)) (leaving (envOfC qual scope s₀.heap.objs.size f cd) (.ref e)) (fun _ s'' => CX1 P w outer H₀ s₀ E (.ref e) s'') (fun e' s'' => CX1 P w outer H₀ s₀ E e' s'') { s with heap := h' }
  refine wpAny_leaves_madeW (base := PySem.W.hideAll s.heap (frs (envOfC qual scope s₀.heap.objs.size f cd :: outer))) I.ok.frames rfl (fun b o q => PySem.W.of_hideAll _ q) (PySem.W.funFrames_hide I.stack hin) hx fun h2 t x1 x2 x3 x4 => ?_
  exact fly_out I (fun b o g hb _ => PySem.W.hideAll_get _ g hb) x1 (fun b o g d => x4 b o (hx.keeps b o g) d) rfl rfl hE
end
section
variable {X : Cx}
/-- raise C(e, ..) -/
def tRaise (C : Addr) (E : XK) (t : TA) : TS := fun _ σ H => t σ H fun vs H1 => vs.length ≤ sizeLine ∧ E (.ref C) none H1
theorem ps_raise {x : Str} {np cpos pos : Pos} {e0 : Expr} {rest : List Expr} {C : Addr} {t : TA} {E : XK} (hc : X.calm = true) (q : XCls X.K C) (hg : Gl X x) (hm : X.mg x = some (.ref C)) (hf : Flies X E) (ha : PA X (e0 :: rest) t)
    (hdb : (x == ("__debug__" : Str)) = false := by decide) (he : starEach (e0 :: rest) X.env = (false, eval e0 X.env) :: starEach rest X.env := by rfl) (hpl : (backTo cpos (starEach rest X.env)).any (·.1) = false := by rfl) :
    PS X (.Raise (some (.Call (.Name x np) (e0 :: rest) [] cpos)) none pos) (tRaise C E t) := by
  intro pins s σ H D I h
  obtain ⟨bm, Nn, nm, qn, bs, hdct, sn, sub, ab, col, dd, k0, k1, k2, k3, k5, mN, hC, hN, hni, T⟩ := XCls.obj I.ok.mod.kin q
  refine wpAny_Raise_call_subU (C := C) (nm := nm) (q := qn) (N := Nn) (bs := bs) (bm := bm) (hdct := hdct) (sn := sn) (sub := sub) (ab := ab) (col := col) (dd := dd) (k0 := k0) (k1 := k1) (k2 := k2) (k3 := k3) (k5 := k5)
    PySem.F.excBase_ValueError (by decide) PySem.F.excBase_ValueError (mN := mN) (T.hasType PySem.F.excBase_ValueError.hasBase) (I.ok.hd hc) ?_ hni (ld_glob I hg hm ⟨rfl, ?_⟩ hdb)
  · rw [he]
    show (false || (backTo cpos (starEach rest X.env)).any (·.1)) = false
    rw [hpl]; rfl
  · have h1 := ha cpos pins s σ H _ I h
    rw [he] at h1 ⊢
    exact Calls.evalArgs_plain (thn h1 fun us s1 ⟨vs, H1, I1, r, z, hE⟩ => ⟨rfl, by rw [← r.length]; exact z, I1.bk _ _ hC, hN.keeps I1.bk, T.keeps I1.bk, fun h' e hx => hf pins σ H1 s1 e C h' us I1 hx hE⟩)
end

abbrev Cx.tr (X : Cx) (pn : List (Addr × Obj)) (W : Value → Shared → Prop) : Cx := { X with pn := pn, xe := W }
abbrev Cx.hdl (X : Cx) (e : Value) : Cx := { X with A := X.A.mark (some e), calm := false, xe := fun _ _ => False }
def PassesE (P : Program) (w : World) (X : Cx) (E : St → XK) : Prop := ∀ (pins : List (Addr × Obj)) (σ : St) (H : Hp) (s : Shared) (e : Value) (s' : Shared), Inv X pins σ H s → CX1 P w X.stack H s (E σ) e s' → X.xe e s'
def EX (C : Addr) (R : St → Hp → Prop) : St → XK := fun σ cls _ H' => cls = .ref C ∧ R σ H'
section
variable {X : Cx} {pins : List (Addr × Obj)} {σ : St} {H : Hp} {s : Shared}
theorem Inv.tr (I : Inv X pins σ H s) (W : Value → Shared → Prop) : Inv (X.tr (X.pn ++ pins) W) [] σ H s :=
  ⟨⟨I.ok.mod, I.ok.kind, I.ok.glob, I.ok.blt, I.ok.above, I.ok.inj, I.ok.has, I.ok.cab, I.ok.hd, I.ok.frames, I.ok.stk, I.ok.exf, I.ok.bs, I.ok.bsz, I.ok.noex, I.ok.exfs, I.ok.funs, I.ok.frf⟩,
    I.os, I.bare, I.base, I.loc, I.cell, I.free, I.freeC, fun p hp => I.pin p (by simpa using hp), I.hok, I.len⟩
theorem Inv.untr {W : Value → Shared → Prop} {pins' : List (Addr × Obj)} (I : Inv (X.tr (X.pn ++ pins) W) pins' σ H s) : Inv X pins σ H s :=
  ⟨⟨I.ok.mod, I.ok.kind, I.ok.glob, I.ok.blt, I.ok.above, I.ok.inj, I.ok.has, I.ok.cab, I.ok.hd, I.ok.frames, I.ok.stk, I.ok.exf, I.ok.bs, I.ok.bsz, I.ok.noex, I.ok.exfs, I.ok.funs, I.ok.frf⟩,
    I.os, I.bare, I.base, I.loc, I.cell, I.free, I.freeC, fun p hp => I.pin p (List.mem_append_left _ hp), I.hok, I.len⟩
theorem Inv.hdl (I : Inv X pins σ H s) (e : Value) : Inv (X.hdl e) pins σ H s :=
  ⟨⟨I.ok.mod, I.ok.kind, I.ok.glob, I.ok.blt, I.ok.above, I.ok.inj, I.ok.has, I.ok.cab, (fun z => by cases z), I.ok.frames, I.ok.stk, I.ok.exf, I.ok.bs, I.ok.bsz, I.ok.noex, I.ok.exfs, I.ok.funs, I.ok.frf⟩,
    I.os, I.bare, I.base, I.loc, I.cell, I.free, I.freeC, I.pin, I.hok, I.len⟩
theorem Inv.unhdl {e : Value} (hd : X.calm = true → X.A.handled = none) (I : Inv (X.hdl e) pins σ H s) : Inv X pins σ H s :=
  ⟨⟨I.ok.mod, I.ok.kind, I.ok.glob, I.ok.blt, I.ok.above, I.ok.inj, I.ok.has, I.ok.cab, hd, I.ok.frames, I.ok.stk, I.ok.exf, I.ok.bs, I.ok.bsz, I.ok.noex, I.ok.exfs, I.ok.funs, I.ok.frf⟩,
    I.os, I.bare, I.base, I.loc, I.cell, I.free, I.freeC, I.pin, I.hok, I.len⟩
end
section
variable {X : Cx} {k : Nat} {f C : Addr} {fd : FuncData} {ps : List Str} {sp : Sp} {dvs : List V} {ds : List Value} {E : St → XK} {x m : Str} {p pos apos : Pos} {e o : Expr} {es : List Expr} {ta : TE} {t : TA}
def tMethE (C : Addr) (m : Str) (sp : Sp) (dvs : List V) (E : St → XK) (ta : TE) (t : TA) : TE := fun σ H Q => ta σ H fun x H1 => ∃ a dx fs, x = .ref a ∧ H1 a = some (.ins C dx fs) ∧ fs.lookup m = none ∧
  t σ H1 fun vs H2 => sp (x :: (vs ++ dvs)) H2 Q (E σ)
theorem run_fnE {pins : List (Addr × Obj)} {σ : St} {H : Hp} {s : Shared} {Q : VK} {us : List Value} {vs : List V} (F : FnOk X.prog X.w X.K X.mg X.base (CX1 X.prog X.w) k f fd ps sp) (hr : Room k X.A) (hb : Binds X.K fd ps ds) (hd : Vals dvs ds) (hx : PassesE X.prog X.w X E)
    (I : Inv X pins σ H s) (r : Vals vs us) (h : sp (vs ++ dvs) H Q (E σ)) : wpAny (model X.prog X.w) X.A (call (.ref f) us) (EP X pins σ Q) X.xe s := by
  have r2 : Vals (vs ++ dvs) (us ++ ds) := r.append hd
  have hl : (us ++ ds).length = ps.length := by rw [← r2.length]; exact F.len _ _ _ _ h
  refine wpAny_call (codeAny_mono (F.run X.A X.stack s H ⟨us, []⟩ (us ++ ds) (vs ++ dvs) Q (E σ) hr I.env0 (hb s us I.kIn hl) r2 h) fun r s' hq => ?_)
  cases r with
  | error e => exact hx pins σ H s e s' I hq
  | ok fl =>
    cases fl with
    | ret u => exact I.after hq
    | next => exact False.elim hq
    | brk => exact False.elim hq
    | cont => exact False.elim hq
end
section
variable {X : Cx}
end
section
variable {P : Program} {w : World} {K : PySem.W.Frag} {mg : Str → Option Value} {base : Heap}
/-- a def that lets an exception out -/
theorem Fun.okX {x qual : Str} {st : Stmt} {f : Addr} {fd : FuncData} {N ps : List Str} {k : Nat} {sp : Sp} (F : Fun K x qual st f fd) (S : FnScope N ps (defScope st)) (len : ∀ vs H Q E, sp vs H Q E → vs.length = ps.length)
    (hbody : ∀ (cdv : Value) (A : Around) (outer : List Env) (s : Shared) (H : Hp) (vs : List V) (Q : VK) (E : XK), Room k (A.deeper (envOfC qual (defScope st) s.heap.objs.size f cdv)) → sp vs H Q E →
      ∃ t, PSs (cxOf (CX1 P w) P w K mg base N qual (defScope st) f cdv A outer s H E) (defBody st) t ∧ t { nx := fun _ H' => Q .non H', rt := Q } (start N vs) H) : FnOk P w K mg base (CX1 P w) (k + 1) f fd ps sp := by
  obtain ⟨oc, od, kV, doc, pm, an, cdv, ct, osl, rfl, lk, hcd⟩ := F.ex
  exact fn_of lk hcd S len fun A outer s H vs Q E hr hsp => hbody cdv A outer s H vs Q E hr hsp
/-- a def that lets none out -/
theorem Fun.okC {CX : CXT} {x qual : Str} {st : Stmt} {f : Addr} {fd : FuncData} {N ps : List Str} {k : Nat} {sp : Sp} (F : Fun K x qual st f fd) (S : FnScope N ps (defScope st)) (len : ∀ vs H Q E, sp vs H Q E → vs.length = ps.length)
    (hbody : ∀ (cdv : Value) (A : Around) (outer : List Env) (s : Shared) (H : Hp) (vs : List V) (Q : VK) (E : XK), Room k (A.deeper (envOfC qual (defScope st) s.heap.objs.size f cdv)) → sp vs H Q E →
      ∃ t, PSs (cxOf CX P w K mg base N qual (defScope st) f cdv A outer s H E).nox (defBody st) t ∧ t { nx := fun _ H' => Q .non H', rt := Q } (start N vs) H) : FnOk P w K mg base CX (k + 1) f fd ps sp := by
  obtain ⟨oc, od, kV, doc, pm, an, cdv, ct, osl, rfl, lk, hcd⟩ := F.ex
  refine fn_of lk hcd S len fun A outer s H vs Q E hr hsp => ?_
  obtain ⟨t, h, q⟩ := hbody cdv A outer s H vs Q E hr hsp
  exact ⟨t, h.nox, q⟩
end
end L2

set_option Elab.async false
set_option linter.all false
set_option maxRecDepth 100000
namespace L2
open PySem PySem.Spec PyProof.Rows
section
variable {X : Cx}
/-- f'text{int}' -/
def tFstr (te : TE) : TE := fun σ H Q => te σ H fun x H1 => ∃ i, x = .int i ∧ i.natAbs.log2 < 1920 ∧ ∀ z, Q (.str z) H1
end

section
variable {X : Cx}
end
end L2

set_option Elab.async false
set_option linter.all false
set_option maxRecDepth 100000
namespace L2
open PySem PySem.Spec PyProof.Rows
def keyOf : V → Option Key
  | .int i => some (.inl i)
  | .str z => some (.inr z)
  | _ => none
theorem keyOf_int {i : Int} : keyOf (.int i) = some (.inl i) := rfl
theorem keyOf_str {i : Str} : keyOf (.str i) = some (.inr i) := rfl
def tDGetF (td ty : TE) : TE := fun σ H Q => td σ H fun x H1 => ty σ H1 fun y H2 => ∃ d k kvs v, x = .ref d ∧ keyOf y = some k ∧ H2 d = some (.dK kvs) ∧ valV kvs k = some v ∧ Q v H2
def tDInF (ty td : TE) : TE := fun σ H Q => ty σ H fun y H1 => td σ H1 fun x H2 => ∃ d k kvs, x = .ref d ∧ keyOf y = some k ∧ H2 d = some (.dK kvs) ∧ Q (.bl (valV kvs k).isSome) H2
def tDNotInF (ty td : TE) : TE := fun σ H Q => ty σ H fun y H1 => td σ H1 fun x H2 => ∃ d k kvs, x = .ref d ∧ keyOf y = some k ∧ H2 d = some (.dK kvs) ∧ Q (.bl (!(valV kvs k).isSome)) H2
def sDPutF (td ty tv : TE) : TS := fun D σ H => tv σ H fun v H1 => td σ H1 fun x H2 => ty σ H2 fun y H3 => ∃ d k kvs, x = .ref d ∧ keyOf y = some k ∧ H3 d = some (.dK kvs) ∧ kvs.length < sizeLine ∧ D.nx σ (upd H3 d (.dK (putK kvs k v)))
section
variable {X : Cx} {o i e value : Expr} {pos pos' tpos : Pos} {td ty tv : TE}
end
end L2

set_option Elab.async false
set_option linter.all false
set_option maxRecDepth 100000
namespace L2
open PySem PySem.Spec PyProof.Rows
theorem cxOf_K {CX : CXT} {P : Program} {w : World} {K : PySem.W.Frag} {mg : Str → Option Value} {base : Heap} {N : List Str} {qual : Str} {scope : Scope} {f : Addr} {cd : Value} {A : Around} {outer : List Env} {s₀ : Shared} {H₀ : Hp} {E : XK} :
    (cxOf CX P w K mg base N qual scope f cd A outer s₀ H₀ E).K = K := rfl
theorem forL {K : PySem.W.Frag} {tl : TE} {g : TG} {tb : TS} {D : Ends} {σ : St} {H H1 : Hp} (a : Addr) (xs : List V) (hr : ∀ Q, Q (.ref a) H1 → tl σ H Q) (Pv : Nat → St → Hp → Prop) (h0 : Pv 0 σ H1) (hl : ∀ i σ H, i ≤ xs.length → Pv i σ H → SqL K H a xs)
    (hs : ∀ i x σ H, xs[i]? = some x → Pv i σ H → g x σ H fun σ2 H2 => tb { D with nx := Pv (i + 1), ct := Pv (i + 1), bk := D.nx } σ2 H2) (hd : ∀ σ H, Pv xs.length σ H → D.nx σ H) :
    tFor (iList K tl) g tb D σ H := hr _ ⟨a, rfl, ⟨xs, hl 0 σ H1 (Nat.zero_le _) h0⟩, for_list Pv h0 hl hs hd⟩
theorem comp1 {cap : List (Option Nat)} {ta : TA} {g : TG} {tt : TT} {te : TE} {σ : St} {H H1 : Hp} {Q : VK} (n : Int) (hr : ∀ Q, Q [.int n] H1 → ta σ H Q) (n0 : -(2 ^ 62) ≤ n) (n1 : n < 2 ^ 62) (Pv : Addr → Nat → List V → Hp → Prop) (h0 : ∀ D, H1 D = none → Pv D 0 [] (upd H1 D (.lst [])))
    (hl : ∀ D, H1 D = none → ∀ i ys H, i ≤ n.toNat → Pv D i ys H → H D = some (.lst ys) ∧ ys.length ≤ i) (hz : n.toNat ≤ sizeLine)
    (hs : ∀ D, H1 D = none → ∀ i ys H, i < n.toNat → Pv D i ys H → g (.int (0 + i)) (capSt cap σ) H fun σ4 H4 => tt σ4 H4 fun b H5 => if b = true then te σ4 H5 fun y H6 => H6 D = some (.lst ys) ∧ Pv D (i + 1) (ys ++ [y]) (upd H6 D (.lst (ys ++ [y]))) else Pv D (i + 1) ys H5)
    (hd : ∀ D, H1 D = none → ∀ ys H, Pv D n.toNat ys H → Q (.ref D) H) : tComp cap (iRng1 ta) g tt te σ H Q := hr _ ⟨n, rfl, n0, n1, fun D hD => comp_range (R := fun H => Q (.ref D) H) (Pv D) (h0 D hD) (hl D hD) hz (hs D hD) (hd D hD)⟩
theorem comp1_ {cap : List (Option Nat)} {ta : TA} {g : TG} {tt : TT} {te : TE} {σ : St} {H : Hp} {Q : VK} (Pre : Int → Hp → Prop) (hr : ∀ Q, (∀ n H1, Pre n H1 → Q [.int n] H1) → ta σ H Q)
    (h : ∀ n H1, Pre n H1 → tComp cap (iRng1 (tCons (tC (.int n)) tNil)) g tt te σ H1 Q) : tComp cap (iRng1 ta) g tt te σ H Q := hr _ fun a H1 p => h a H1 p
theorem gTup_of {K : PySem.W.Frag} {n : Nat} {t : TGs} {a : Addr} {xs : List V} {σ : St} {H : Hp} {Q : St → Hp → Prop} (h : H a = some (.tup xs)) (hl : xs.length = n) (q : t xs σ H Q) : gTup K n t (.ref a) σ H Q := ⟨a, xs, rfl, .of h, hl, q⟩
abbrev Th := Int × List Int × List Int
def thSz (t : Th) : Int := 1 + t.2.1.length + t.2.2.length
def Lay : Int → List Th → Int → Prop
  | s, [], f => f = s
  | s, t :: r, f => t.1 = s ∧ Lay (s + thSz t) r f
theorem thSz_pos (t : Th) : 1 ≤ thSz t := by unfold thSz; omega
theorem Lay.le : ∀ {ts : List Th} {s f : Int}, Lay s ts f → s ≤ f
  | [], s, f, h => by cases (show f = s from h); exact Int.le_refl _
  | u :: r, s, f, ⟨h1, h2⟩ => by have := Lay.le h2; have := thSz_pos u; omega
theorem Lay.mem : ∀ {ts : List Th} {s f : Int} {t : Th}, Lay s ts f → t ∈ ts → s ≤ t.1 ∧ t.1 + thSz t ≤ f
  | [], s, f, t, h, m => by cases m
  | u :: r, s, f, t, ⟨h1, h2⟩, m => by
    have p := thSz_pos u
    rcases List.mem_cons.mp m with e | m
    · subst e; have := Lay.le h2; omega
    · have := Lay.mem h2 m; omega
theorem Lay.apart : ∀ {ts : List Th} {s f : Int} {t t' : Th}, Lay s ts f → t ∈ ts → t' ∈ ts → t.1 < t'.1 → t.1 + thSz t ≤ t'.1
  | [], s, f, t, t', h, m, _, _ => by cases m
  | u :: r, s, f, t, t', ⟨h1, h2⟩, m, m', lt => by
    rcases List.mem_cons.mp m with e | n <;> rcases List.mem_cons.mp m' with e' | n'
    · subst e; subst e'; omega
    · subst e; have := Lay.mem h2 n'; omega
    · subst e'; have := Lay.mem h2 n; have := thSz_pos t'; omega
    · exact Lay.apart h2 n n' lt
theorem Lay.sum : ∀ {ts : List Th} {s f : Int}, Lay s ts f → f = s + (ts.map thSz).sum
  | [], s, f, h => by cases (show f = s from h); simp
  | u :: r, s, f, ⟨h1, h2⟩ => by have := Lay.sum h2; rw [List.map_cons, List.sum_cons]; omega
theorem Lay.set : ∀ {ts : List Th} {s f : Int} {k : Nat} {t t' : Th}, Lay s ts f → ts[k]? = some t → t'.1 = t.1 → thSz t' = thSz t → Lay s (ts.set k t') f
  | [], s, f, k, t, t', h, hk, _, _ => by simp at hk
  | u :: r, s, f, 0, t, t', ⟨h1, h2⟩, hk, e1, e2 => by
    simp at hk; subst hk
    rw [List.set_cons_zero]
    exact ⟨by omega, by rw [e2]; exact h2⟩
  | u :: r, s, f, k + 1, t, t', ⟨h1, h2⟩, hk, e1, e2 => by
    rw [List.getElem?_cons_succ] at hk
    rw [List.set_cons_succ]
    exact ⟨h1, Lay.set h2 hk e1 e2⟩
end L2

set_option Elab.async false
set_option linter.all false
set_option maxRecDepth 100000
namespace L2
open PySem PySem.Spec PyProof.Rows
def rEqE (neg : Bool) : R2 := fun x y H Q => ∃ l b xs, x = .ref l ∧ y = .ref b ∧ seqV H l = some xs ∧ kindV H l = some true ∧ seqV H b = some [] ∧ kindV H b = some true ∧ Q (.bl (if neg then !xs.isEmpty else xs.isEmpty)) H
theorem none_eqAt {A : Around} {s : Shared} {us : List Value} (h : us.length = 0) (ws : List Value) :
    ∀ j (h1 : j < us.toArray.size) (h2 : j < ws.toArray.size), SeqAt.EqAt A s us.toArray[j] ws.toArray[j] ((fun _ => true) j) := by
  intro j h1 h2
  simp only [List.size_toArray] at h1
  omega
section
variable {X : Cx}
theorem op_eqE (hu : X.A.units + 1 < cLine) : OpR X (compareOp .Eq) (rEqE false) := by
  intro pins s σ H x y v u Q I rx ry h
  obtain ⟨l, b, xs, rfl, rfl, h1, k1, h2, k2, q⟩ := h
  cases rx
  cases ry
  obtain ⟨us, r1, p1, z1⟩ := I.list (kindV_l (K := X.K) h1 k1)
  obtain ⟨ws, r2, p2, z2⟩ := I.list (kindV_l (K := X.K) h2 k2)
  have l1 := r1.length
  have l2 := r2.length
  cases xs with
  | nil =>
    refine SeqAt.eq_listAt p1.isList p2.isList (by simp at l1 l2 ⊢; omega) (by omega) (none_eqAt (by simpa using l1.symm) ws) ⟨.bl _, H, I, rfl, ?_⟩
    have e : (List.range us.toArray.size).all (fun _ => true) = true := by simp
    rw [e]
    exact q
  | cons x xs =>
    refine SeqAt.eq_list_lengthsAt p1.isList p2.isList (by simp at l1 l2 ⊢; omega) (by omega) ⟨.bl _, H, I, rfl, ?_⟩
    exact q
theorem op_neE (hu : X.A.units + 1 < cLine) : OpR X (compareOp .NotEq) (rEqE true) := by
  intro pins s σ H x y v u Q I rx ry h
  obtain ⟨l, b, xs, rfl, rfl, h1, k1, h2, k2, q⟩ := h
  cases rx
  cases ry
  obtain ⟨us, r1, p1, z1⟩ := I.list (kindV_l (K := X.K) h1 k1)
  obtain ⟨ws, r2, p2, z2⟩ := I.list (kindV_l (K := X.K) h2 k2)
  have l1 := r1.length
  have l2 := r2.length
  cases xs with
  | nil =>
    refine SeqAt.RcNeAt.lists p1.isList p2.isList (by simp at l1 l2 ⊢; omega) (by omega) (none_eqAt (by simpa using l1.symm) ws) _ _ _ _ ⟨.bl _, H, I, rfl, ?_⟩
    have e : (List.range us.toArray.size).all (fun _ => true) = true := by simp
    rw [e]
    exact q
  | cons x xs =>
    refine SeqAt.RcNeAt.lists_lengths p1.isList p2.isList (by simp at l1 l2 ⊢; omega) (by omega) _ _ _ _ ⟨.bl _, H, I, rfl, ?_⟩
    exact q
end
end L2

set_option Elab.async false
set_option linter.all false
set_option maxRecDepth 100000
namespace L2
open PySem PySem.Spec PyProof.Rows
section
variable {prog : Program} {w : World} {K : Type} [DecidableEq K] {knd : KeyKind prog w K} {A : Around} {E : Value → Shared → Prop} {s : Shared}
end
theorem compS {cap : List (Option Nat)} {tl : TE} {g : TG} {tt : TT} {te : TE} {σ : St} {H H1 : Hp} {Q : VK} (z : Str) (hr : ∀ Q, Q (.str z) H1 → tl σ H Q) (ha : z.cps.all (· < 128) = true) (Pv : Addr → Nat → List V → Hp → Prop) (h0 : ∀ D, H1 D = none → Pv D 0 [] (upd H1 D (.lst [])))
    (hl : ∀ D, H1 D = none → ∀ i ys H, i ≤ z.cps.size → Pv D i ys H → H D = some (.lst ys) ∧ ys.length ≤ i) (hz : z.cps.size ≤ sizeLine)
    (hs : ∀ D, H1 D = none → ∀ i c ys H, z.cps[i]? = some c → Pv D i ys H → g (.str ⟨#[c]⟩) (capSt cap σ) H fun σ4 H4 => tt σ4 H4 fun b H5 => if b = true then te σ4 H5 fun y H6 => H6 D = some (.lst ys) ∧ Pv D (i + 1) (ys ++ [y]) (upd H6 D (.lst (ys ++ [y]))) else Pv D (i + 1) ys H5)
    (hd : ∀ D, H1 D = none → ∀ ys H, Pv D z.cps.size ys H → Q (.ref D) H) : tComp cap (iStr tl) g tt te σ H Q := by
  refine hr _ ⟨z, rfl, ha, fun D hD => ⟨fun i m ys H => m = z.cps.size - i ∧ i ≤ z.cps.size ∧ Pv D i ys H, ⟨z.cps.size, by simp, Nat.zero_le _, h0 D hD⟩, ?_⟩⟩
  rintro i m ys H2 ⟨rfl, hi, p⟩
  obtain ⟨e1, e2⟩ := hl D hD i ys H2 hi p
  refine ⟨e1, ?_⟩
  by_cases c : i < z.cps.size
  · refine .inr ⟨c, by omega, Pv D (i + 1), fun ys' H' p' => ⟨z.cps.size - (i + 1), by omega, rfl, c, p'⟩, fun x H3 y => ?_⟩
    obtain ⟨rfl, c', e, rfl⟩ := y
    exact hs D hD i c' ys _ e p
  · have e : i = z.cps.size := by omega
    subst e
    exact .inl ⟨Nat.le_refl _, hd D hD ys H2 p⟩
end L2

set_option Elab.async false
set_option linter.all false
set_option maxRecDepth 100000
namespace L2
open PySem PySem.Spec PyProof.Rows
section
variable {prog : Program} {w : World} {A : Around} {E : Value → Shared → Prop} {s : Shared} {a₀ : Array Keyed}
end
section
variable {prog : Program} {w : World} {A : Around} {E : Value → Shared → Prop} {s : Shared} {T : String} {r d : Addr} {n : Nat} {P : Nat → Value → Prop} {OK : Heap → Prop} {Q : Value → Shared → Prop}
end
section
variable {X : Cx}
end
end L2

set_option Elab.async false
set_option linter.all false
set_option maxRecDepth 100000
namespace L2
open PySem PySem.Spec PyProof.Rows
def stepO (ord : List Int) (h : Int) : List Int := if h = 0 ∨ h ∈ ord then ord else ord ++ [h]
def layO (ord hs : List Int) : List Int := hs.foldl stepO ord
theorem layO_app {ord a b : List Int} : layO ord (a ++ b) = layO (layO ord a) b := List.foldl_append
theorem stepO_pre {ord : List Int} {h : Int} : ord <+: stepO ord h := by
  unfold stepO
  split
  · exact List.prefix_refl _
  · exact List.prefix_append _ _
theorem layO_pre : ∀ {hs ord : List Int}, ord <+: layO ord hs
  | [], _ => List.prefix_refl _
  | h :: hs, ord => stepO_pre.trans (layO_pre (hs := hs))
theorem layO_mono {a b : List Int} (h : a <+: b) : layO [] a <+: layO [] b := by
  obtain ⟨c, rfl⟩ := h
  rw [layO_app]
  exact layO_pre
def thAt (ts : List Th) (z : Int) : Th := (ts.find? fun t => t.1 == z).getD (0, [], [])
def holdsAt (ts : List Th) (z : Int) : List Int := (thAt ts z).2.1
def stream (ts : List Th) (roots ord : List Int) : List Int := roots ++ ord.flatMap (holdsAt ts)
theorem stream_pre {ts : List Th} {roots a b : List Int} (h : a <+: b) : stream ts roots a <+: stream ts roots b := by
  obtain ⟨c, rfl⟩ := h
  unfold stream
  rw [List.flatMap_append, ← List.append_assoc]
  exact List.prefix_append _ _
structure Cart (ts : List Th) (roots ord : List Int) : Prop where
  fix : layO [] (stream ts roots ord) = ord
  led : ∀ n, n < ord.length → ord.take (n + 1) <+: layO [] (stream ts roots (ord.take n))
theorem Cart.one {ts : List Th} {roots o1 o2 : List Int} (c1 : Cart ts roots o1) (c2 : Cart ts roots o2) : ∀ n, n ≤ o1.length → o1.take n = o2.take n ∧ n ≤ o2.length
  | 0, _ => ⟨rfl, Nat.zero_le _⟩
  | n + 1, h => by
    obtain ⟨e, l⟩ := Cart.one c1 c2 n (by omega)
    have p1 := c1.led n (by omega)
    rw [e] at p1
    have p2 : layO [] (stream ts roots (o2.take n)) <+: o2 := by
      have := layO_mono (stream_pre (ts := ts) (roots := roots) (List.take_prefix n o2))
      rw [c2.fix] at this
      exact this
    have p := p1.trans p2
    have len : (o1.take (n + 1)).length = n + 1 := by rw [List.length_take]; omega
    have e2 := List.prefix_iff_eq_take.mp p
    rw [len] at e2
    exact ⟨e2, by have := p.length_le; omega⟩
end L2

set_option Elab.async false
set_option linter.all false
set_option maxRecDepth 100000
namespace L2
open PySem PySem.Spec PyProof.Rows
section
variable {X : Cx}
end
end L2

set_option Elab.async false
set_option linter.all false
set_option maxRecDepth 100000
namespace PySem
namespace F
end F
/-- what a walk of a set finds at its place i, and where it stands then -/
structure SetWalked (w : World) (a : Addr) (es : Array (Int × Value)) (ep : Nat) (t : SetTable) : Prop where
  fits : t.fits es.size = true
  plain : t.plain = true
  led : t.led = !w.params.followText "set-order"
  rise : ∀ i j, i < j → j < es.size → t.place.getD i 0 < t.place.getD j 0
end PySem
namespace PySem
section
variable {prog : Program} {w : World} {A : Around} {E : Value → Shared → Prop} {s : Shared}
end
end PySem
namespace PySem
end PySem
namespace PySem
section
variable {prog : Program} {w : World} {A : Around} {E : Value → Shared → Prop} {s : Shared}
end
end PySem
namespace PySem
section
variable {prog : Program} {w : World} {A : Around} {R : Result → Shared → Prop} {I : Addr} {fp wr : List Addr} {G : Array GenState → Array GenState → Prop} {n : Nat} {P : Nat → Value → Prop} {St : Nat → Shared → Prop}
end
section
variable {prog : Program} {w : World} {A : Around} {E : Value → Shared → Prop} {s : Shared}
end
end PySem

namespace PySem.W
section
variable {prog : Program} {w : World} {A : Around} {E : Value → Shared → Prop} {s : Shared} {r : Addr} {Q : Bool → Shared → Prop}
end
end PySem.W

set_option Elab.async false
set_option linter.all false
set_option maxRecDepth 100000
namespace L2
open PySem PySem.Spec PyProof.Rows
/-- a set of ints at a that holds just ns -/
def SetO (w : World) (a : Addr) (ns : List Int) : HO := .ext fun h => ∃ es ep t ms, h.get? a = some { cls := .type "set", data := .set es ep t } ∧ SetWalked w a es ep t ∧ IntsAre (es.toList.map (·.2)) ms ∧ ms.Perm ns
section
variable {X : Cx}
end
end L2

set_option Elab.async false
set_option linter.all false
set_option maxRecDepth 100000
namespace L2
open PySem PySem.Spec PyProof.Rows
section
variable {X : Cx}
end
section
variable {X : Cx} {K : PySem.W.Frag}
theorem op_in_seqK (hk : X.K = K) : OpR X (compareOp .In) (rIn K false) := by subst hk; exact op_in_seq
end
end L2

set_option Elab.async false
set_option linter.all false
set_option maxRecDepth 100000
namespace L2
open PySem PySem.Spec PyProof.Rows
section
variable {prog : Program} {w : World} {A : Around} {E : Value → Shared → Prop} {s : Shared} {a : Addr} {D : List (Str × V)} {k : Str} {tk : Tok}
end
section
variable {X : Cx} {o i e : Expr} {pos apos cpos : Pos} {td ty : TE} {K : PySem.W.Frag}
end
end L2

set_option Elab.async false
set_option linter.all false
set_option maxRecDepth 100000
namespace L2
open PySem PySem.Spec PyProof.Rows
section
variable {X : Cx}
theorem vals_bl {bs : List Bool} : ∀ {us : List Value} {i : Nat} {v : Value}, Vals (bs.map V.bl) us → us[i]? = some v → v = .bool (bs.getD i false) := by
  intro us i v r e
  have hl : i < us.length := by
    rcases Nat.lt_or_ge i us.length with h | h
    · exact h
    · rw [List.getElem?_eq_none h] at e; cases e
  have hl2 : i < (bs.map V.bl).length := by rw [r.length]; exact hl
  have e2 : (bs.map V.bl)[i]? = some (.bl (bs.getD i false)) := by
    rw [List.length_map] at hl2
    rw [List.getElem?_map, List.getElem?_eq_getElem hl2, List.getD_eq_getElem?_getD, List.getElem?_eq_getElem hl2]
    rfl
  obtain ⟨u, h1, h2⟩ := Vals.get r e2
  rw [e] at h1
  cases h1
  exact h2
theorem range_all_getD (bs : List Bool) : ((List.range bs.length).all fun i => bs.getD i false) = bs.all id := by
  rw [Bool.eq_iff_iff, List.all_eq_true, List.all_eq_true]
  constructor
  · intro h x hx
    obtain ⟨i, hi, rfl⟩ := List.mem_iff_getElem.mp hx
    have := h i (List.mem_range.mpr hi)
    rw [List.getD_eq_getElem?_getD, List.getElem?_eq_getElem hi] at this
    exact this
  · intro h i hi
    have hi := List.mem_range.mp hi
    have := h _ (List.getElem_mem hi)
    rw [List.getD_eq_getElem?_getD, List.getElem?_eq_getElem hi]
    exact this
theorem call_all (hc : X.calm = true) : CallR X (.builtin "all") (fun xs H Q => ∃ (l : Addr) (bs : List Bool), xs = [.ref l] ∧ seqV H l = some (bs.map V.bl) ∧ kindV H l = some true ∧ Q (.bl (bs.all id)) H) := by
  intro pins s σ H xs us Q I r h
  obtain ⟨l, bs, rfl, hl, hk, q⟩ := h
  obtain ⟨u, rfl, ru⟩ := vals1 r
  cases ru
  obtain ⟨its, rv, pl, hz⟩ := I.list (kindV_l hl hk)
  have hlt : l < s.heap.objs.size := by obtain ⟨o, e, _⟩ := pl.isList; exact Heap.lt_size e
  refine call_all_walkS (wpAny_pyIter_list pl.isList ?_)
  have hlen : its.toArray.size = bs.length := by rw [List.size_toArray, ← rv.length, List.length_map]
  refine ⟨s.heap.objs.size, _, _, _, _, _, _, fun i => bs.getD i false, rfl, (Walks.list (A := X.A.in1) (show X.A.in1.handled = none from I.ok.hd hc) s.heap.objs.size l (Nat.ne_of_lt hlt) its.toArray).toS, ?_, ?_, ?_⟩
  · exact ⟨⟨_, Heap.get?_push_size _ rfl, rfl, rfl⟩, pl.isList.push _⟩
  · intro i v s2 Q2 E2 hv hQ
    have e := vals_bl rv (i := i) (v := v) (by simpa using hv)
    subst e
    exact wpAny_truthy_bool hQ
  · intro s' hm
    obtain ⟨h', g', d', k', o'⟩ := s'
    obtain rfl : g' = s.gens := hm.gens
    obtain rfl : d' = s.drawn := hm.drawn
    obtain rfl : o' = s.os := hm.os
    have kk : ∀ b o, s.heap.get? b = some o → h'.get? b = some o := fun b o e => hm.heap b o (fun z => absurd (Heap.lt_size e) (by rw [List.mem_singleton.mp z]; exact Nat.lt_irrefl _)) (Heap.get?_push_of_some _ e)
    refine ⟨.bl (bs.all id), H, I.kept (t' := k') kk, ?_, q⟩
    show _ = _
    rw [hlen, range_all_getD]
theorem upd_newS {H1 H : Hp} {D : Addr} {u : HO} (S : Same H1 H) (hD : H1 D = none) : Same H1 (upd H D u) := fun q o h => by
  rw [upd_ne (fun e => by rw [e, hD] at h; cases h)]
  exact S q o h
theorem take_fm {α β : Type} (f : α → Option β) (xs : List α) (i : Nat) (x : α) (h : xs[i]? = some x) : (xs.take (i + 1)).filterMap f = (xs.take i).filterMap f ++ (f x).toList := by
  rw [List.take_succ, h, List.filterMap_append]
  cases e : f x <;> simp [e]
theorem range_fm {β : Type} (f : Nat → Option β) (i : Nat) : (List.range (i + 1)).filterMap f = (List.range i).filterMap f ++ (f i).toList := by
  rw [List.range_succ, List.filterMap_append]
  cases e : f i <;> simp [e]
theorem comp1S {cap : List (Option Nat)} {ta : TA} {g : TG} {tt : TT} {te : TE} {σ : St} {H H1 : Hp} {Q : VK} (n : Int) (f : Nat → Option V) (hr : ∀ Q, Q [.int n] H1 → ta σ H Q) (n0 : -(2 ^ 62) ≤ n) (n1 : n < 2 ^ 62) (hz : n.toNat ≤ sizeLine)
    (hs : ∀ i H (R : V → Hp → Prop) (N : Hp → Prop), i < n.toNat → Same H1 H → (∀ y H', f i = some y → Same H H' → R y H') → (f i = none → ∀ H', Same H H' → N H') → g (.int (0 + i)) (capSt cap σ) H fun σ4 H4 => tt σ4 H4 fun b H5 => if b = true then te σ4 H5 R else N H5)
    (hd : ∀ D H', H1 D = none → Same H1 H' → H' D = some (.lst ((List.range n.toNat).filterMap f)) → Q (.ref D) H') : tComp cap (iRng1 ta) g tt te σ H Q := by
  refine comp1 n hr n0 n1 (fun D i ys H2 => Same H1 H2 ∧ H2 D = some (.lst ys) ∧ ys = (List.range i).filterMap f) (fun D hD => ⟨upd_newS (fun _ _ h => h) hD, upd_same, rfl⟩) ?_ hz ?_ ?_
  · rintro D hD i ys H2 hi ⟨S, h2, e⟩
    refine ⟨h2, ?_⟩
    rw [e]
    exact Nat.le_trans (List.length_filterMap_le _ _) (by rw [List.length_range]; omega)
  · rintro D hD i ys H2 hi ⟨S, h2, e⟩
    refine hs i H2 _ _ hi S (fun y H' ey S2 => ⟨S2 _ _ h2, upd_newS (fun q o h => S2 _ _ (S _ _ h)) hD, upd_same, ?_⟩) (fun ey H' S2 => ⟨fun q o h => S2 _ _ (S _ _ h), S2 _ _ h2, ?_⟩)
    · rw [range_fm f i, ey, e]; rfl
    · rw [range_fm f i, ey, e]; simp
  · rintro D hD ys H2 ⟨S, h2, e⟩
    refine hd D H2 hD S ?_
    rw [h2, e]
end
end L2

set_option Elab.async false
set_option linter.all false
set_option maxRecDepth 100000
namespace L2
open PySem PySem.Spec PyProof.Rows
section
variable {X : Cx}
end
end L2

set_option Elab.async false
set_option linter.all false
set_option maxRecDepth 100000
namespace L2
open PySem PySem.Spec PyProof.Rows
section
variable {X : Cx} {es : List Expr} {t te : TA} {s : Str} {i : Int} {j : Nat} {p : Pos}
theorem pa_cstr (h : PA X es t) : PA X (.Constant (.str s) j p :: es) (tCons (tC (.str s)) t) := pa_cons pe_str h rfl
theorem pa_cint (h : PA X es t) : PA X (.Constant (.int i) j p :: es) (tCons (tC (.int i)) t) := pa_cons pe_int h rfl
theorem pa_cname {x : Str} {te : TE} (h1 : PE X (.Name x p) te) (h : PA X es t) : PA X (.Name x p :: es) (tCons te t) := pa_cons h1 h rfl
end
theorem ps_setL {X : Cx} {i : Nat} {x : Str} {es : List Expr} {t : TA} {pos pos' p : Pos} (hN : X.N.Nodup) (hi : X.N[i]? = some x) (hx : Loc X.env.scope x) (he : PA X es t) (hf : X.fn x = true ∨ X.env.scope.names.lookup x = some .local := by first | exact .inl rfl | exact .inr rfl | assumption) :
    PS X (.Assign [.Name x pos'] (.List es p) pos) (tAsg (tLst t) (gName i)) := ps_set hN hi hx (pe_lst he) rfl hf
section
variable {X : Cx} {e : Expr} {te : TE} {p p1 p2 pos cpos : Pos} {j : Nat} {K : PySem.W.Frag}
end
end L2

set_option Elab.async false
set_option linter.all false
set_option maxRecDepth 100000
namespace L2
open PySem PySem.Spec PyProof.Rows
section
variable {prog : Program} {w : World} {A : Around}
end
section
variable {X : Cx} {e : Expr} {te : TE} {p p1 p2 p3 p4 pos : Pos} {j : Nat} {K : PySem.W.Frag}
end
section
variable {X : Cx}
end
end L2

set_option Elab.async false
set_option linter.all false
set_option maxRecDepth 100000
namespace L2
open PySem PySem.Spec PyProof.Rows
section
variable {prog : Program} {w : World} {A : Around}
end
end L2

set_option Elab.async false
set_option linter.all false
set_option maxRecDepth 100000
namespace L2
open PySem PySem.Spec PyProof.Rows
section
variable {X : Cx} {e1 e2 : Expr} {ta : TA} {p p1 pos pos1 : Pos} {K : PySem.W.Frag}
end
end L2

set_option Elab.async false
set_option linter.all false
namespace L2
open PySem
section
variable {X : Cx}
end
end L2

set_option Elab.async false
set_option linter.all false
set_option maxRecDepth 100000
namespace L2
open PySem PySem.Spec PyProof.Rows
section
variable {prog : Program} {w : World} {A : Around}
end
section
variable {X : Cx}
end
end L2

set_option Elab.async false
set_option linter.all false
set_option maxRecDepth 100000
namespace HT
open PySem PySem.Spec PyProof.Rows
section
variable {prog : Program} {w : World} {A : Around} {E : Value → Shared → Prop} {s : Shared}
end
end HT
namespace L2
open PySem PySem.Spec PyProof.Rows
section
variable {X : Cx}
end
theorem compSS {cap : List (Option Nat)} {tl : TE} {g : TG} {tt : TT} {te : TE} {σ : St} {H H1 : Hp} {Q : VK} (z : Str) (f : Nat → Option V) (hr : ∀ Q, Q (.str z) H1 → tl σ H Q) (ha : z.cps.all (· < 128) = true) (hz : z.cps.size ≤ sizeLine)
    (hs : ∀ c H (R : V → Hp → Prop) (N : Hp → Prop), c ∈ z.cps.toList → Same H1 H → (∀ y H', f c = some y → Same H H' → R y H') → (f c = none → ∀ H', Same H H' → N H') → g (.str ⟨#[c]⟩) (capSt cap σ) H fun σ4 H4 => tt σ4 H4 fun b H5 => if b = true then te σ4 H5 R else N H5)
    (hd : ∀ D H', H1 D = none → Same H1 H' → H' D = some (.lst (z.cps.toList.filterMap f)) → Q (.ref D) H') : tComp cap (iStr tl) g tt te σ H Q := by
  refine compS z hr ha (fun D i ys H2 => Same H1 H2 ∧ H2 D = some (.lst ys) ∧ ys = (z.cps.toList.take i).filterMap f) (fun D hD => ⟨upd_newS (fun _ _ h => h) hD, upd_same, rfl⟩) ?_ hz ?_ ?_
  · rintro D hD i ys H2 hi ⟨S, h2, e⟩
    refine ⟨h2, ?_⟩
    rw [e]
    exact Nat.le_trans (List.length_filterMap_le _ _) (by rw [List.length_take]; omega)
  · rintro D hD i x ys H2 hx ⟨S, h2, e⟩
    have hx' : z.cps.toList[i]? = some x := by rw [Array.getElem?_toList]; exact hx
    refine hs x H2 _ _ (List.mem_of_getElem? hx') S (fun y H' ey S2 => ⟨S2 _ _ h2, upd_newS (fun q o h => S2 _ _ (S _ _ h)) hD, upd_same, ?_⟩) (fun ey H' S2 => ⟨fun q o h => S2 _ _ (S _ _ h), S2 _ _ h2, ?_⟩)
    · rw [take_fm f _ i x hx', ey, e]; rfl
    · rw [take_fm f _ i x hx', ey, e]; simp
  · rintro D hD ys H2 ⟨S, h2, e⟩
    refine hd D H2 hD S ?_
    rw [h2, e, ← Array.length_toList, List.take_length]
inductive All2 {α β : Type} (R : α → β → Prop) : List α → List β → Prop
  | nil : All2 R [] []
  | cons {a b as bs} (h : R a b) (t : All2 R as bs) : All2 R (a :: as) (b :: bs)
namespace All2
variable {α β : Type} {R S : α → β → Prop}
theorem len {as : List α} {bs : List β} (h : All2 R as bs) : as.length = bs.length := by
  induction h with
  | nil => rfl
  | cons _ _ ih => simp [ih]
theorem imp (f : ∀ a b, R a b → S a b) {as : List α} {bs : List β} (h : All2 R as bs) : All2 S as bs := by
  induction h with
  | nil => exact .nil
  | cons h _ ih => exact .cons (f _ _ h) ih
theorem append {as as' : List α} {bs bs' : List β} (h : All2 R as bs) (h' : All2 R as' bs') : All2 R (as ++ as') (bs ++ bs') := by
  induction h with
  | nil => exact h'
  | cons h _ ih => exact .cons h ih
theorem take {as : List α} {bs : List β} (h : All2 R as bs) : ∀ n, All2 R (as.take n) (bs.take n) := by
  induction h with
  | nil => intro n; simp; exact .nil
  | cons h _ ih =>
    intro n
    cases n with
    | zero => exact .nil
    | succ n => exact .cons h (ih n)
theorem drop {as : List α} {bs : List β} (h : All2 R as bs) : ∀ n, All2 R (as.drop n) (bs.drop n) := by
  induction h with
  | nil => intro n; simp; exact .nil
  | cons h t ih =>
    intro n
    cases n with
    | zero => exact .cons h t
    | succ n => exact ih n
theorem get {as : List α} {bs : List β} (h : All2 R as bs) : ∀ (i : Nat) (a : α) (b : β), as[i]? = some a → bs[i]? = some b → R a b := by
  induction h with
  | nil => intro i a b e; simp at e
  | cons h _ ih =>
    intro i a b e1 e2
    cases i with
    | zero => cases e1; cases e2; exact h
    | succ i => exact ih i a b e1 e2
theorem mem {as : List α} {bs : List β} (h : All2 R as bs) {a : α} (m : a ∈ as) : ∃ b ∈ bs, R a b := by
  induction h with
  | nil => cases m
  | cons h _ ih =>
    rcases List.mem_cons.mp m with rfl | m
    · exact ⟨_, List.mem_cons_self, h⟩
    · obtain ⟨b, mb, r⟩ := ih m
      exact ⟨b, List.mem_cons_of_mem _ mb, r⟩
end All2
end L2

set_option Elab.async false
set_option linter.all false
set_option maxRecDepth 100000
namespace L2
open PySem PySem.Spec PyProof.Rows
section
variable {X : Cx} {CX : CXT} {k : Nat} {E : XK} {p pos spos : Pos} {e i o : Expr} {es : List Expr} {tk : TE} {t : TA} {g : Addr}
end
end L2

set_option Elab.async false
set_option linter.all false
set_option maxRecDepth 100000
namespace HT
open PySem PySem.Spec PyProof.Rows
end HT
namespace L2
open PySem PySem.Spec PyProof.Rows
section
variable {X : Cx}
end
end L2

set_option Elab.async false
set_option linter.all false
set_option maxRecDepth 100000
namespace HT
open PySem PySem.Spec PyProof.Rows PySem.W
section
variable {prog : Program} {w : World} {A : Around} {E : Value → Shared → Prop} {h : Heap} {g : Array GenState} {d : Drawn} {t : Nat} {os : OsState} {a C : Addr} {o : Obj} {K : Frag}
/-- what an exception's class is, by K -/
def xcOk (K : Frag) (C : Addr) : Bool := findIn K (.ref C) "__getattribute__" == some (some (.builtin "BaseException.__getattribute__")) && findIn K (.ref C) "__getattr__" == some none && findIn K (.ref C) "__class__" == some (some (.builtin "object.__class__")) &&
  mroIn K C (.type "object") == some true && mroIn K C (.type "BaseException") == some true && (clsIn K C).isSome && typeIn K (.ref C) == some (.type "type") && instIn K (.ref C) (.type "type") == some true
structure XcOk (K : Frag) (C : Addr) : Prop where
  ga : findIn K (.ref C) "__getattribute__" = some (some (.builtin "BaseException.__getattribute__"))
  gn : findIn K (.ref C) "__getattr__" = some none
  cl : findIn K (.ref C) "__class__" = some (some (.builtin "object.__class__"))
  ob : mroIn K C (.type "object") = some true
  be : mroIn K C (.type "BaseException") = some true
  cd : (clsIn K C).isSome = true
  ty : typeIn K (.ref C) = some (.type "type")
  tt : instIn K (.ref C) (.type "type") = some true
theorem xcOk_of (e : xcOk K C = true) : XcOk K C := by
  unfold xcOk at e
  simp only [Bool.and_eq_true, beq_iff_eq] at e
  obtain ⟨⟨⟨⟨⟨⟨⟨e1, e2⟩, e3⟩, e4⟩, e5⟩, e6⟩, e7⟩, e8⟩ := e
  exact ⟨e1, e2, e3, e4, e5, e6, e7, e8⟩
theorem exc_type {M : Model} (hx : h.get? a = some o) (hc : o.cls = .ref C) : Looks M h (typeOf (.ref a)) (.ref C) := hc ▸ (Looks.ld hx).andThen .now
theorem xclass_get {R : Result → Shared → Prop} {tp : Value} (X : K.In h) (k : XcOk K C) (hx : h.get? a = some o) (hc : o.cls = .ref C) (hq : R (.ok (.ret (.ref C))) ⟨h, g, d, t, os⟩) :
    codeAny (model prog w) A (.call (.builtin "getset_descriptor.__get__") ⟨[.builtin "object.__class__", .ref a, tp], []⟩) R ⟨h, g, d, t, os⟩ := by
  have L0 := exc_type (M := model prog w) hx hc
  have L1 : Looks (model prog w) h (isSubtype (.ref C) (.type (".".intercalate ("object.__class__".cutAt '.').dropLast))) true := by rw [F.owner_object_class]; exact looks_mroIn (M := model prog w) X k.ob
  have hT5 : (⟨h, g, d, t, os⟩ : Shared).TypeIs (.builtin "object.__class__") "getset_descriptor" := F.typeOf_object_class
  refine codeAny_call_builtin F.slot_gs_get.plain F.entry_gs_get (F.slot_gs_get.check _ _ _ _ _ _ _ _ hT5 (F.args_gs_get _ _ _) ?_)
  repeat (any_goals (first | assumption | (with_reducible refine L0.at ?_) | (with_reducible refine L1.at ?_) | (with_reducible refine wpAny_loadPart_at hx ?_; rw [hc]) | wp_step))
  refine ⟨Code.quiet_builtin _ (by decide +kernel), codeAny_builtin F.entry_object_class ?_⟩
  repeat (any_goals (first | assumption | (with_reducible refine L0.at ?_) | (with_reducible refine wpAny_loadPart_at hx ?_; rw [hc]) | wp_step))
theorem xclass_entry {tk : Tok} {Q : Fin → Shared → Prop} (X : K.In h) (k : XcOk K C) (hx : h.get? a = some o) (hc : o.cls = .ref C) (hq : Q (.done (.ret (.ref C))) ⟨h, g, d, t, os⟩) :
    wpAny (model prog w) A (Builtin.«object.__getattribute__» ⟨[.ref a, .str "__class__" tk], []⟩) Q E ⟨h, g, d, t, os⟩ := by
  have L0 := exc_type (M := model prog w) hx hc
  have L1 := looks_findIn (M := model prog w) X k.cl
  have f5 := F.typeOf_object_class
  have f6 := F.slot_gs_get.lookup
  have f7 := F.slot_gs_set.lookup
  repeat (any_goals (first | assumption | (with_reducible refine L0.at ?_) | (with_reducible refine L1.at ?_) | (with_reducible refine wpAny_loadPart_at hx ?_; rw [hc]) | wp_step))
  refine xclass_get X k hx hc ?_
  repeat (any_goals (first | assumption | wp_step))
theorem xclass_call {tk : Tok} {R : Result → Shared → Prop} (X : K.In h) (k : XcOk K C) (hx : h.get? a = some o) (hc : o.cls = .ref C) (hq : R (.ok (.ret (.ref C))) ⟨h, g, d, t, os⟩) :
    codeAny (model prog w) A (.call (.builtin "BaseException.__getattribute__") ⟨[.ref a, .str "__class__" tk], []⟩) R ⟨h, g, d, t, os⟩ := by
  have hk : builtinKind "BaseException.__getattribute__" = some .slot := by decide +kernel
  have hsplit : splitId "BaseException.__getattribute__" = some ("BaseException", "__getattribute__") := by decide +kernel
  have ha := F.args_bexc_ga (.ref a) (.str "__class__" tk)
  have L0 := exc_type (M := model prog w) hx hc
  have L1 := looks_mroIn (M := model prog w) X k.be
  refine codeAny_call_builtin (by decide +kernel) F.entry_bexc_ga ?_
  simp only [checkBuiltinCall, hk, hsplit]
  refine wpAny_bind ?_
  unfold isInstance
  repeat (any_goals (first | (with_reducible exact xclass_entry X k hx hc hq) | (with_reducible refine L0.at ?_) | (with_reducible refine L1.at ?_) | (with_reducible refine wpAny_loadPart_at hx ?_; rw [hc]) | wp_step))
theorem xga_bind (self : Value) : bindSpecial (.builtin "BaseException.__getattribute__") self = pure (.builtin "BaseException.__getattribute__", [self]) := by
  have hop : withoutEnding? "BaseException.__getattribute__" "#opaque" = none := by decide +kernel
  have hdat : withoutEnding? "BaseException.__getattribute__" "#data" = none := by decide +kernel
  have hk : builtinKind "BaseException.__getattribute__" = some .slot := by decide +kernel
  simp only [bindSpecial, typeOf, builtinType, hop, hdat, hk]; rfl
theorem xclass_by {tk : Tok} {Q : Value → Shared → Prop} (X : K.In h) (k : XcOk K C) (hx : h.get? a = some o) (hc : o.cls = .ref C) (hq : Q (.ref C) ⟨h, g, d, t, os⟩) :
    wpAny (model prog w) A (getAttrBy (.ref a) (.str "__class__" tk) false) Q E ⟨h, g, d, t, os⟩ := by
  have L0 := exc_type (M := model prog w) hx hc
  have L1 := looks_findIn (M := model prog w) X k.ga
  have L2 := looks_findIn (M := model prog w) X k.gn
  have hx2 : (Value.builtin "BaseException.__getattribute__" == Value.builtin "object.__getattribute__") = false := by decide +kernel
  have hx1 : (onTheHeap (Value.ref C) && Value.builtin "BaseException.__getattribute__" == Value.builtin "object.__getattribute__") = false := by rw [hx2]; rfl
  have f3 := xga_bind (.ref a)
  have hx0 : (false && onTheHeap (Value.builtin "BaseException.__getattribute__")) = false := rfl
  repeat (any_goals (first | assumption | (with_reducible refine L0.at ?_) | (with_reducible refine L1.at ?_) | (with_reducible refine L2.at ?_) | (with_reducible refine wpAny_loadPart_at hx ?_; rw [hc]) | wp_step))
  refine xclass_call X k hx hc ?_
  repeat (any_goals (first | assumption | wp_step))
theorem xclass_attr {Q : Option Value → Shared → Prop} (X : K.In h) (k : XcOk K C) (hx : h.get? a = some o) (hc : o.cls = .ref C) (hq : Q (some (.ref C)) ⟨h, g, d, t + 1, os⟩) : wpAny (model prog w) A (getAttr? (.ref a) "__class__") Q E ⟨h, g, d, t, os⟩ := by
  unfold getAttr? getAttrBy?
  repeat (any_goals (first | assumption | with_reducible apply xclass_by X k hx hc | wp_step))
/-- what isinstance says of an exception -/
theorem kitx_exc (k : XcOk K C) : KitX K (.ref a) (.ref C) (fun h => ∃ o, h.get? a = some o ∧ o.cls = .ref C) where
  ty := fun _ _ _ ⟨_, h1, h2⟩ => exc_type h1 h2
  it := fun _ _ X _ => by
    have := k.cd
    unfold clsIn at this
    split at this
    · rename_i c' d' cd' sl' ho
      intro A' Q' E' s' k q
      unfold isType loadHead
      exact wpAny_bind (wpAny_loadPart (k _ _ (X _ _ ho)) (wpAny_pure q))
    · cases this
  ne := fun h tp dd its n sl X htp => by
    refine Bool.eq_false_iff.mpr fun q => ?_
    have e : C = tp := Value.ref.inj (beq_iff_eq.mp q)
    subst e
    have := k.cd
    unfold clsIn at this
    split at this
    · rename_i ho
      have := X _ _ ho
      rw [htp] at this
      cases this
    · cases this
  ca := fun {prog w A E Q s} X p q => by
    obtain ⟨h, g, d, t, os⟩ := s
    obtain ⟨o, h1, h2⟩ := p
    exact xclass_attr X k h1 h2 q
/-- the law's classes of exceptions, one above the others -/
def xTab (K : Frag) (root : Addr) (cs : List Addr) : Bool := decide cs.Nodup && cs.all fun c => xcOk K c && kitOne K (.ref c) (.type "ValueError") == some true && exmOne K (.ref c) (.ref root) == some true && cs.all fun d => kitOne K (.ref c) (.ref d) == some (decide (c = d ∨ d = root))
structure XTab (K : Frag) (root : Addr) (cs : List Addr) : Prop where
  nd : cs.Nodup
  ok : ∀ c ∈ cs, XcOk K c
  ve : ∀ c ∈ cs, kitOne K (.ref c) (.type "ValueError") = some true
  mt : ∀ c ∈ cs, exmOne K (.ref c) (.ref root) = some true
  is : ∀ c ∈ cs, ∀ d ∈ cs, kitOne K (.ref c) (.ref d) = some (decide (c = d ∨ d = root))
theorem xTab_of {root : Addr} {cs : List Addr} (e : xTab K root cs = true) : XTab K root cs := by
  unfold xTab at e
  rw [Bool.and_eq_true] at e
  obtain ⟨e1, e2⟩ := e
  rw [List.all_eq_true] at e2
  have key : ∀ c ∈ cs, xcOk K c = true ∧ kitOne K (.ref c) (.type "ValueError") = some true ∧ exmOne K (.ref c) (.ref root) = some true ∧ ∀ d ∈ cs, kitOne K (.ref c) (.ref d) = some (decide (c = d ∨ d = root)) := fun c hc => by
    have := e2 c hc
    rw [Bool.and_eq_true, Bool.and_eq_true, Bool.and_eq_true] at this
    obtain ⟨⟨⟨a1, a2⟩, a3⟩, a4⟩ := this
    rw [List.all_eq_true] at a4
    exact ⟨a1, beq_iff_eq.mp a2, beq_iff_eq.mp a3, fun d hd => beq_iff_eq.mp (a4 d hd)⟩
  exact ⟨of_decide_eq_true e1, fun c hc => xcOk_of (key c hc).1, fun c hc => (key c hc).2.1, fun c hc => (key c hc).2.2.1, fun c hc => (key c hc).2.2.2⟩
end
end HT
namespace L2
open PySem PySem.Spec PyProof.Rows
/-- an exception of class C, while it is handled -/
def excO (C ea : Addr) : HO := .ext fun h => ∃ o, h.get? ea = some o ∧ o.cls = .ref C
section
variable {X : Cx} {pins : List (Addr × Obj)} {σ : St} {H : Hp} {s : Shared}
theorem Inv.exc {ea C : Addr} {oe : Obj} {vs : Array Value} (I : Inv X pins σ H s) (he : s.heap.get? ea = some oe) (hc : oe.cls = .ref C) (hd : oe.data = .fields vs) (n0 : X.s₀.heap.get? ea = none) (hn : H ea = none) (np : ∀ p ∈ X.pn ++ pins, p.1 ≠ ea) : Inv X pins σ (upd H ea (excO C ea)) s := by
  have ne : ∀ b o, H b = some o → b ≠ ea := fun b o e z => by rw [z, hn] at e; cases e
  refine ⟨I.ok, I.os, I.bare, ⟨I.base.keep, I.base.slot, fun b o e n hx => ?_, I.base.there, fun b xs e => ?_, fun b o u e => ?_, fun b ps e => ?_⟩, I.loc, I.cell, ?_, fun x c e => ?_, fun p hp => ?_, fun b u e => ?_, I.len⟩
  · rw [upd_ne (fun z => by rw [z, n0] at e; cases e)]
    exact I.base.free b o e n hx
  · have := I.base.tups b xs e
    rw [upd_ne (ne _ _ this)]; exact this
  · have := I.base.frzs b o u e
    rw [upd_ne (ne _ _ this)]; exact this
  · obtain ⟨more, this⟩ := I.base.tbls b ps e
    exact ⟨more, by rw [upd_ne (ne _ _ this)]; exact this⟩
  · rw [upd_ne (fun z => ?_)]
    · exact I.free
    · obtain ⟨m, ⟨o, es, ep, e1, e2, _⟩, _⟩ := I.loc
      rw [z, he] at e1
      cases e1
      rw [hd] at e2; cases e2
  · rw [upd_ne (fun z => ?_)]
    · exact I.freeC x c e
    · obtain ⟨v, o, e1, e2⟩ := I.cell x c e
      rw [z, he] at e1
      cases e1
      rw [hd] at e2; cases e2
  · obtain ⟨p1, p2, p3⟩ := I.pin p hp
    exact ⟨p1, by rw [upd_ne (np p hp)]; exact p2, p3⟩
  · by_cases hb : b = ea
    · subst hb
      rw [upd_same] at e
      cases e
      exact ⟨⟨oe, he, hc⟩, ⟨oe, he⟩, fun h1 h2 ⟨o, z1, z2⟩ k => ⟨o, k o z1, z2⟩⟩
    · rw [upd_ne hb] at e
      exact (I.hok b u e).stay (fun c v _ q => q) (fun c q => by rw [upd_ne (ne _ _ q)]; exact q) fun c xs q => by rw [upd_ne (ne _ _ q)]; exact q
/-- a name goes -/
theorem gone_ok {M : Model} {A : Around} {E : Value → Shared → Prop} {i : Nat} {x : Str} {pos : Pos} {Q : Unit → Shared → Prop} (I : Inv X pins σ H s) (hN : X.N.Nodup) (hi : X.N[i]? = some x) (hk : X.env.scope.names.lookup x = some .local)
    (h : ∀ s', Inv X pins (σ.set i none) H s' → Q () s') : wpAny M A (do bindName X.env x .none; unbindBehindTheSuite X.env x pos) Q E s := by
  obtain ⟨m, hn, hl⟩ := id I.loc
  have hcls : (X.env.scope.kind == .class || (X.env.scope.kind == .module && X.env.locals != X.env.globals)) = false := by rw [I.ok.kind]; rfl
  have hiσ : i < σ.length := by rw [I.len]; exact (List.getElem?_eq_some_iff.mp hi).1
  have cne := I.cne
  have tracked : ∀ {a : Addr} {h' : Heap}, (∃ o, s.heap.get? a = some o ∧ H a = none) → Heap.SameBut a s.heap h' → HOk X.prog X.w H h' := fun {a h'} ha hs b ob e => by
    obtain ⟨_, _, hfree⟩ := ha
    refine (I.hok b ob e).stay (fun c w' hc q => (hs.2 c ?_).trans q) (fun _ q => q) fun _ _ q => q
    rintro rfl
    rcases hc with rfl | hc
    · rw [hfree] at e; cases e
    · rw [hfree] at hc; cases hc
  refine wpAny_nameGoes_keeps hk hn hcls fun h' v hn' hs => ?_
  obtain ⟨oL, _, _, hoL, _⟩ := id hn
  refine h _ ⟨I.ok, I.os, I.bare, ⟨fun b o e n hb hx => ?_, fun b o e n hb hx => ?_, I.base.free, fun b o e hx => ?_, I.base.tups, I.base.frzs, I.base.tbls⟩, ⟨_, hn', fun j y v' e1 e2 e3 => ?_⟩, fun y c e => ?_, I.free, I.freeC, fun p hp => ?_, tracked ⟨oL, hoL, I.free⟩ hs, by simpa using I.len⟩
  · exact (hs.2 b (Nat.ne_of_lt (Nat.lt_of_lt_of_le (Heap.lt_size e) I.ok.above))).trans (I.base.keep b o e n hb hx)
  · obtain ⟨sl, e1⟩ := I.base.slot b o e n hb hx
    exact ⟨sl, (hs.2 b (Nat.ne_of_lt (Nat.lt_of_lt_of_le (Heap.lt_size e) I.ok.above))).trans e1⟩
  · obtain ⟨o', e1⟩ := I.base.there b o e hx
    exact ⟨o', (hs.2 b (Nat.ne_of_lt (Nat.lt_of_lt_of_le (Heap.lt_size e) I.ok.above))).trans e1⟩
  · by_cases hj : j = i
    · subst hj
      rw [List.getElem?_set_self hiσ] at e2
      cases e2
    · rw [List.getElem?_set_ne (Ne.symm hj)] at e2
      obtain ⟨u', r', q⟩ := hl j y v' e1 e2 e3
      refine ⟨u', r', ?_⟩
      rcases q with ⟨k, e⟩ | ⟨k, c, e, z⟩
      · refine .inl ⟨k, ?_⟩
        have : y ≠ x := fun e => hj (nodup_ix hN e1 (e ▸ hi))
        simp [this, e]
      · exact .inr ⟨k, c, e, z.sameBut hs (cne y c e)⟩
  · obtain ⟨w', z⟩ := I.cell y c e
    exact ⟨w', z.sameBut hs (cne y c e)⟩
  · obtain ⟨e, n, ne, nf, d⟩ := I.pin p hp
    exact ⟨(hs.2 p.1 ne).trans e, n, ne, nf, d⟩
end
section
variable {X : Cx}
def EXs (cs : List Addr) (R : Addr → St → Hp → Prop) : St → XK := fun σ cls _ H' => ∃ C ∈ cs, cls = .ref C ∧ R C σ H'
/-- behind the handler its name is gone -/
def goneD (i : Nat) (D : Ends) : Ends := { nx := fun σ H => D.nx (σ.set i none) H, rt := D.rt, bk := fun σ H => D.bk (σ.set i none) H, ct := fun σ H => D.ct (σ.set i none) H }
/-- try: body except D as n: suite (D or a class below it is caught) -/
theorem ps_tryAs {body : List Stmt} {x n : Str} {np pos pos' : Pos} {b0 : Stmt} {suite : List Stmt} {Dr : Addr} {cs : List Addr} {i : Nat} {tb : (Addr → St → Hp → Prop) → TS} {th : TS} (xt : HT.XTab X.K Dr cs) (hg : Gl X x) (hm : X.mg x = some (.ref Dr)) (hstk : X.stack = X.env :: X.outer) (hfr : X.env.frame = some X.env.locals)
    (hN : X.N.Nodup) (hi : X.N[i]? = some n) (hk : X.env.scope.names.lookup n = some .local)
    (hb : ∀ (pn : List (Addr × Obj)) (W : Value → Shared → Prop) (R : Addr → St → Hp → Prop), PassesE X.prog X.w (X.tr pn W) (EXs cs R) → PSs (X.tr pn W) body (tb R)) (hs : ∀ e, PSs (X.hdl e) (b0 :: suite) th) (hdb : (x == ("__debug__" : Str)) = false := by decide) (hex : X.ex = [] := by rfl) :
    PS X (.Try body [.ExceptHandler (some (.Name x np)) (some n) (b0 :: suite) pos] [] [] pos') (fun D σ H => tb (fun C σ' H' => ∀ ea, H' ea = none → th (goneD i D) (σ'.set i (some (.ref ea))) (upd H' ea (excO C ea))) D σ H) := by
  intro pins s σ H D I h
  refine wpAny_Try_except ?_
  have key := hb (X.pn ++ pins) (fun e s1 => wpAny (model X.prog X.w) X.A (noteFrame e X.env) (fun _ s2 => wpAny (model X.prog X.w) X.A (setFlight e none) (fun _ s3 =>
    wpAny (model X.prog X.w) X.A (handleBy e X.env [.ExceptHandler (some (.Name x np)) (some n) (b0 :: suite) pos]) (SP X pins D) X.xe s3) X.xe s2) X.xe s1) (fun C σ' H' => ∀ ea, H' ea = none → th (goneD i D) (σ'.set i (some (.ref ea))) (upd H' ea (excO C ea))) ?_
  · refine wpAny_mono (key [] s σ H D (I.tr _) h) (fun f s1 z => ?_) fun _ _ z => z
    cases f with
    | next =>
      obtain ⟨σ1, H1, I1, q1⟩ := z
      exact wpAny_execs_nil ⟨σ1, H1, I1.untr, q1⟩
    | ret u =>
      obtain ⟨v, σ1, H1, I1, r1, q1⟩ := z
      exact ⟨v, σ1, H1, I1.untr, r1, q1⟩
    | brk =>
      obtain ⟨σ1, H1, I1, q1⟩ := z
      exact ⟨σ1, H1, I1.untr, q1⟩
    | cont =>
      obtain ⟨σ1, H1, I1, q1⟩ := z
      exact ⟨σ1, H1, I1.untr, q1⟩
  · intro pins' σ1 H1 s1 e s2 J hq
    obtain ⟨ea, t, C', B, H', rfl, os, bare, un, hok, fl, hB, C, hC, hC', hR⟩ := hq
    obtain rfl : C' = C := Value.ref.inj hC'
    have J : Inv X pins σ1 H1 s1 := J.untr
    have un : Un (frs X.stack) [] H1 H' s1.heap s2.heap := un
    have hok : HOk X.prog X.w H' s2.heap := hok
    have fl : Heap.FlyingW B (X.env :: X.outer) ea (.ref C') (.ref t) s2.heap := by rw [← hstk]; exact fl
    have frm : X.A.frames = some (X.env :: X.outer) := by rw [← hstk]; exact J.ok.frames
    refine wpAny_looks_onW frm hfr fl fun h4 held4 sm4 => ?_
    refine wpAny_landsW held4 fun h5 fl5 sm5 => ?_
    have up5 := sm4.trans sm5
    obtain ⟨J5, hok5, un5⟩ := J.flown (s' := s2) un hok os bare hB fl5.1 up5
    refine wpAny_handleBy_cons (codeAny_handlers_test ?_) (by intro z; cases z)
    have G5 : Inv (X.hdl (.ref ea)) pins σ1 H' { s2 with heap := h5 } := J5.hdl _
    refine ld_glob (X := X.hdl (.ref ea)) G5 hg hm ?_ hdb
    obtain ⟨ob, hob, hobc⟩ := fl5.there
    have LM := PySem.W.exm_one (M := model X.prog X.w) J5.kIn (HT.exc_type hob hobc) (xt.mt C' hC)
    refine LM.at ?_
    refine codeAny_handlers_suite_as ?_
    refine lands_againW fl5 fun h6 fl6 sm6 => ?_
    obtain ⟨J6, hok6, un6⟩ := J.flown (s' := s2) un hok os bare hB fl6.1 (up5.trans sm6)
    have nB := fl6.2.1
    obtain ⟨oe, vs, _, _, _, he, hce, hd, _⟩ := fl6.2.2.2
    have nfr : ea ∉ frs X.stack := fun z => by
      obtain ⟨o1, e1, d1⟩ := J6.frameData z
      rw [he] at e1
      cases e1
      exact d1 _ hd
    have new : ∀ o', s1.heap.get? ea = some o' → False := fun o' z => by
      obtain ⟨o2, e2⟩ := un.there ea o' z (by simp)
      have := hB ea o2 e2 nfr (.inr ⟨o', z⟩)
      rw [nB] at this; cases this
    have nH : H' ea = none := by
      cases z : H' ea with
      | none => rfl
      | some u =>
        obtain ⟨o2, e2⟩ := HOk.obj hok z
        have := hB ea o2 e2 nfr (.inl ⟨u, z⟩)
        rw [nB] at this; cases this
    have n0 : X.s₀.heap.get? ea = none := by
      cases z : X.s₀.heap.get? ea with
      | none => rfl
      | some o' =>
        obtain ⟨o2, e2⟩ := J.base.there ea o' z (by rw [hex]; simp)
        exact (new _ e2).elim
    have np : ∀ p ∈ X.pn ++ pins, p.1 ≠ ea := fun p hp z => by
      obtain ⟨e1, _⟩ := J.pin p hp
      rw [z] at e1
      exact (new _ e1).elim
    have K6 := (J6.exc he hce.1 hd n0 nH np).hdl (.ref ea)
    refine store_ok (X := X.hdl (.ref ea)) K6 hN hi (.inl hk) (v := .ref ea) rfl (fun s7 I7 => ?_) (.inr hk)
    refine wpAny_mono (hs (.ref ea) pins s7 _ _ (goneD i D) I7 (hR ea nH)) (fun f s8 z => ?_) fun _ _ z => False.elim z
    cases f with
    | next =>
      obtain ⟨σ8, H8, I8, q8⟩ := z
      exact gone_ok (I8.unhdl I.ok.hd) hN hi hk fun s9 I9 => ⟨_, H8, I9, q8⟩
    | ret u =>
      obtain ⟨v, σ8, H8, I8, r8, q8⟩ := z
      exact gone_ok (I8.unhdl I.ok.hd) hN hi hk fun s9 I9 => ⟨v, _, H8, I9, r8, q8⟩
    | brk =>
      obtain ⟨σ8, H8, I8, q8⟩ := z
      exact gone_ok (I8.unhdl I.ok.hd) hN hi hk fun s9 I9 => ⟨_, H8, I9, q8⟩
    | cont =>
      obtain ⟨σ8, H8, I8, q8⟩ := z
      exact gone_ok (I8.unhdl I.ok.hd) hN hi hk fun s9 I9 => ⟨_, H8, I9, q8⟩
/-- f(e, ..) whose exception is caught here -/
def tCallE (sp : Sp) (dvs : List V) (E : St → XK) (t : TA) : TE := fun σ H Q => t σ H fun vs H1 => sp (vs ++ dvs) H1 Q (E σ)
theorem pe_callE {k : Nat} {f : Addr} {fd : FuncData} {ps : List Str} {sp : Sp} {dvs : List V} {ds : List Value} {E : St → XK} {x : Str} {p pos : Pos} {e : Expr} {es : List Expr} {t : TA} (F : FnOk X.prog X.w X.K X.mg X.base (CX1 X.prog X.w) k f fd ps sp) (hr : Room k X.A) (hg : Gl X x) (hm : X.mg x = some (.ref f)) (hk : PySem.W.keepIn X.K (.ref f) = true) (hb : Binds X.K fd ps ds) (hd : Vals dvs ds) (hx : PassesE X.prog X.w X E)
    (ha : PA X (e :: es) t) (hdb : (x == ("__debug__" : Str)) = false := by decide) (he : starEach (e :: es) X.env = (false, eval e X.env) :: starEach es X.env := by rfl) (hpl : (backTo pos (starEach es X.env)).any (·.1) = false := by rfl) :
    PE X (.Call (.Name x p) (e :: es) [] pos) (tCallE sp dvs E t) := by
  intro pins s σ H Q I h
  refine wpAny_Call_Name_kw (ld_glob I hg hm ?_ hdb)
  refine PySem.W.callWith_K (h₀ := X.base) I.ok.mod.kin hk (thn (ha pos pins s σ H _ I h) fun us s1 ⟨vs, H1, I1, r, q⟩ => ⟨I1.kIn, ?_⟩) he hpl
  exact run_fnE F hr hb hd hx I1 r q
theorem vals_refsX : ∀ {ds : List Addr} {its : List Value}, Vals (ds.map V.ref) its → its = ds.map Value.ref
  | [], its, r => by cases r; rfl
  | d :: ds, its, r => by
    cases r with
    | cons r1 r2 => rw [vals_refsX r2, show _ = Value.ref d from r1]; rfl
theorem call_isX {Dr : Addr} {cs : List Addr} (xt : HT.XTab X.K Dr cs) : CallR X (.builtin "isinstance") (fun xs H Q => ∃ ea C, H ea = some (excO C ea) ∧ C ∈ cs ∧
    ((∃ D, xs = [.ref ea, .ref D] ∧ D ∈ cs ∧ Q (.bl (decide (C = D ∨ D = Dr))) H) ∨ (xs = [.ref ea, .ty "ValueError"] ∧ Q (.bl true) H) ∨ ∃ (p : Addr) (ds : List Addr), xs = [.ref ea, .ref p] ∧ H p = some (.tup (ds.map V.ref)) ∧ (∀ d ∈ ds, d ∈ cs) ∧ Q (.bl (ds.any fun d => decide (C = d ∨ d = Dr))) H)) := by
  intro pins s σ H xs us Q I r h
  obtain ⟨ea, C, hea, hC, h⟩ := h
  obtain ⟨hφ, _, _⟩ := (show ObjOk X.prog X.w H s.heap ea (excO C ea) from I.hok ea _ hea)
  have Z := HT.kitx_exc (a := ea) (xt.ok C hC)
  rcases h with ⟨D, rfl, hD, q⟩ | ⟨rfl, q⟩ | ⟨p, ds, rfl, hp, hds, q⟩
  · obtain ⟨u, v, rfl, ru, rv⟩ := Vals.two r
    cases (show u = Value.ref ea from ru)
    cases (show v = Value.ref D from rv)
    exact PySem.W.kia_one Z I.kIn hφ (xt.is C hC D hD) (fun z => nomatch z) fun tk => ⟨.bl _, H, I.tok _, rfl, q⟩
  · obtain ⟨u, v, rfl, ru, rv⟩ := Vals.two r
    cases (show u = Value.ref ea from ru)
    cases (show v = Value.type "ValueError" from rv)
    exact PySem.W.kia_one Z I.kIn hφ (xt.ve C hC) (fun z => nomatch z) fun tk => ⟨.bl _, H, I.tok _, rfl, q⟩
  · obtain ⟨u, v, rfl, ru, rv⟩ := Vals.two r
    cases (show u = Value.ref ea from ru)
    cases (show v = Value.ref p from rv)
    obtain ⟨lz, its, rvs, tA⟩ := (show ObjOk X.prog X.w H s.heap p (.tup _) from I.hok p _ hp)
    have ei := vals_refsX rvs
    subst ei
    have ka : PySem.W.kitAny X.K (.ref C) (ds.map Value.ref) = some (ds.any fun d => decide (C = d ∨ d = Dr)) := by
      clear q hp rvs tA lz
      induction ds with
      | nil => rfl
      | cons d ds ih =>
        rw [List.map_cons, List.any_cons]
        unfold PySem.W.kitAny
        rw [xt.is C hC d (hds d List.mem_cons_self)]
        cases e : decide (C = d ∨ d = Dr) with
        | true => rfl
        | false =>
          rw [Bool.false_or]
          exact ih fun y hy => hds y (List.mem_cons_of_mem _ hy)
    obtain ⟨⟨oc, od, da, sl⟩, g1, g2, n, g3⟩ := tA
    cases (show oc = _ from g2)
    cases (show da = _ from g3)
    exact PySem.W.kia_tup Z I.kIn hφ g1 ka (fun z => nomatch z) fun tk => ⟨.bl _, H, I.tok _, rfl, q⟩
end
end L2

set_option Elab.async false
set_option linter.all false
set_option maxRecDepth 100000
namespace L2
open PySem PySem.Spec PyProof.Rows
section
variable {X : Cx} {tg : Expr}
end
end L2

set_option Elab.async false
set_option linter.all false
set_option maxRecDepth 100000
namespace L2
open PySem PySem.Spec PyProof.Rows
section
variable {prog : Program} {w : World} {A : Around} {E : Value → Shared → Prop} {s : Shared}
end
end L2

set_option Elab.async false
set_option linter.all false
set_option maxRecDepth 100000
namespace L2
open PySem PySem.Spec PyProof.Rows
section
variable {X : Cx} {pins : List (Addr × Obj)} {σ : St} {H : Hp} {s : Shared}
end
section
variable {X : Cx} {tg : Expr}
end
end L2

set_option Elab.async false
set_option linter.all false
set_option maxRecDepth 100000
namespace L2
open PySem PySem.Spec PyProof.Rows
theorem hex_small : ∀ c : Nat, c < 128 → (Nat.toDigits 16 c).length ≤ 2 := by decide +kernel
theorem reprChar_le (q c : Nat) (h : c < 128) : (Builtin.Str.reprChar q c).length ≤ 4 := by
  have hx := hex_small c h
  unfold Builtin.Str.reprChar
  simp only
  split
  · simp
  · split
    · simp
    · split
      · simp
      · split
        · simp
        · split
          · simp
          · rw [if_pos (by omega)]
            simp
            omega
theorem fold_le {q : Nat} : ∀ (cs : List Nat) (out : Array Nat), (∀ c ∈ cs, c < 128) → (cs.foldl (fun out c => out ++ (Builtin.Str.reprChar q c).toArray) out).size ≤ out.size + 4 * cs.length
  | [], out, _ => by simp
  | c :: r, out, h => by
    have ih := fold_le (q := q) r (out ++ (Builtin.Str.reprChar q c).toArray) fun x hx => h x (List.mem_cons_of_mem _ hx)
    have := reprChar_le q c (h c List.mem_cons_self)
    rw [List.foldl_cons, List.length_cons]
    have e1 : (out ++ (Builtin.Str.reprChar q c).toArray).size = out.size + (Builtin.Str.reprChar q c).length := by simp
    rw [e1] at ih
    omega
theorem reprText_le {x : Str} (h : x.cps.all (· < 128) = true) : (reprText x).length ≤ 4 * x.length + 2 := by
  have := fold_le (q := reprQuote x) x.cps.toList #[reprQuote x] fun c hc => by
    have := Array.all_eq_true'.mp h c (Array.mem_toList_iff.mp hc)
    simpa using this
  unfold reprText
  show (Array.push (Array.foldl _ _ x.cps) _).size ≤ _
  rw [Array.size_push, ← Array.foldl_toList]
  show _ ≤ 4 * x.cps.size + 2
  rw [Array.length_toList] at this
  have e : (#[reprQuote x] : Array Nat).size = 1 := rfl
  omega
theorem repl_acc (a : Array Nat) : ∀ (k : Nat) (out : Array Nat), ((List.replicate k a).foldl (fun x1 x2 => x1 ++ x2) out).size = out.size + k * a.size
  | 0, out => by simp
  | k + 1, out => by
    rw [List.replicate_succ, List.foldl_cons, repl_acc a k, Array.size_append, Nat.succ_mul]
    omega
theorem repl_size (a : Array Nat) (k : Nat) : ((List.replicate k a).foldl (fun x1 x2 => x1 ++ x2) #[]).size = k * a.size := by
  rw [repl_acc]; simp
section
variable {X : Cx}
theorem mt_starts : MtR X "str.startswith" (fun x xs H Q => ∃ z y, x = .str z ∧ xs = [.str y] ∧ Q (.bl (Txt.startswith z y)) H) := by
  intro pins s σ H x xs v us Q I rx rs h
  obtain ⟨z, y, rfl, rfl, q⟩ := h
  obtain ⟨t, rfl⟩ := rx
  obtain ⟨u, rfl, t', rfl⟩ := rs.one
  exact SC.startswith ⟨.bl _, H, I, rfl, q⟩
theorem call_strI : CallR X (.type "str") (fun xs H Q => ∃ i, xs = [.int i] ∧ i.natAbs.log2 < 1920 ∧ Q (.str (Str.ofString (toString i))) H) := by
  intro pins s σ H xs us Q I r h
  obtain ⟨i, rfl, hl, q⟩ := h
  obtain ⟨u, rfl, t, rfl⟩ := vals1 r
  exact P.str_of_int hl ⟨.str _, H, I.tok _, ⟨_, rfl⟩, q⟩
theorem call_intT : CallR X (.type "int") (fun xs H Q => ∃ z n, xs = [.str z] ∧ intText? z = some n ∧ z.length ≤ 640 ∧ Q (.int n) H) := by
  intro pins s σ H xs us Q I r h
  obtain ⟨z, n, rfl, hn, hl, q⟩ := h
  obtain ⟨u, rfl, t, rfl⟩ := vals1 r
  exact W.KIN.call_text hn hl ⟨.int n, H, I.tok _, ⟨_, rfl⟩, q⟩
def rMulS : V → V → Hp → VK → Prop := fun x y H Q => ∃ z n, x = .str z ∧ y = .int n ∧ n < 2 ^ 62 ∧ -(2 ^ 62) ≤ n ∧ z.length * n.toNat ≤ sizeLine ∧ Q (.str (Txt.mul z n)) H
theorem op_mulS : OpR X (binaryOp .Mult) rMulS := by
  intro pins s σ H x y v u Q I rx ry h
  obtain ⟨z, n, rfl, rfl, h1, h2, hz, q⟩ := h
  obtain ⟨t, rfl⟩ := rx
  obtain ⟨t', rfl⟩ := ry
  have sz : (sizeLine : Nat) = 16777216 := sizeLine_eq
  refine P.mul_str (by simp; omega) (fun a b => ?_) (fun a b => ?_) ?_
  · have n1 : 1 ≤ n := by omega
    have e : ((z.length * n.toNat : Nat) : Int) = (z.length : Int) * n := by
      rw [Int.natCast_mul, Int.toNat_of_nonneg (by omega)]
    have : (z.length : Int) * n ≤ 2 ^ 63 - 1 := by rw [← e]; omega
    have := (Int.le_ediv_iff_mul_le (by omega : 0 < n)).mpr this
    omega
  · unfold Builtin.Str.tooLong
    simp
    omega
  · unfold Txt.mul at q
    split
    · rename_i c
      rw [if_pos c] at q
      exact ⟨by decide, ⟨.str _, H, I.tok _, ⟨_, rfl⟩, q⟩⟩
    · rename_i c
      rw [if_neg c] at q
      split
      · rename_i d
        rw [if_pos d] at q
        exact ⟨.str _, H, I, ⟨_, rfl⟩, q⟩
      · rename_i d
        rw [if_neg d] at q
        exact ⟨by rw [show Str.length _ = _ from repl_size z.cps n.toNat, Nat.mul_comm]; exact hz, ⟨.str _, H, I.tok _, ⟨_, rfl⟩, q⟩⟩
/-- f'text{text!r}' -/
def tFstrR (te : TE) : TE := fun σ H Q => te σ H fun x H1 => ∃ z, x = .str z ∧ z.cps.all (· < 128) = true ∧ z.length ≤ 10000 ∧ ∀ y, Q (.str y) H1
theorem pe_fstrR {a : Str} {j : Nat} {p1 p2 pos : Pos} {e : Expr} {te : TE} (ha : a.length ≤ 1000) (he : PE X e te) : PE X (.JoinedStr [.Constant (.str a) j p1, .FormattedValue e 114 none p2] pos) (tFstrR te) := by
  intro pins s σ H Q I h
  refine JoinedStr_many (joinParts_cons (Calls.Constant_str ⟨?_, joinParts_cons (wpAny_FormattedValue_repr ?_)⟩))
  · rw [strLen_append, sizeLine_eq]
    show Str.empty.length + a.length ≤ _
    have : Str.empty.length = 0 := rfl
    omega
  · refine thn (he pins _ σ H _ (I.tok _) h) fun v s1 ⟨x, H1, I1, r1, z, e1, ha', hl, q⟩ => ?_
    subst e1
    obtain ⟨t, rfl⟩ := r1
    have hrl := reprText_le ha'
    have h0 : Str.empty.length = 0 := rfl
    refine wpAny_pyReprObj_str ?_ (by rw [sizeLine_eq]; omega)
    refine formatField_str (fun t' tk => ?_) (by rw [sizeLine_eq]; omega)
    refine ⟨?_, joinParts_nil ⟨.str _, H1, (I1.tok _).tok _, ⟨_, rfl⟩, q _⟩ ?_⟩
    · rw [strLen_append, strLen_append, sizeLine_eq]
      omega
    · rw [strLen_append, strLen_append, sizeLine_eq]
      omega
/-- f'text{int}text{text!r}' -/
def tFstrIR (ti te : TE) : TE := fun σ H Q => ti σ H fun x H1 => ∃ i, x = .int i ∧ i.natAbs.log2 < 1920 ∧ te σ H1 fun y H2 => ∃ z, y = .str z ∧ z.cps.all (· < 128) = true ∧ z.length ≤ 10000 ∧ ∀ y, Q (.str y) H2
theorem pe_fstrIR {a b : Str} {j j2 : Nat} {p1 p2 p3 p4 pos : Pos} {e1 e2 : Expr} {ti te : TE} (ha : a.length ≤ 1000) (hb : b.length ≤ 1000) (h1 : PE X e1 ti) (h2 : PE X e2 te) :
    PE X (.JoinedStr [.Constant (.str a) j p1, .FormattedValue e1 (-1) none p2, .Constant (.str b) j2 p3, .FormattedValue e2 114 none p4] pos) (tFstrIR ti te) := by
  intro pins s σ H Q I h
  have h0 : Str.empty.length = 0 := rfl
  refine JoinedStr_many (joinParts_cons (Calls.Constant_str ⟨?_, joinParts_cons (FormattedValue_plain ?_)⟩))
  · rw [strLen_append, sizeLine_eq]
    omega
  · refine thn (h1 pins _ σ H _ (I.tok _) h) fun v s1 ⟨x, H1, I1, r1, i, ex, hl, q⟩ => ?_
    subst ex
    obtain ⟨t, rfl⟩ := r1
    refine formatField_int_small hl ?_
    have hi := int_text_len_1921 hl
    refine ⟨?_, ?_⟩
    · rw [strLen_append, strLen_append, sizeLine_eq]
      show _ + (Str.ofString (toString i)).length ≤ _
      omega
    show wpAny _ _ (joinParts _ (eval (.Constant (.str b) j2 p3) X.env :: eval (.FormattedValue e2 114 none p4) X.env :: [])) _ _ _
    refine joinParts_cons (Calls.Constant_str ⟨?_, joinParts_cons (wpAny_FormattedValue_repr ?_)⟩)
    · rw [strLen_append, strLen_append, strLen_append, sizeLine_eq]
      show _ + (Str.ofString (toString i)).length + _ ≤ _
      omega
    · refine thn (h2 pins _ σ H1 _ (((I1.tok _).tok _).tok _) q) fun v s2 ⟨y, H2, I2, r2, z, ey, ha', hz, q2⟩ => ?_
      subst ey
      obtain ⟨t2, rfl⟩ := r2
      have hrl := reprText_le ha'
      refine wpAny_pyReprObj_str ?_ (by rw [sizeLine_eq]; omega)
      refine formatField_str (fun t' tk => ?_) (by rw [sizeLine_eq]; omega)
      refine ⟨?_, joinParts_nil ⟨.str _, H2, (I2.tok _).tok _, ⟨_, rfl⟩, q2 _⟩ ?_⟩
      · rw [strLen_append, strLen_append, strLen_append, strLen_append, sizeLine_eq]
        show _ + (Str.ofString (toString i)).length + _ + _ ≤ _
        omega
      · rw [strLen_append, strLen_append, strLen_append, strLen_append, sizeLine_eq]
        show _ + (Str.ofString (toString i)).length + _ + _ ≤ _
        omega
end
end L2

set_option Elab.async false
set_option linter.all false
set_option maxRecDepth 100000
namespace Law
open PySem L2
local macro_rules | `(tactic| simp! [$ls,*]) => `(tactic| simp only [tSeq, tAsg, gName, tVar, tC, tOp, tUn, rI0, rI, rU, tCB, tCons, tNil, tRet, tRetN, tIfS, tTest, tB, tAnd, tOr, tNot, tAndV, tOrV, tNotV, tIf, tDrop, tNext, tCall, tMeth, tIsN, tNotN, L2.start, List.map_cons, List.map_nil, List.length_cons, List.length_nil, List.nil_append, List.cons_append, List.append_nil, Nat.reduceAdd, Nat.reduceSub, Nat.sub_self, List.replicate_succ, List.replicate_zero, List.set_cons_zero, List.set_cons_succ, List.getElem?_cons_zero, List.getElem?_cons_succ, Option.some.injEq, V.int.injEq, V.bl.injEq, V.str.injEq, V.ref.injEq, List.cons.injEq, exists_eq_left', exists_eq_left, exists_and_left, and_true, true_and, if_true, if_false, ite_true, ite_false, Bool.true_eq_false, Bool.false_eq_true, decide_eq_true_eq, Bool.not_true, Bool.not_false, Bool.not_eq_true', decide_eq_false_iff_not, reduceCtorEq, false_and, and_false, exists_false, tTup, tLst, sizeLine_eq, Nat.reduceLeDiff, Nat.zero_le, rEq, rNe, rIxF, rEqF, gSub, rSetL, HO.lst.injEq, HO.tup.injEq, HO.ins.injEq, HO.dK.injEq, scal_int, scal_bl, scal_str, tyF_ref, tyF_int, tyF_bl, tyF_str, tyF_non, lenF_ref, seqV_eq, kindV_eq, tyO_lst, tyO_frz, tyO_tup, tyO_dK, lenO_lst, lenO_frz, lenO_tup, seqO_lst, seqO_frz, seqO_tup, kindO_lst, kindO_frz, kindO_tup, isTys, and_assoc, atI_0, atI_1, atI_2, atI_3, atI_4, upd_same, V.ty.injEq, eq_self_iff_true, and_self, String.reduceEq, or_false, or_true, false_or, true_or, Bool.or_true, Bool.or_false, Bool.true_or, Bool.false_or, Bool.and_false, Bool.false_and, Bool.and_true, Bool.true_and, String.reduceBEq, beq_self_eq_true, tDGetF, tDInF, tDNotInF, sDPutF, keyOf_int, keyOf_str, sFld, tFld, tDNewK, tRaise, tMethE, EX, tFstr, tMake, cxOf_K, Nat.reduceLT, Option.join_some, Option.join_none, not_true_eq_false, not_false_eq_true, gCons, gNil, tChain, rEqE, tAug, ipI, $ls,*])
def top (i : Nat) : Stmt := PySem.Challenge.pw_knownholds_k15_numbers_read.main.body.getD i (.Pass ⟨0, 0, 0, 0⟩)
abbrev s_read_whole : Stmt := top 10
abbrev s_law_bag : Stmt := top 12
abbrev s_law_draw : Stmt := top 13
abbrev s_law_any_sign : Stmt := top 14
abbrev s_law_run : Stmt := top 15
abbrev s_law_bent_text : Stmt := top 16
abbrev s_law_figures : Stmt := top 17
abbrev s_law_text : Stmt := top 18
abbrev s_law_value : Stmt := top 19
abbrev s_law_read : Stmt := top 20
abbrev s_law : Stmt := top 21
structure Ad where
  f_read_whole : Addr
  d_read_whole : FuncData
  f_law_bag : Addr
  d_law_bag : FuncData
  f_law_draw : Addr
  d_law_draw : FuncData
  f_law_any_sign : Addr
  d_law_any_sign : FuncData
  f_law_run : Addr
  d_law_run : FuncData
  f_law_bent_text : Addr
  d_law_bent_text : FuncData
  f_law_figures : Addr
  d_law_figures : FuncData
  f_law_text : Addr
  d_law_text : FuncData
  f_law_value : Addr
  d_law_value : FuncData
  f_law_read : Addr
  d_law_read : FuncData
  f_law : Addr
  d_law : FuncData
  c_NoText : Addr
  c_HoldError : Addr
  c_NoSpot : Addr
  c_NoThing : Addr
  c_NotFormed : Addr
  c_NoTable : Addr
  c_Faulty : Addr
  t_FIGURES : Nat
structure Txt (K : PySem.W.Frag) (mg : Str → Option Value) (a : Ad) : Prop where
  x_NoText : XCls K a.c_NoText
  m_NoText : mg "NoText" = some (.ref a.c_NoText)
  m_HoldError : mg "HoldError" = some (.ref a.c_HoldError)
  m_NoSpot : mg "NoSpot" = some (.ref a.c_NoSpot)
  m_NoThing : mg "NoThing" = some (.ref a.c_NoThing)
  m_NotFormed : mg "NotFormed" = some (.ref a.c_NotFormed)
  m_NoTable : mg "NoTable" = some (.ref a.c_NoTable)
  m_Faulty : mg "Faulty" = some (.ref a.c_Faulty)
  xt : HT.XTab K a.c_HoldError [a.c_HoldError, a.c_NoSpot, a.c_NoThing, a.c_NoText, a.c_NotFormed, a.c_NoTable, a.c_Faulty]
  F_read_whole : Fun K "read_whole" "read_whole" s_read_whole a.f_read_whole a.d_read_whole
  b_read_whole : Binds K a.d_read_whole ["text", "most"] []
  m_read_whole : mg "read_whole" = some (.ref a.f_read_whole)
  F_law_bag : Fun K "_law_bag" "_law_bag" s_law_bag a.f_law_bag a.d_law_bag
  b_law_bag : Binds K a.d_law_bag ["script"] []
  m_law_bag : mg "_law_bag" = some (.ref a.f_law_bag)
  F_law_draw : Fun K "_law_draw" "_law_draw" s_law_draw a.f_law_draw a.d_law_draw
  b_law_draw : Binds K a.d_law_draw ["bag", "many"] []
  m_law_draw : mg "_law_draw" = some (.ref a.f_law_draw)
  F_law_any_sign : Fun K "_law_any_sign" "_law_any_sign" s_law_any_sign a.f_law_any_sign a.d_law_any_sign
  b_law_any_sign : Binds K a.d_law_any_sign ["bag"] []
  m_law_any_sign : mg "_law_any_sign" = some (.ref a.f_law_any_sign)
  F_law_run : Fun K "_law_run" "_law_run" s_law_run a.f_law_run a.d_law_run
  b_law_run : Binds K a.d_law_run ["bag"] []
  m_law_run : mg "_law_run" = some (.ref a.f_law_run)
  F_law_bent_text : Fun K "_law_bent_text" "_law_bent_text" s_law_bent_text a.f_law_bent_text a.d_law_bent_text
  b_law_bent_text : Binds K a.d_law_bent_text ["text", "pick", "bag"] []
  m_law_bent_text : mg "_law_bent_text" = some (.ref a.f_law_bent_text)
  F_law_figures : Fun K "_law_figures" "_law_figures" s_law_figures a.f_law_figures a.d_law_figures
  b_law_figures : Binds K a.d_law_figures ["bag", "size", "first"] []
  m_law_figures : mg "_law_figures" = some (.ref a.f_law_figures)
  F_law_text : Fun K "_law_text" "_law_text" s_law_text a.f_law_text a.d_law_text
  b_law_text : Binds K a.d_law_text ["bag", "most", "ways"] []
  m_law_text : mg "_law_text" = some (.ref a.f_law_text)
  F_law_value : Fun K "_law_value" "_law_value" s_law_value a.f_law_value a.d_law_value
  b_law_value : Binds K a.d_law_value ["text", "most"] []
  m_law_value : mg "_law_value" = some (.ref a.f_law_value)
  F_law_read : Fun K "_law_read" "_law_read" s_law_read a.f_law_read a.d_law_read
  b_law_read : Binds K a.d_law_read ["text", "most"] []
  m_law_read : mg "_law_read" = some (.ref a.f_law_read)
  F_law : Fun K "law" "law" s_law a.f_law a.d_law
  b_law : Binds K a.d_law ["script"] []
  m_law : mg "law" = some (.ref a.f_law)
  z_ValueError : mg "ValueError" = none
  z_abs : mg "abs" = none
  z_all : mg "all" = none
  z_bool : mg "bool" = none
  z_int : mg "int" = none
  z_isinstance : mg "isinstance" = none
  z_len : mg "len" = none
  z_max : mg "max" = none
  z_range : mg "range" = none
  z_str : mg "str" = none
  m_FIGURES : mg "FIGURES" = some (.str "0123456789" a.t_FIGURES)
theorem sc_read_whole : FnScope ["text", "most", "figures"] ["text", "most"] (defScope s_read_whole) := ⟨rfl, rfl, rfl, by decide +kernel, rfl, by decide +kernel, by decide +kernel⟩
theorem sc_law_bag : FnScope ["script", "stir", "cell"] ["script"] (defScope s_law_bag) := ⟨rfl, rfl, rfl, by decide +kernel, rfl, by decide +kernel, by decide +kernel⟩
theorem sc_law_draw : FnScope ["bag", "many", "found"] ["bag", "many"] (defScope s_law_draw) := ⟨rfl, rfl, rfl, by decide +kernel, rfl, by decide +kernel, by decide +kernel⟩
theorem sc_law_any_sign : FnScope ["bag", "some"] ["bag"] (defScope s_law_any_sign) := ⟨rfl, rfl, rfl, by decide +kernel, rfl, by decide +kernel, by decide +kernel⟩
theorem sc_law_run : FnScope ["bag", "way", "many"] ["bag"] (defScope s_law_run) := ⟨rfl, rfl, rfl, by decide +kernel, rfl, by decide +kernel, by decide +kernel⟩
theorem sc_law_bent_text : FnScope ["text", "pick", "bag", "at", "starts", "gone"] ["text", "pick", "bag"] (defScope s_law_bent_text) := ⟨rfl, rfl, rfl, by decide +kernel, rfl, by decide +kernel, by decide +kernel⟩
theorem sc_law_figures : FnScope ["bag", "size", "first", "base"] ["bag", "size", "first"] (defScope s_law_figures) := ⟨rfl, rfl, rfl, by decide +kernel, rfl, by decide +kernel, by decide +kernel⟩
theorem sc_law_text : FnScope ["bag", "most", "ways", "some", "size"] ["bag", "most", "ways"] (defScope s_law_text) := ⟨rfl, rfl, rfl, by decide +kernel, rfl, by decide +kernel, by decide +kernel⟩
theorem sc_law_value : FnScope ["text", "most", "figures"] ["text", "most"] (defScope s_law_value) := ⟨rfl, rfl, rfl, by decide +kernel, rfl, by decide +kernel, by decide +kernel⟩
theorem sc_law_read : FnScope ["text", "most", "found", "told", "e", "others"] ["text", "most"] (defScope s_law_read) := ⟨rfl, rfl, rfl, by decide +kernel, rfl, by decide +kernel, by decide +kernel⟩
theorem sc_law : FnScope ["script", "bag", "ways", "picks", "most", "text", "pick", "found", "told", "due"] ["script"] (defScope s_law) := ⟨rfl, rfl, rfl, by decide +kernel, rfl, by decide +kernel, by decide +kernel⟩
section
variable {P : Program} {w : World} {K : PySem.W.Frag} {mg : Str → Option Value} {base : Heap} {a : Ad}

structure BagOk (cs : List Int) (i v st n : Int) : Prop where
  i0 : 0 ≤ i
  i1 : i ≤ cs.length
  v0 : 0 ≤ v
  s0 : 0 ≤ st
  s1 : st < 2147483647
  n0 : 0 ≤ n
def bagL (c : Addr) (i v st n : Int) : List V := [.ref c, .int i, .int v, .int st, .int n]
structure BagAt (H : Hp) (b c : Addr) (cs : List Int) : Prop where
  ex : ∃ i v st n, H b = some (.lst (bagL c i v st n)) ∧ BagOk cs i v st n
  at_ : H c = some (.lst (cs.map V.int))
  ne : c ≠ b
  pos : ∀ z ∈ cs, 0 ≤ z
  len : cs.length ≤ 63
/-- all but b is as it was -/
def Kp (b : Addr) (H H' : Hp) : Prop := ∀ q o, H q = some o → q ≠ b → H' q = some o
theorem Kp.refl {b : Addr} {H : Hp} : Kp b H H := fun _ _ h _ => h
theorem Kp.trans {b : Addr} {H H1 H2 : Hp} (x : Kp b H H1) (y : Kp b H1 H2) : Kp b H H2 := fun q o h n => y q o (x q o h n) n
theorem Kp.laid {b p : Addr} {H H1 : Hp} {u : HO} (x : Kp b H H1) (hp : H1 p = none) : Kp b H (upd H1 p u) := fun q o h n => upd_old (x q o h n) hp
theorem Kp.at_ {b : Addr} {H : Hp} {u : HO} : Kp b H (upd H b u) := fun q o h n => by rw [upd_ne n]; exact h
theorem BagAt.laid {H : Hp} {b c p : Addr} {cs : List Int} {u : HO} (x : BagAt H b c cs) (hp : H p = none) : BagAt (upd H p u) b c cs := by
  obtain ⟨⟨i, v, st, n, e, k⟩, h2, ne, pos, len⟩ := x
  exact ⟨⟨i, v, st, n, upd_old e hp, k⟩, upd_old h2 hp, ne, pos, len⟩
theorem BagAt.other {H : Hp} {b c p : Addr} {cs : List Int} {u : HO} (x : BagAt H b c cs) (h1 : p ≠ b) (h2 : p ≠ c) : BagAt (upd H p u) b c cs := by
  obtain ⟨⟨i, v, st, n, e, k⟩, h3, ne, pos, len⟩ := x
  exact ⟨⟨i, v, st, n, by rw [upd_ne h1.symm]; exact e, k⟩, by rw [upd_ne h2.symm]; exact h3, ne, pos, len⟩
theorem BagAt.keep {H H' : Hp} {b c : Addr} {cs : List Int} (x : BagAt H b c cs) (hs : ∀ q o, H q = some o → H' q = some o) : BagAt H' b c cs := by
  obtain ⟨⟨i, v, st, n, e, k⟩, h3, ne, pos, len⟩ := x
  exact ⟨⟨i, v, st, n, hs _ _ e, k⟩, hs _ _ h3, ne, pos, len⟩
theorem pow3_lt {x : Int} (h0 : 0 ≤ x) : 0 ≤ x ^ 3 := Int.pow_nonneg h0
def sp_draw : Sp := fun vs H Q _ => ∃ (b c : Addr) (cs : List Int) (many : Int), vs = [.ref b, .int many] ∧ BagAt H b c cs ∧ 0 < many ∧ many ≤ 10 ^ 70 ∧ ∀ (r : Int) (H' : Hp), 0 ≤ r → r < many → BagAt H' b c cs → Kp b H H' → Q (.int r) H'
theorem ixN5_0 : ixN 5 0 = some 0 := rfl
theorem ixN5_1 : ixN 5 1 = some 1 := rfl
theorem ixN5_2 : ixN 5 2 = some 2 := rfl
theorem ixN5_3 : ixN 5 3 = some 3 := rfl
theorem ixN5_4 : ixN 5 4 = some 4 := rfl
set_option maxHeartbeats 4000000 in
theorem ok_law_draw (T : Txt K mg a) : FnOk P w K mg base (CX1 P w) 1 a.f_law_draw a.d_law_draw ["bag", "many"] sp_draw := by
  refine T.F_law_draw.okC sc_law_draw (fun vs H Q E h => ?_) (fun cdv A outer s H vs Q E hr h => ?_)
  · obtain ⟨b, c, cs, m, rfl, _⟩ := h
    rfl
  · obtain ⟨b, c, cs, m, rfl, ⟨⟨i, v, st, n, hb, i0, i1, v0, s0, s1, n0⟩, hc, ne, pos, len⟩, m0, m1, q⟩ := h
    have hu := hu_of hr
    refine ⟨_, (pss_cons (ps_if (PW.pt (pw_and (pt_cmpR op_eq (pe_ix ix_F (pv 0) pe_int (fun _ _ => rfl)) pe_int (nomark _)) (pw_and1 (pt_cmpR op_lt (pe_ix ix_F (pv 0) pe_int (fun _ _ => rfl)) (pe_callB call_lenF (by rfl) T.z_len (by decide +kernel) (pa_cons (pe_ix ix_F (pv 0) pe_int (fun _ _ => rfl)) pa_nil)) (nomark _))))) (pss_cons (ps_asg (pe_ix ix_F (pe_ix ix_F (pv 0) pe_int (fun _ _ => rfl)) (pe_ix ix_F (pv 0) pe_int (fun _ _ => rfl)) (fun _ _ => rfl)) (pg_sub (pv 0) pe_int set_list))
      (pss_one (ps_asg (pe_op op_add (pe_ix ix_F (pv 0) pe_int (fun _ _ => rfl)) pe_int) (pg_sub (pv 0) pe_int set_list)))) (pss_one (ps_if (pt_cmpR op_eq (pe_ix ix_F (pv 0) pe_int (fun _ _ => rfl)) pe_int (nomark _)) (pss_cons (ps_asg (pe_op op_add (pe_ix ix_F (pv 0) pe_int (fun _ _ => rfl)) pe_int) (pg_sub (pv 0) pe_int set_list))
      (pss_cons (ps_asg (pe_op op_mod (pe_op op_add (pe_op op_add (pe_op op_add (pe_op op_pow (pe_ix ix_F (pv 0) pe_int (fun _ _ => rfl)) pe_int) (pe_op op_mul pe_int (pe_ix ix_F (pv 0) pe_int (fun _ _ => rfl)))) (pe_op op_mul pe_int (pe_ix ix_F (pv 0) pe_int (fun _ _ => rfl)))) pe_int) pe_int) (pg_sub (pv 0) pe_int set_list))
      (pss_one (ps_ret (pe_op op_mod (pe_op op_fdivB (pe_ix ix_F (pv 0) pe_int (fun _ _ => rfl)) pe_int) (pv 1)))))) pss_nil)))
      (pss_cons (ps_set (i := 2) sc_law_draw.nd (by rfl) (Or.inl rfl) (pe_op op_mod (pe_ix ix_F (pv 0) pe_int (fun _ _ => rfl)) (pv 1)))
      (pss_cons (ps_asg (pe_op op_fdivB (pe_ix ix_F (pv 0) pe_int (fun _ _ => rfl)) (pv 1)) (pg_sub (pv 0) pe_int set_list))
      (pss_one (ps_ret (pv 2)))))), ?_⟩
    simp! [hb, hc, bagL, ixN5_0, ixN5_1, ixN5_2, ixN5_3, ixN5_4, upd_upd, List.length_map]
    have fin : ∀ (r i' v' st' n' : Int), 0 ≤ r → r < m → BagOk cs i' v' st' n' → Q (.int r) (upd H b (.lst [.ref c, .int i', .int v', .int st', .int n'])) := fun r i' v' st' n' h1 h2 h3 =>
      q r _ h1 h2 ⟨⟨i', v', st', n', upd_same, h3⟩, by rw [upd_ne ne]; exact hc, ne, pos, len⟩ Kp.at_
    have e3 : (3 : Int).toNat = 3 := rfl
    rw [e3]
    have p3 := pow3_lt s0
    have B1 : CPow st 3 ∧ CMul 69621 st ∧ CMul 1009 (n + 1) ∧ (0 : Int) < 2147483647 ∧ CDivB ((st ^ 3 + 69621 * st + 1009 * (n + 1) + 1) % 2147483647) 16 ∧ 0 < m ∧ Q (V.int ((st ^ 3 + 69621 * st + 1009 * (n + 1) + 1) % 2147483647 / 16 % m)) (upd H b (HO.lst [V.ref c, V.int i, V.int v, V.int ((st ^ 3 + 69621 * st + 1009 * (n + 1) + 1) % 2147483647), V.int (n + 1)])) := by
      refine ⟨⟨by decide, by decide, by omega⟩, .inl ⟨by decide, by decide⟩, .inl ⟨by decide, by decide⟩, by decide, ⟨by decide, by decide⟩, m0, ?_⟩
      generalize (st ^ 3 + 69621 * st + 1009 * (n + 1) + 1) = y
      exact fin _ _ _ _ _ (Int.emod_nonneg _ (by omega)) (Int.emod_lt_of_pos _ m0) ⟨i0, i1, v0, by omega, by omega, by omega⟩
    have B2 : 0 < m ∧ CDivB v m ∧ Q (V.int (v % m)) (upd H b (HO.lst [V.ref c, V.int i, V.int (v / m), V.int st, V.int n])) :=
      ⟨m0, ⟨m0, m1⟩, fin _ _ _ _ _ (Int.emod_nonneg _ (by omega)) (Int.emod_lt_of_pos _ m0) ⟨i0, i1, Int.ediv_nonneg v0 (by omega), s0, s1, n0⟩⟩
    have B3 : i < cs.length → ∃ x, atI (cs.map V.int) i = some x ∧ ∃ i_1, x = V.int i_1 ∧ 0 < m ∧ ∃ i_2, x = V.int i_2 ∧ CDivB i_2 m ∧ Q (V.int (i_1 % m)) (upd H b (HO.lst [V.ref c, V.int (i + 1), V.int (i_2 / m), V.int st, V.int n])) := fun hi => by
      have hj : i.toNat < cs.length := by omega
      have e1 : (cs.map V.int)[i.toNat]? = some (V.int cs[i.toNat]) := by rw [List.getElem?_map, List.getElem?_eq_getElem hj]; rfl
      have e2 := atI_nat e1
      rw [show ((i.toNat : Nat) : Int) = i by omega] at e2
      have p := pos _ (List.getElem_mem hj)
      refine ⟨_, e2, _, rfl, m0, _, rfl, ⟨m0, m1⟩, ?_⟩
      exact fin _ _ _ _ _ (Int.emod_nonneg _ (by omega)) (Int.emod_lt_of_pos _ m0) ⟨by omega, by omega, Int.ediv_nonneg p (by omega), s0, s1, n0⟩
    refine ite2 (fun h1 => ite2 B3 fun h2 => ite2 (fun _ => B1) fun _ => B2) fun h1 => ite2 (fun _ => B1) fun _ => B2

theorem cut63 (ns : List Int) : ∃ zs : List Int, cutV (ns.map V.int) none (some 63) = zs.map V.int ∧ zs.length ≤ 63 ∧ zs.length ≤ ns.length := by
  refine ⟨(ns.drop (HT.sIx (ns.map V.int).length 0 none)).take (HT.sIx (ns.map V.int).length (ns.map V.int).length (some 63) - HT.sIx (ns.map V.int).length 0 none), ?_, ?_, ?_⟩
  · unfold cutV
    rw [List.map_take, List.map_drop]
  · rw [List.length_take, List.length_drop, List.length_map]
    have : HT.sIx ns.length ns.length (some 63) ≤ 63 := by unfold HT.sIx; simp; omega
    omega
  · rw [List.length_take, List.length_drop]; omega
def sp_bag (K : PySem.W.Frag) : Sp := fun vs H Q _ => ∃ (r : Addr) (ns : List Int), vs = [.ref r] ∧ SqL K H r (ns.map V.int) ∧ ∀ (b c : Addr) (cs : List Int) (H' : Hp), H b = none → H c = none → BagAt H' b c cs → Same H H' → Q (.ref b) H'
set_option maxHeartbeats 4000000 in
theorem ok_law_bag (T : Txt K mg a) : FnOk P w K mg base (CX1 P w) 1 a.f_law_bag a.d_law_bag ["script"] (sp_bag K) := by
  refine T.F_law_bag.okC sc_law_bag (fun vs H Q E h => ?_) (fun cdv A outer s H vs Q E hr h => ?_)
  · obtain ⟨r, ns, rfl, _⟩ := h
    rfl
  · obtain ⟨r, ns, rfl, hS, q⟩ := h
    have hu := hu_of hr
    obtain ⟨zs, ez, lz, _⟩ := cut63 ns
    refine ⟨_, (pss_cons (ps_set (i := 1) sc_law_bag.nd (by rfl) (Or.inl rfl) pe_int)
      (pss_cons (ps_for PassesOwn.never (by rfl) (pi_list (pe_slice sl_list (pv 0) po_none (po_some pe_int))) (pg_name (i := 2) sc_law_bag.nd (by rfl) (Or.inl rfl))
      (pss_one (ps_set (i := 1) sc_law_bag.nd (by rfl) (Or.inl rfl) (pe_op op_mod (pe_op op_add (pe_op op_add (pe_op op_mul (pv 1) pe_int) (pe_op op_mod (pv 2) pe_int)) pe_int) pe_int))))
      (pss_one (ps_ret (pe_lst (pa_cons (pe_comp (N' := ["cell"]) (cap := [none]) ⟨rfl, (by decide +kernel), (by decide +kernel), (by rfl), rfl, (by rfl)⟩ (by rfl) (pi_list (pe_slice sl_list (pv 0) po_none (po_some pe_int))) (fun C_ ex_ s_ H_ => (pg_name (i := 0) (show (["cell"] : List Str).Nodup by decide +kernel) (by rfl) (Or.inl rfl))) gkp_name (fun C_ ex_ s_ H_ => pifs_nil) (fun C_ ex_ s_ H_ => (pe_op op_mod (pe_callB call_abs (by rfl) T.z_abs (by decide +kernel) (pa_cons (pv 0) pa_nil)) (pe_op op_pow pe_int pe_int)))) (pa_cons pe_int (pa_cons pe_int (pa_cons (pv 1) (pa_cons pe_int pa_nil)))))))))), ?_⟩
    refine ⟨_, rfl, 63, rfl, r, _, rfl, hS, fun l1 hl1 => ?_⟩
    rw [ez]
    refine ⟨l1, rfl, ⟨_, .of upd_same⟩, for_list (xs := zs.map V.int) (fun i σ H2 => ∃ (st : Int) (v2 : Option V), σ = [some (.ref r), some (.int st), v2] ∧ H2 = upd H l1 (.lst (zs.map V.int)) ∧ 0 ≤ st ∧ st < 2147483647)
      ⟨7, _, rfl, rfl, by decide, by decide⟩ (fun i σ H2 _ ⟨_, _, _, e, _⟩ => by rw [e]; exact .of upd_same) ?_ ?_⟩
    · rintro i x σ H2 hi ⟨st, v2, rfl, rfl, s0, s1⟩
      obtain ⟨z, _, rfl⟩ := of_map_get hi
      simp! []
      exact ⟨.inr ⟨by decide, by decide⟩, by decide, by decide, Int.emod_nonneg _ (by decide), Int.emod_lt_of_pos _ (by decide)⟩
    · rintro σ H2 ⟨st, v2, rfl, rfl, s0, s1⟩
      have hS1 : SqL K (upd H l1 (.lst (zs.map V.int))) r (ns.map V.int) := (Same.laid hl1).seq hS
      refine ⟨_, rfl, 63, rfl, r, _, rfl, hS1, fun l2 hl2 => ?_⟩
      rw [ez]
      refine ⟨l2, rfl, ⟨_, .of upd_same⟩, fun D hD => ?_⟩
      refine comp_list (xs := zs.map V.int) (fun i ys H2 => ∃ ws : List Int, ys = ws.map V.int ∧ ws.length = i ∧ (∀ z ∈ ws, 0 ≤ z) ∧ H2 = upd (upd (upd H l1 (.lst (zs.map V.int))) l2 (.lst (zs.map V.int))) D (.lst ys))
        ⟨[], rfl, rfl, by simp, rfl⟩ (fun i ys H2 _ ⟨ws, e1, e2, _, e3⟩ => ?_) (by rw [sizeLine_eq]; simp; omega) ?_ ?_
      · rw [e3]
        exact ⟨.of (upd_old upd_same hD), upd_same, by rw [e1]; simp; omega⟩
      · rintro i x ys H2 hi ⟨ws, rfl, e2, e3, rfl⟩
        obtain ⟨z, _, rfl⟩ := of_map_get hi
        simp! [tTrue, capSt]
        refine ⟨⟨by decide, by decide, by decide⟩, by decide, ws ++ [(if z < 0 then -z else z) % 10 ^ Int.toNat 60], by simp, by simp; omega, ?_, upd_upd⟩
        intro y hy
        rcases List.mem_append.mp hy with hy | hy
        · exact e3 y hy
        · rw [List.mem_singleton.mp hy]
          exact Int.emod_nonneg _ (by decide)
      · rintro ys H2 ⟨ws, rfl, e2, e3, rfl⟩
        simp! []
        intro b hb
        have n1 : H b = none := Same.free (((Same.laid hl1).step hl2).step hD) hb
        have n2 : H D = none := Same.free ((Same.laid hl1).step hl2) hD
        rw [List.length_map] at e2
        exact q b D ws _ n1 n2 ⟨⟨0, 0, st, 0, upd_same, by decide, by omega, by decide, s0, s1, by decide⟩, upd_old upd_same hb, ne_of_none upd_same hb, e3, by omega⟩ ((((Same.laid hl1).step hl2).step hD).step hb)

end
section
variable {P : Program} {w : World} {K : PySem.W.Frag} {mg : Str → Option Value} {base : Heap} {a : Ad}
theorem slice_chars (z : Str) (lo hi : Option Int) : (PySem.Txt.slice z lo hi).cps.size ≤ z.cps.size ∧ ∀ c ∈ (PySem.Txt.slice z lo hi).cps.toList, c ∈ z.cps.toList := by
  refine ⟨PySem.Txt.slice_le z lo hi, ?_⟩
  unfold PySem.Txt.slice
  intro c hc
  split at hc
  · exact hc
  · have hc' : c ∈ List.filterMap (fun x => z.cps[x]?) (Builtin.Str.strSliceIndices lo hi 1 z.length) := by simpa using hc
    obtain ⟨x, _, hx⟩ := List.mem_filterMap.mp hc'
    exact Array.mem_toList_iff.mpr (Array.mem_of_getElem? hx)
theorem asc_mem {z : Str} : z.cps.all (· < 128) = true ↔ ∀ c ∈ z.cps.toList, c < 128 := by
  rw [← Array.all_toList, List.all_eq_true]
  exact ⟨fun h c hc => by simpa using h c hc, fun h c hc => by simpa using h c hc⟩
theorem app_mem {x y : Str} {c : Nat} : c ∈ (x ++ y).cps.toList ↔ c ∈ x.cps.toList ∨ c ∈ y.cps.toList := by
  show c ∈ (x.cps ++ y.cps).toList ↔ _
  rw [Array.toList_append, List.mem_append]
theorem app_size {x y : Str} : (x ++ y).cps.size = x.cps.size + y.cps.size := by
  show (x.cps ++ y.cps).size = _
  rw [Array.size_append]

abbrev Asc (z : Str) : Prop := z.cps.all (· < 128) = true
theorem len_def (z : Str) : z.length = z.cps.size := rfl
theorem asc_app {x y : Str} (h1 : Asc x) (h2 : Asc y) : Asc (x ++ y) := asc_mem.mpr fun c hc => (app_mem.mp hc).elim (asc_mem.mp h1 c) (asc_mem.mp h2 c)
theorem asc_slice {x : Str} {lo hi : Option Int} (h1 : Asc x) : Asc (PySem.Txt.slice x lo hi) := asc_mem.mpr fun c hc => asc_mem.mp h1 c ((slice_chars x lo hi).2 c hc)
theorem slice_tl (z : Str) : (PySem.Txt.slice z (some 1) none).cps.toList = z.cps.toList.drop 1 := by
  by_cases e : z.cps.toList.length = 0
  · have e1 : z.cps.toList = [] := List.length_eq_zero_iff.mp e
    have := (slice_chars z (some 1) none).2
    rw [e1] at this ⊢
    rw [List.drop_nil]
    exact List.eq_nil_iff_forall_not_mem.mpr fun c hc => absurd (this c hc) List.not_mem_nil
  · have := PyProof.Rows.slice_closes_from (x := z) (i := 1) ⟨by decide, by omega⟩
    have := beq_iff_eq.mp this
    rw [this]
    show List.take _ (List.drop 1 _) = _
    exact List.take_of_length_le (by rw [List.length_drop]; omega)
theorem slice_hd (z : Str) : (PySem.Txt.slice z none (some 1)).cps.toList = z.cps.toList.take 1 := by
  by_cases e : z.cps.toList.length = 0
  · have e1 : z.cps.toList = [] := List.length_eq_zero_iff.mp e
    have := (slice_chars z none (some 1)).2
    rw [e1] at this ⊢
    rw [List.take_nil]
    exact List.eq_nil_iff_forall_not_mem.mpr fun c hc => absurd (this c hc) List.not_mem_nil
  · have := PyProof.Rows.slice_closes_to (x := z) (j := 1) ⟨by decide, by omega⟩
    have := beq_iff_eq.mp this
    rw [this]
    rfl
theorem str_ext {x y : Str} (h : x.cps.toList = y.cps.toList) : x = y := by
  obtain ⟨a⟩ := x
  obtain ⟨b⟩ := y
  have : a = b := Array.toList_inj.mp h
  rw [this]
def Mn (z : Str) : Prop := z.cps.toList.head? = some 45
instance (z : Str) : Decidable (Mn z) := inferInstanceAs (Decidable (_ = _))
def figs (z : Str) : List Nat := if Mn z then z.cps.toList.drop 1 else z.cps.toList
theorem hd_eq (z : Str) : PySem.Txt.slice z none (some 1) = ("-" : Str) ↔ Mn z := by
  constructor
  · intro h
    have e := slice_hd z
    rw [h] at e
    unfold Mn
    cases c : z.cps.toList with
    | nil => rw [c] at e; exact absurd e (by decide)
    | cons a r =>
      rw [c] at e
      have : ("-" : Str).cps.toList = [a] := e
      have e2 : ("-" : Str).cps.toList = [45] := by decide
      rw [e2] at this
      injection this with h1 _
      rw [List.head?_cons, h1]
  · intro h
    refine str_ext ?_
    rw [slice_hd]
    unfold Mn at h
    cases c : z.cps.toList with
    | nil => rw [c] at h; cases h
    | cons a r =>
      rw [c, List.head?_cons] at h
      injection h with h
      rw [h]
      show [45] = _
      decide
theorem starts_eq (z : Str) : PySem.Txt.startswith z ("-" : Str) = decide (Mn z) := by
  have ex : (z.cps.extract 0 (0 + ("-" : Str).length)).toList = z.cps.toList.take 1 := by
    rw [Array.toList_extract]
    rfl
  have e2 : ("-" : Str).cps.toList = [45] := by decide
  unfold PySem.Txt.startswith Builtin.Str.subAt
  rw [Bool.eq_iff_iff, Bool.and_eq_true, decide_eq_true_eq, decide_eq_true_eq, beq_iff_eq]
  unfold Mn
  constructor
  · rintro ⟨_, h⟩
    have := congrArg Array.toList h
    rw [ex, e2] at this
    cases c : z.cps.toList with
    | nil => rw [c] at this; cases this
    | cons a r =>
      rw [c] at this
      injection this with h1 _
      rw [List.head?_cons, h1]
  · intro h
    cases c : z.cps.toList with
    | nil => rw [c] at h; cases h
    | cons a r =>
      rw [c, List.head?_cons] at h
      injection h with h
      refine ⟨?_, Array.toList_inj.mp ?_⟩
      · have : z.length = z.cps.toList.length := by rw [len_def, ← Array.length_toList]
        rw [this, c]
        show 0 + 1 ≤ r.length + 1
        omega
      · rw [ex, e2, c, h]
        rfl
structure OkT (z : Str) (most : Int) : Prop where
  l1 : 1 ≤ (figs z).length
  l2 : ((figs z).length : Int) ≤ most
  dg : ∀ c ∈ figs z, 48 ≤ c ∧ c ≤ 57
  zr : ¬ ((figs z).head? = some 48 ∧ 1 < z.length)
instance (z : Str) (most : Int) : Decidable (OkT z most) := decidable_of_iff (1 ≤ (figs z).length ∧ ((figs z).length : Int) ≤ most ∧ (∀ c ∈ figs z, 48 ≤ c ∧ c ≤ 57) ∧ ¬ ((figs z).head? = some 48 ∧ 1 < z.length)) ⟨fun ⟨a, b, c, d⟩ => ⟨a, b, c, d⟩, fun x => ⟨x.l1, x.l2, x.dg, x.zr⟩⟩
theorem OkT.num {z : Str} {most : Int} (h : OkT z most) (m : most ≤ 600) : ∃ n, intText? z = some n ∧ z.length ≤ 640 := by
  have l2 := h.l2
  have dg := h.dg
  have l1 := h.l1
  unfold figs at l1 l2 dg
  by_cases c : Mn z
  · rw [if_pos c] at l1 l2 dg
    unfold Mn at c
    cases e : z.cps.toList with
    | nil => rw [e] at c; cases c
    | cons a r =>
      rw [e] at c l1 l2 dg
      injection c with c
      subst c
      have lz : z.length = r.length + 1 := by rw [len_def, ← Array.length_toList, e]; rfl
      have l2' : (r.length : Int) ≤ most := l2
      exact ⟨_, intText_neg e dg (fun z => by rw [z] at l1; exact absurd l1 (by decide)) (by omega), by omega⟩
  · rw [if_neg c] at l1 l2 dg
    have lz : z.length = z.cps.toList.length := by rw [len_def, ← Array.length_toList]
    exact ⟨_, intText_digits dg (fun z => by rw [z] at l1; exact absurd l1 (by decide)) (by omega), by omega⟩

end
section
variable {P : Program} {w : World} {K : PySem.W.Frag} {mg : Str → Option Value} {base : Heap} {a : Ad}

theorem fig_in (c : Nat) : (!(Builtin.Str.occurrences ("0123456789" : Str) { cps := #[c] } 0 ("0123456789" : Str).length 1).isEmpty) = decide (48 ≤ c ∧ c ≤ 57) := by
  rw [PyProof.Rows.empty_one, Bool.not_not]
  have e : ("0123456789" : Str).cps.toList = [48, 49, 50, 51, 52, 53, 54, 55, 56, 57] := by decide
  rw [e]
  rw [Bool.eq_iff_iff, decide_eq_true_eq, decide_eq_true_eq]
  simp only [List.mem_cons, List.not_mem_nil, or_false]
  omega
def figS (z : Str) : Str := if Mn z then PySem.Txt.slice z (some 1) none else z
theorem figS_list (z : Str) : (figS z).cps.toList = figs z := by
  unfold figS figs
  split
  · exact slice_tl z
  · rfl
theorem figS_asc {z : Str} (h : Asc z) : Asc (figS z) := by
  unfold figS
  split
  · exact asc_slice h
  · exact h
theorem figS_len (z : Str) : (figS z).length = (figs z).length := by rw [← figS_list, len_def, Array.length_toList]
theorem figS_le (z : Str) : (figS z).length ≤ z.length := by
  unfold figS
  split
  · exact PySem.Txt.slice_le _ _ _
  · exact Nat.le_refl _
theorem zero_eq {z : Str} (h : (figs z).head? = some 48) : z = ("0" : Str) ↔ ¬ 1 < z.length := by
  have e2 : ("0" : Str).cps.toList = [48] := by decide
  have lz : z.length = z.cps.toList.length := by rw [len_def, ← Array.length_toList]
  constructor
  · rintro rfl
    decide
  · intro n
    refine str_ext ?_
    rw [e2]
    unfold figs at h
    by_cases c : Mn z
    · rw [if_pos c] at h
      cases e : z.cps.toList with
      | nil => rw [e] at h; cases h
      | cons a r =>
        rw [e] at h lz
        cases r with
        | nil => cases h
        | cons b r => rw [List.length_cons, List.length_cons] at lz; omega
    · rw [if_neg c] at h
      cases e : z.cps.toList with
      | nil => rw [e] at h; cases h
      | cons a r =>
        rw [e] at h lz
        injection h with h
        cases r with
        | nil => rw [h]
        | cons b r => rw [List.length_cons, List.length_cons] at lz; omega
def sp_value : Sp := fun vs H Q _ => ∃ (z : Str) (most : Int), vs = [.str z, .int most] ∧ Asc z ∧ z.length ≤ 2000 ∧ 0 ≤ most ∧ most ≤ 600 ∧ (¬ OkT z most → ∀ H', Same H H' → Q .non H') ∧ (OkT z most → ∀ n H', intText? z = some n → Same H H' → Q (.int n) H')
set_option maxHeartbeats 2000000 in
theorem ok_law_value (T : Txt K mg a) : FnOk P w K mg base (CX1 P w) 1 a.f_law_value a.d_law_value ["text", "most"] sp_value := by
  refine T.F_law_value.okC sc_law_value (fun vs H Q E h => ?_) (fun cdv A outer s H vs Q E hr h => ?_)
  · obtain ⟨z, most, rfl, _⟩ := h
    rfl
  · obtain ⟨z, most, rfl, az, lz, m0, m1, qn, q⟩ := h
    have hu := hu_of hr
    have lz' : z.length ≤ sizeLine := by rw [sizeLine_eq]; omega
    have fle := figS_le z
    have lenS : ∀ {y : Str} {H2 : Hp}, y.length ≤ sizeLine → lenF (.str y) H2 = some y.length := fun h => if_pos h
    refine ⟨_, (pss_cons (ps_set (i := 2) sc_law_value.nd (by rfl) (Or.inl rfl) (pv 0))
      (pss_cons (ps_if (pt_cmpR op_eq (pe_slice sl_str (pv 0) po_none (po_some pe_int)) pe_str (nomark _)) (pss_one (ps_set (i := 2) sc_law_value.nd (by rfl) (Or.inl rfl) (pe_slice sl_str (pv 0) (po_some pe_int) po_none))) pss_nil)
      (pss_cons (ps_if (PW.pt (pw_or (pt_cmpR op_eq (pv 2) pe_str (nomark _)) (pw_or (pt_cmpR op_gt (pe_callB call_lenF (by rfl) T.z_len (by decide +kernel) (pa_cons (pv 2) pa_nil)) (pv 1) (nomark _)) (pw_or1 (pt_cmpR (op_neE hu) (pe_comp (N' := ["sign"]) (cap := [none]) ⟨rfl, (by decide +kernel), (by decide +kernel), (by rfl), rfl, (by rfl)⟩ (by rfl) (pi_str (pv 2)) (fun C_ ex_ s_ H_ => (pg_name (i := 0) (show (["sign"] : List Str).Nodup by decide +kernel) (by rfl) (Or.inl rfl))) gkp_name (fun C_ ex_ s_ H_ => (pifs_one (pt_cmpR op_notIn_str (pv 0) pe_str (by with_unfolding_all rfl)))) (fun C_ ex_ s_ H_ => (pv 0))) (pe_lst pa_nil) (nomark _)))))) (pss_one (ps_ret pe_non)) pss_nil)
      (pss_cons (ps_if (PW.pt (pw_and (pt_cmpR op_eq (pe_ix ix_str (pv 2) pe_int (fun _ _ => rfl)) pe_str (nomark _)) (pw_and1 (pt_cmpR op_gt (pe_callB call_lenF (by rfl) T.z_len (by decide +kernel) (pa_cons (pv 0) pa_nil)) pe_int (nomark _))))) (pss_one (ps_ret pe_non)) pss_nil)
      (pss_one (ps_ret (pe_callTy call_intT (by rfl) T.z_int (by decide +kernel) (pa_cons (pv 0) pa_nil)))))))), ?_⟩
    generalize hG : tSeq (tIfS (tOr _ _) _ _) _ = tail
    have FIN : tail { nx := fun _ H' => Q .non H', rt := Q } [some (.str z), some (.int most), some (.str (figS z))] H := by
      subst hG
      have fl := figS_len z
      have fa := figS_asc az
      simp! []
      have e0 : figS z = ("" : Str) ↔ figs z = [] := by
        rw [← figS_list]
        constructor
        · intro h; rw [h]; decide
        · intro h; exact str_ext (by rw [h]; decide)
      refine ite2 (fun c => qn (fun o => by have := o.l1; rw [e0.mp c] at this; exact absurd this (by decide)) _ (Same.refl _)) fun c0 => ?_
      refine ⟨_, lenS (by omega), ite2 (fun c => qn (fun o => by have := o.l2; omega) _ (Same.refl _)) fun c1 => ?_⟩
      refine compSS (figS z) (fun c => if 48 ≤ c ∧ c ≤ 57 then none else some (.str ⟨#[c]⟩)) (fun Q2 h2 => by simp! []; exact h2) fa (by rw [sizeLine_eq, ← len_def]; omega) ?_ ?_
      · intro c H2 R N hc S hR hN
        have fi := fig_in c
        simp! [capSt]
        rw [fi]
        by_cases d : 48 ≤ c ∧ c ≤ 57
        · rw [decide_eq_true d]
          exact hN (if_pos d) _ (Same.refl _)
        · rw [decide_eq_false d]
          exact hR _ _ (if_neg d) (Same.refl _)
      · intro D H2 hD S e p np
        have e' := upd_old (u := .lst []) e np
        have S2 := S.step np (u := .lst [])
        revert e' S2
        generalize upd H2 p (.lst []) = H3
        intro e' S2
        refine ⟨D, rfl, _, by rw [e']; rfl, by rw [e']; rfl, ?_⟩
        rw [figS_list]
        by_cases dg : ∀ c ∈ figs z, 48 ≤ c ∧ c ≤ 57
        · have em : (figs z).filterMap (fun c => if 48 ≤ c ∧ c ≤ 57 then none else some (V.str ⟨#[c]⟩)) = [] := List.filterMap_eq_nil_iff.mpr fun c hc => if_pos (dg c hc)
          rw [em, if_neg (by simp)]
          cases ef : figs z with
          | nil => exact absurd (e0.mpr ef) c0
          | cons c r =>
            have ea : atI (figS z).cps.toList 0 = some c := by rw [figS_list, ef]; exact atI_0
            refine ⟨figS z, 0, c, rfl, rfl, by rw [sizeLine_eq]; omega, ea, rfl, ?_⟩
            have hd : (figs z).head? = some 48 ↔ (V.str ⟨#[c]⟩ = V.str ("0" : Str)) := by
              rw [ef, List.head?_cons]
              constructor
              · intro h; injection h with h; rw [h]; rfl
              · intro h
                injection h with h
                have : #[c] = ("0" : Str).cps := congrArg Str.cps h
                have := congrArg Array.toList this
                have e2 : ("0" : Str).cps.toList = [48] := by decide
                rw [e2] at this
                injection this with h1 _
                rw [h1]
            have ok0 : ¬ ((figs z).head? = some 48 ∧ 1 < z.length) → OkT z most := fun n => ⟨by rw [ef]; simp, by omega, dg, n⟩
            have fin : OkT z most → ∃ x, intText? z = some x ∧ z.length ≤ 640 ∧ Q (.int x) H3 := fun o => by
              obtain ⟨n, h1, h2⟩ := o.num m1
              exact ⟨n, h1, h2, q o n H3 h1 S2⟩
            refine ite2 (fun h0 => ⟨_, lenS lz', ite2 (fun l1 => qn (fun o => o.zr ⟨hd.mpr h0, by omega⟩) _ S2) fun l1 => fin (ok0 fun n => l1 (by have := n.2; omega))⟩) fun h0 => fin (ok0 fun n => h0 (hd.mp n.1))
        · rw [if_pos ?_]
          · exact qn (fun o => dg o.dg) _ S2
          · cases ef : (figs z).filterMap (fun c => if 48 ≤ c ∧ c ≤ 57 then none else some (V.str ⟨#[c]⟩)) with
            | nil =>
              refine absurd (fun c hc => ?_) dg
              have := List.filterMap_eq_nil_iff.mp ef c hc
              by_cases d : 48 ≤ c ∧ c ≤ 57
              · exact d
              · rw [if_neg d] at this; cases this
            | cons _ _ => rfl
    have hdq := hd_eq z
    simp! [tSl, tPart, tNoPart]
    refine ⟨z, rfl, by rw [sizeLine_eq]; omega, rfl, ite2 (fun c => ⟨z, rfl, by rw [sizeLine_eq]; omega, ?_⟩) fun c => ?_⟩
    · have m : Mn z := hdq.mp (by injection c)
      have e : figS z = PySem.Txt.slice z (some 1) none := if_pos m
      rw [← e]
      exact FIN
    · have m : ¬ Mn z := fun m => c (by rw [hdq.mpr m])
      have e : figS z = z := if_neg m
      rw [← e]
      rw [e] at FIN ⊢
      exact FIN
def sp_read (X : Addr) : Sp := fun vs H Q E => ∃ (z : Str) (most : Int), vs = [.str z, .int most] ∧ Asc z ∧ z.length ≤ 2000 ∧ 0 ≤ most ∧ most ≤ 600 ∧ (¬ OkT z most → ∀ H', Same H H' → E (.ref X) none H') ∧ (OkT z most → ∀ n H', intText? z = some n → Same H H' → Q (.int n) H')
set_option maxHeartbeats 2000000 in
theorem ok_read_whole (T : Txt K mg a) : FnOk P w K mg base (CX1 P w) 1 a.f_read_whole a.d_read_whole ["text", "most"] (sp_read a.c_NoText) := by
  refine T.F_read_whole.okX sc_read_whole (fun vs H Q E h => ?_) (fun cdv A outer s H vs Q E hr h => ?_)
  · obtain ⟨z, most, rfl, _⟩ := h
    rfl
  · obtain ⟨z, most, rfl, az, lz, m0, m1, qn, q⟩ := h
    have hu := hu_of hr
    have lz' : z.length ≤ sizeLine := by rw [sizeLine_eq]; omega
    have fle := figS_le z
    have lenS : ∀ {y : Str} {H2 : Hp}, y.length ≤ sizeLine → lenF (.str y) H2 = some y.length := fun h => if_pos h
    refine ⟨_, (pss_cons (ps_set (i := 2) sc_read_whole.nd (by rfl) (Or.inl rfl) (pe_ifExp (pt_val (pe_bm PySem.F.plainAttrs_str PySem.F.slot_str_startswith PySem.F.type_str_startswith mt_starts (pv 0) (pa_cons pe_str pa_nil))) (pe_slice sl_str (pv 0) (po_some pe_int) po_none) (pv 0)))
      (pss_cons (ps_if (PW.pt (pw_or (pt_not (pt_chain op_le op_le pe_int (pe_callB call_lenF (by rfl) T.z_len (by decide +kernel) (pa_cons (pv 2) pa_nil)) (pv 1))) (pw_or1 (pt_not (pt_val (pe_callB (call_all (by rfl)) (by rfl) T.z_all (by decide +kernel) (pa_cons (pe_comp (N' := ["sign"]) (cap := [none]) ⟨rfl, (by decide +kernel), (by decide +kernel), (by rfl), rfl, (by rfl)⟩ (by rfl) (pi_str (pv 2)) (fun C_ ex_ s_ H_ => (pg_name (i := 0) (show (["sign"] : List Str).Nodup by decide +kernel) (by rfl) (Or.inl rfl))) gkp_name (fun C_ ex_ s_ H_ => pifs_nil) (fun C_ ex_ s_ H_ => (pe_cmpR op_in_str (pv 0) (pe_glob (v := .str "0123456789") (by rfl) T.m_FIGURES ⟨_, rfl⟩) (by with_unfolding_all rfl)))) pa_nil))))))) (pss_one (ps_raise (by rfl) T.x_NoText (by rfl) T.m_NoText flies_cx (pa_cons (pe_fstrIR (by decide) (by decide) (pv 1) (pv 0)) pa_nil))) pss_nil)
      (pss_cons (ps_if (PW.pt (pw_and (pt_cmpR op_eq (pe_ix ix_str (pv 2) pe_int (fun _ _ => rfl)) pe_str (nomark _)) (pw_and1 (pt_cmpR op_ne (pv 0) pe_str (nomark _))))) (pss_one (ps_raise (by rfl) T.x_NoText (by rfl) T.m_NoText flies_cx (pa_cons (pe_fstrR (by decide) (pv 0)) pa_nil))) pss_nil)
      (pss_one (ps_ret (pe_callTy call_intT (by rfl) T.z_int (by decide +kernel) (pa_cons (pv 0) pa_nil))))))), ?_⟩
    have fl := figS_len z
    have fa := figS_asc az
    have lm : most.natAbs.log2 < 1920 := by
      by_cases e : most.natAbs = 0
      · rw [e]; decide
      · exact (Nat.log2_lt e).mpr (Nat.lt_of_lt_of_le (by omega : most.natAbs < 1024) (by decide))
    generalize hG : tSeq (tIfS (tOr _ _) _ _) _ = tail
    have FIN : tail { nx := fun _ H' => Q .non H', rt := Q } [some (.str z), some (.int most), some (.str (figS z))] H := by
      subst hG
      have bad : ∀ H2, Same H H2 → ¬ OkT z most → tFstrIR (tVar 1) (tVar 0) [some (.str z), some (.int most), some (.str (figS z))] H2 (fun _ H3 => E (.ref a.c_NoText) none H3) := fun H2 S2 n => by
        simp! [tFstrIR]
        exact ⟨lm, az, by omega, fun _ => qn n _ S2⟩
      have badR : ∀ H2, Same H H2 → ¬ OkT z most → tFstrR (tVar 0) [some (.str z), some (.int most), some (.str (figS z))] H2 (fun _ H3 => E (.ref a.c_NoText) none H3) := fun H2 S2 n => by
        simp! [tFstrR]
        exact ⟨az, by omega, fun _ => qn n _ S2⟩
      simp! []
      refine ⟨_, lenS (by omega), ite2 (fun c0 => ite2 (fun c1 => bad _ (Same.refl _) fun o => c1 (by have := o.l2; omega)) fun c1 => ?_) fun c0 => bad _ (Same.refl _) fun o => c0 (by have := o.l1; omega)⟩
      refine compSS (figS z) (fun c => some (.bl (decide (48 ≤ c ∧ c ≤ 57)))) (fun Q2 h2 => by simp! []; exact h2) fa (by rw [sizeLine_eq, ← len_def]; omega) ?_ ?_
      · intro c H2 R N hc S hR hN
        have fi := fig_in c
        simp! [capSt, tTrue]
        rw [fi]
        exact hR _ _ rfl (Same.refl _)
      · intro D H2 hD S e
        have em : (figS z).cps.toList.filterMap (fun c => some (V.bl (decide (48 ≤ c ∧ c ≤ 57)))) = ((figs z).map fun c => decide (48 ≤ c ∧ c ≤ 57)).map V.bl := by
          rw [figS_list, List.map_map]
          show List.filterMap (some ∘ _) _ = _
          rw [List.filterMap_eq_map]
          rfl
        rw [em] at e
        refine ⟨D, rfl, _, by rw [e]; rfl, by rw [e]; rfl, ite2 (fun c => bad _ S fun o => ?_) fun c => ?_⟩
        · have : ((figs z).map fun c => decide (48 ≤ c ∧ c ≤ 57)).all id = true := List.all_eq_true.mpr fun b hb => by
            obtain ⟨x, hx, rfl⟩ := List.mem_map.mp hb
            exact decide_eq_true (o.dg x hx)
          rw [this] at c; cases c
        · have dg : ∀ c ∈ figs z, 48 ≤ c ∧ c ≤ 57 := fun x hx => by
            have ct : ((figs z).map fun c => decide (48 ≤ c ∧ c ≤ 57)).all id = true := by
              cases h : ((figs z).map fun c => decide (48 ≤ c ∧ c ≤ 57)).all id with
              | true => rfl
              | false => exact absurd h c
            exact of_decide_eq_true (List.all_eq_true.mp ct _ (List.mem_map.mpr ⟨x, hx, rfl⟩))
          cases ef : figs z with
          | nil => rw [ef] at fl; rw [fl] at c0; exact absurd c0 (by decide)
          | cons c r =>
            have ea : atI (figS z).cps.toList 0 = some c := by rw [figS_list, ef]; exact atI_0
            refine ⟨figS z, 0, c, rfl, rfl, by rw [sizeLine_eq]; omega, ea, rfl, ?_⟩
            have hd : (figs z).head? = some 48 ↔ (V.str ⟨#[c]⟩ = V.str ("0" : Str)) := by
              rw [ef, List.head?_cons]
              constructor
              · intro h; injection h with h; rw [h]; rfl
              · intro h
                injection h with h
                have : #[c] = ("0" : Str).cps := congrArg Str.cps h
                have := congrArg Array.toList this
                have e2 : ("0" : Str).cps.toList = [48] := by decide
                rw [e2] at this
                injection this with h1 _
                rw [h1]
            have ok0 : ¬ ((figs z).head? = some 48 ∧ 1 < z.length) → OkT z most := fun n => ⟨by rw [ef]; simp, by omega, dg, n⟩
            have fin : OkT z most → ∃ x, intText? z = some x ∧ z.length ≤ 640 ∧ Q (.int x) H2 := fun o => by
              obtain ⟨n, h1, h2⟩ := o.num m1
              exact ⟨n, h1, h2, q o n H2 h1 S⟩
            refine ite2 (fun h0 => ite2 (fun nz => badR _ S fun o => o.zr ⟨hd.mpr h0, ?_⟩) fun nz => fin (ok0 fun n => ?_)) fun h0 => fin (ok0 fun n => h0 (hd.mp n.1))
            · by_cases l : 1 < z.length
              · exact l
              · exact absurd ((zero_eq (hd.mpr h0)).mpr l) nz
            · exact ((zero_eq n.1).mp (Decidable.of_not_not nz)) n.2
    have hst := starts_eq z
    simp! [tSl, tPart, tNoPart, tBM]
    refine ⟨rfl, ?_⟩
    rw [hst]
    refine ite2 (fun c => ⟨z, rfl, lz', ?_⟩) fun c => ?_
    · have m : Mn z := of_decide_eq_true c
      have e : figS z = PySem.Txt.slice z (some 1) none := if_pos m
      rw [← e]
      exact FIN
    · have m : ¬ Mn z := fun m => c (decide_eq_true m)
      have e : figS z = z := if_neg m
      rw [e] at FIN
      exact FIN

end
section
variable {P : Program} {w : World} {K : PySem.W.Frag} {mg : Str → Option Value} {base : Heap} {a : Ad}
theorem BagAt.nInts {H : Hp} {b c l : Addr} {cs ns : List Int} (B : BagAt H b c cs) (h : H l = some (.lst (ns.map V.int))) : l ≠ b := fun e => by
  obtain ⟨⟨i, v, st, n, hb, _⟩, _⟩ := B
  rw [e, hb] at h
  cases ns with
  | nil => cases h
  | cons x r => cases h
theorem Kp.new {b l : Addr} {H H2 : Hp} {u : HO} (k : Kp b H H2) (h : H l = none) : Kp b H (upd H2 l u) := fun q o e n => by
  rw [upd_ne (fun z => by rw [z, h] at e; cases e)]
  exact k q o e n
theorem BagAt.apart {H : Hp} {b c l : Addr} {cs : List Int} (B : BagAt H b c cs) (h : H l = none) : l ≠ b ∧ l ≠ c := by
  obtain ⟨⟨i, v, st, n, e, k⟩, h3, _⟩ := B
  refine ⟨fun z => ?_, fun z => ?_⟩
  · rw [← z, h] at e; cases e
  · rw [← z, h] at h3; cases h3
theorem none_kp {b l : Addr} {H H1 : Hp} (k : Kp b H H1) (n : H1 l = none) (lb : l ≠ b) : H l = none := by
  cases e : H l with
  | none => rfl
  | some o =>
    have := k l o e lb
    rw [n] at this
    cases this

def sp_sign : Sp := fun vs H Q _ => ∃ (b c : Addr) (cs : List Int), vs = [.ref b] ∧ BagAt H b c cs ∧ ∀ (x : Nat) (H' : Hp), x < 128 → BagAt H' b c cs → Kp b H H' → Q (.str ⟨#[x]⟩) H'
set_option maxHeartbeats 2000000 in
theorem ok_law_any_sign (T : Txt K mg a) : FnOk P w K mg base (CX1 P w) 2 a.f_law_any_sign a.d_law_any_sign ["bag"] sp_sign := by
  refine T.F_law_any_sign.okC sc_law_any_sign (fun vs H Q E h => ?_) (fun cdv A outer s H vs Q E hr h => ?_)
  · obtain ⟨b, c, cs, rfl, _⟩ := h
    rfl
  · obtain ⟨b, c, cs, rfl, B, q⟩ := h
    have hu := hu_of hr
    refine ⟨_, (pss_cons (ps_set (i := 1) sc_law_any_sign.nd (by rfl) (Or.inl rfl) pe_str)
      (pss_cons (ps_set (i := 1) sc_law_any_sign.nd (by rfl) (Or.inl rfl) (pe_op op_add_str (pv 1) pe_str))
      (pss_cons (ps_if (pt_cmpR op_eq (pe_call (ok_law_draw T) (hr.mono (by decide)) (by rfl) T.m_law_draw T.F_law_draw.kp T.b_law_draw .nil pass1 (pa_cons (pv 0) (pa_cons pe_int pa_nil))) pe_int (nomark _)) (pss_one (ps_ret (pe_ix ix_str (pv 1) (pe_call (ok_law_draw T) (hr.mono (by decide)) (by rfl) T.m_law_draw T.F_law_draw.kp T.b_law_draw .nil pass1 (pa_cons (pv 0) (pa_cons pe_int pa_nil))) (fun _ _ => rfl)))) pss_nil)
      (pss_one (ps_ret (pe_ix ix_str (pv 1) (pe_call (ok_law_draw T) (hr.mono (by decide)) (by rfl) T.m_law_draw T.F_law_draw.kp T.b_law_draw .nil pass1 (pa_cons (pv 0) (pa_cons pe_int pa_nil))) (fun _ _ => rfl))))))), ?_⟩
    have al : ∀ x : Nat, x < 95 → ∃ c, atI (Str.ofString "0123456789- \nabcdefghijklmnopqrstuvwxyzABCDEFGHIJKLMNOPQRSTUVWXYZ" ++ Str.ofString "!\"#$&'()*+,./:;<=>?\x40[\\]^_`{|}~").cps.toList ((x : Nat) : Int) = some c ∧ c < 128 := by
      have d1 : (Str.ofString "0123456789- \nabcdefghijklmnopqrstuvwxyzABCDEFGHIJKLMNOPQRSTUVWXYZ" ++ Str.ofString "!\"#$&'()*+,./:;<=>?\x40[\\]^_`{|}~").cps.toList.all (· < 128) = true := by decide +kernel
      have d2 : 95 ≤ (Str.ofString "0123456789- \nabcdefghijklmnopqrstuvwxyzABCDEFGHIJKLMNOPQRSTUVWXYZ" ++ Str.ofString "!\"#$&'()*+,./:;<=>?\x40[\\]^_`{|}~").cps.toList.length := by decide +kernel
      intro x hx
      have xl := Nat.lt_of_lt_of_le hx d2
      exact ⟨_, atI_nat (List.getElem?_eq_getElem xl), by simpa using List.all_eq_true.mp d1 _ (List.getElem_mem xl)⟩
    have ll : (Str.ofString "0123456789- \nabcdefghijklmnopqrstuvwxyzABCDEFGHIJKLMNOPQRSTUVWXYZ" ++ Str.ofString "!\"#$&'()*+,./:;<=>?\x40[\\]^_`{|}~").length ≤ sizeLine := by decide +kernel
    simp! []
    refine ⟨by decide +kernel, b, c, cs, _, rfl, B, by decide, by decide, fun x H1 x0 x1 B1 k1 => ⟨rfl, ite2 (fun _ => ?_) fun _ => ?_⟩⟩
    · refine ⟨b, c, cs, _, rfl, B1, by decide, by decide, fun y H2 y0 y1 B2 k2 => ?_⟩
      obtain ⟨n, rfl⟩ := Int.eq_ofNat_of_zero_le y0
      obtain ⟨ch, e, lt⟩ := al n (by omega)
      exact ⟨_, _, ch, rfl, rfl, ll, e, q ch H2 lt B2 (k1.trans k2)⟩
    · refine ⟨b, c, cs, _, rfl, B1, by decide, by decide, fun y H2 y0 y1 B2 k2 => ?_⟩
      obtain ⟨n, rfl⟩ := Int.eq_ofNat_of_zero_le y0
      obtain ⟨ch, e, lt⟩ := al n (by omega)
      exact ⟨_, _, ch, rfl, rfl, ll, e, q ch H2 lt B2 (k1.trans k2)⟩
def sp_run : Sp := fun vs H Q _ => ∃ (b c : Addr) (cs : List Int), vs = [.ref b] ∧ BagAt H b c cs ∧ ∀ (z : Str) (H' : Hp), Asc z → z.length ≤ 12 → BagAt H' b c cs → Kp b H H' → Q (.str z) H'
theorem mul_list (z : Str) (n : Int) : (PySem.Txt.mul z n).cps.toList = (List.replicate n.toNat z.cps.toList).flatten := by
  have key : ∀ (k : Nat) (acc : Array Nat), ((List.replicate k z.cps).foldl (fun x1 x2 => x1 ++ x2) acc).toList = acc.toList ++ (List.replicate k z.cps.toList).flatten := by
    intro k
    induction k with
    | zero => intro acc; simp
    | succ k ih =>
      intro acc
      rw [List.replicate_succ, List.foldl_cons, ih, List.replicate_succ, List.flatten_cons, Array.toList_append, List.append_assoc]
  unfold PySem.Txt.mul
  split
  · rename_i c
    rw [show n.toNat = 0 by omega]
    rfl
  · split
    · rename_i c d
      rw [Bool.or_eq_true] at d
      rcases d with d | d
      · have : n = 1 := by simpa using d
        subst this
        show _ = (List.replicate 1 _).flatten
        simp
      · have e : z.cps.toList = [] := by
          have : z.length = 0 := by simpa using d
          rw [len_def, ← Array.length_toList] at this
          exact List.length_eq_zero_iff.mp this
        rw [e]
        induction n.toNat with
        | zero => rfl
        | succ k ih => rw [List.replicate_succ, List.flatten_cons, ← ih]; rfl
    · rw [key]
      rfl
theorem mul_len (z : Str) (n : Int) : (PySem.Txt.mul z n).length = z.length * n.toNat := by
  rw [len_def, ← Array.length_toList, mul_list, List.length_flatten, List.map_replicate, List.sum_replicate_nat, Array.length_toList, Nat.mul_comm]
  rfl
theorem mul_asc {z : Str} {n : Int} (h : Asc z) : Asc (PySem.Txt.mul z n) := asc_mem.mpr fun c hc => by
  rw [mul_list] at hc
  obtain ⟨l, hl, hc⟩ := List.mem_flatten.mp hc
  rw [List.eq_of_mem_replicate hl] at hc
  exact asc_mem.mp h c hc
theorem join_list (zs : List Str) : (PySem.Txt.join ("" : Str) zs).cps.toList = zs.flatMap fun z => z.cps.toList := by
  have key : ∀ (r : List Str) (acc : Array Nat), (r.foldl (fun acc p => acc ++ (Str.ofString "").cps ++ p.cps) acc).toList = acc.toList ++ r.flatMap fun z => z.cps.toList := by
    intro r
    induction r with
    | nil => intro acc; simp
    | cons c r ih =>
      intro acc
      rw [List.foldl_cons, ih, show (Str.ofString "").cps = #[] by decide]
      simp
  cases zs with
  | nil => rfl
  | cons c r =>
    show (r.foldl (fun acc p => acc ++ (Str.ofString "").cps ++ p.cps) c.cps).toList = _
    rw [key]
    simp
theorem join_len (zs : List Str) {m : Nat} (h : ∀ z ∈ zs, z.length ≤ m) : (PySem.Txt.join ("" : Str) zs).length ≤ zs.length * m := by
  rw [len_def, ← Array.length_toList, join_list]
  induction zs with
  | nil => simp
  | cons z r ih =>
    rw [List.flatMap_cons, List.length_append, List.length_cons, Nat.succ_mul]
    have := ih fun x hx => h x (List.mem_cons_of_mem _ hx)
    have := h z List.mem_cons_self
    rw [len_def, ← Array.length_toList] at this
    omega
theorem join_asc {zs : List Str} (h : ∀ z ∈ zs, Asc z) : Asc (PySem.Txt.join ("" : Str) zs) := asc_mem.mpr fun c hc => by
  rw [join_list] at hc
  obtain ⟨z, hz, hc⟩ := List.mem_flatMap.mp hc
  exact asc_mem.mp (h z hz) c hc
theorem one_asc {x : Nat} (h : x < 128) : Asc ⟨#[x]⟩ := asc_mem.mpr fun c hc => by
  have : c ∈ [x] := hc
  rw [List.mem_singleton.mp this]; exact h
theorem sums_le {zs : List Str} {m : Nat} (h : ∀ z ∈ zs, z.length ≤ m) : (zs.map (·.length)).sum ≤ zs.length * m := by
  induction zs with
  | nil => simp
  | cons z r ih =>
    rw [List.map_cons, List.sum_cons, List.length_cons, Nat.succ_mul]
    have := ih fun x hx => h x (List.mem_cons_of_mem _ hx)
    have := h z List.mem_cons_self
    omega
set_option maxHeartbeats 2000000 in
theorem ok_law_run (T : Txt K mg a) : FnOk P w K mg base (CX1 P w) 3 a.f_law_run a.d_law_run ["bag"] sp_run := by
  refine T.F_law_run.okC sc_law_run (fun vs H Q E h => ?_) (fun cdv A outer s H vs Q E hr h => ?_)
  · obtain ⟨b, c, cs, rfl, _⟩ := h
    rfl
  · obtain ⟨b, c, cs, rfl, B, q⟩ := h
    have hu := hu_of hr
    refine ⟨_, (pss_cons (ps_set (i := 1) sc_law_run.nd (by rfl) (Or.inl rfl) (pe_call (ok_law_draw T) (hr.mono (by decide)) (by rfl) T.m_law_draw T.F_law_draw.kp T.b_law_draw .nil pass1 (pa_cons (pv 0) (pa_cons pe_int pa_nil))))
      (pss_cons (ps_set (i := 2) sc_law_run.nd (by rfl) (Or.inl rfl) (pe_call (ok_law_draw T) (hr.mono (by decide)) (by rfl) T.m_law_draw T.F_law_draw.kp T.b_law_draw .nil pass1 (pa_cons (pv 0) (pa_cons pe_int pa_nil))))
      (pss_cons (ps_if (pt_cmpR op_eq (pv 1) pe_int (nomark _)) (pss_one (ps_ret (pe_op op_mulS pe_str (pv 2)))) pss_nil)
      (pss_cons (ps_if (pt_cmpR op_eq (pv 1) pe_int (nomark _)) (pss_one (ps_ret (pe_op op_mulS (pe_call (ok_law_any_sign T) (hr.mono (by decide)) (by rfl) T.m_law_any_sign T.F_law_any_sign.kp T.b_law_any_sign .nil pass1 (pa_cons (pv 0) pa_nil)) (pv 2)))) pss_nil)
      (pss_one (ps_ret (pe_bm PySem.F.plainAttrs_str PySem.F.slot_str_join PySem.F.type_str_join mt_join pe_str (pa_cons (pe_comp (N' := ["k", "bag"]) (cap := [none, some 0]) ⟨rfl, (by decide +kernel), (by decide +kernel), (by rfl), rfl, (by rfl)⟩ (by rfl) (pi_range1 (by rfl) T.z_range (pa_cons (pv 2) pa_nil)) (fun C_ ex_ s_ H_ => (pg_name (i := 0) (show (["k", "bag"] : List Str).Nodup by decide +kernel) (by rfl) (Or.inl rfl))) gkp_name (fun C_ ex_ s_ H_ => pifs_nil) (fun C_ ex_ s_ H_ => (pe_call (ok_law_any_sign T) (by exact hr.mono (by decide)) (by rfl) T.m_law_any_sign T.F_law_any_sign.kp T.b_law_any_sign .nil pass1 (pa_cons (pv 1) pa_nil)))) pa_nil)))))))), ?_⟩
    simp! []
    refine ⟨b, c, cs, _, rfl, B, by decide, by decide, fun way H1 w0 w1 B1 k1 => ?_⟩
    simp! []
    refine ⟨b, c, cs, _, rfl, B1, by decide, by decide, fun many H2 m0 m1 B2 k2 => ?_⟩
    have k12 := k1.trans k2
    simp! []
    refine ite2 (fun _ => ?_) fun _ => ite2 (fun _ => ?_) fun _ => ?_
    · refine ⟨_, _, rfl, rfl, by omega, by omega, ?_, q _ H2 (mul_asc (by decide +kernel)) ?_ B2 k12⟩
      · rw [show (Str.ofString " ").length = 1 by decide, sizeLine_eq]; omega
      · rw [mul_len, show (Str.ofString " ").length = 1 by decide]; omega
    · refine ⟨b, c, cs, rfl, B2, fun x H3 xl B3 k3 => ?_⟩
      have l1 : (⟨#[x]⟩ : Str).length = 1 := rfl
      refine ⟨_, _, rfl, rfl, by omega, by omega, ?_, q _ H3 (mul_asc (one_asc xl)) ?_ B3 (k12.trans k3)⟩
      · rw [l1, sizeLine_eq]; omega
      · rw [mul_len, l1]; omega
    · simp! [tBM]
      refine ⟨rfl, ?_⟩
      refine comp1 many (fun Q2 h2 => by simp! []; exact h2) (by omega) (by omega) (fun D i ys H3 => ∃ l : List Nat, ys = (l.map fun x => V.str ⟨#[x]⟩) ∧ (∀ x ∈ l, x < 128) ∧ l.length = i ∧ H3 D = some (.lst ys) ∧ BagAt H3 b c cs ∧ Kp b H H3) (fun D hD => ⟨[], rfl, fun _ h => absurd h List.not_mem_nil, rfl, upd_same, B2.laid hD, k12.laid hD⟩) ?_ (by rw [sizeLine_eq]; omega) ?_ ?_
      · rintro D hD i ys H3 hi ⟨l, rfl, _, ll, h3, _⟩
        exact ⟨h3, by rw [List.length_map]; omega⟩
      · rintro D hD i ys H3 hi ⟨l, rfl, al, ll, h3, B3, k3⟩
        obtain ⟨Db, Dc⟩ := B2.apart hD
        simp! [tTrue, capSt]
        refine ⟨b, c, cs, rfl, B3, fun x H4 xl B4 k4 => ⟨k4 _ _ h3 Db, l ++ [x], by rw [List.map_append]; rfl, fun y hy => ?_, by simp [ll], B4.other Db Dc, (k3.trans k4).new (none_kp k12 hD Db)⟩⟩
        rcases List.mem_append.mp hy with hy | hy
        · exact al y hy
        · rw [List.mem_singleton.mp hy]; exact xl
      · rintro D hD ys H3 ⟨l, rfl, al, ll, h3, B3, k3⟩
        have hz : ∀ z ∈ l.map (fun x => (⟨#[x]⟩ : Str)), z.length ≤ 1 := fun z hz => by
          obtain ⟨x, _, rfl⟩ := List.mem_map.mp hz
          exact Nat.le_refl _
        have sl := sums_le hz
        have jl := join_len _ hz
        rw [List.length_map] at sl jl
        refine ⟨_, D, l.map (fun x => (⟨#[x]⟩ : Str)), rfl, rfl, by rw [h3, List.map_map]; rfl, ?_, q _ H3 (join_asc fun z hz => ?_) (by omega) B3 k3⟩
        · rw [show (Str.ofString "").length = 0 by decide]; omega
        · obtain ⟨x, hx, rfl⟩ := List.mem_map.mp hz
          exact one_asc (al x hx)

end
section
variable {P : Program} {w : World} {K : PySem.W.Frag} {mg : Str → Option Value} {base : Heap} {a : Ad}

theorem ms_at {ms : List Int} {x : Int} (x0 : 0 ≤ x) (x1 : x < ms.length) : ∃ y, atI (ms.map V.int) x = some (.int y) ∧ y ∈ ms := by
  have hx : x.toNat < ms.length := by omega
  have := atI_nat (xs := ms.map V.int) (j := x.toNat) (show (ms.map V.int)[x.toNat]? = some (.int ms[x.toNat]) by rw [List.getElem?_map, List.getElem?_eq_getElem hx]; rfl)
  rw [show ((x.toNat : Nat) : Int) = x by omega] at this
  exact ⟨_, this, List.getElem_mem hx⟩
def sp_bent : Sp := fun vs H Q _ => ∃ (b c pk : Addr) (cs : List Int) (z : Str) (a0 a1 a2 : Int), vs = [.str z, .ref pk, .ref b] ∧ BagAt H b c cs ∧ H pk = some (.lst [.int a0, .int a1, .int a2]) ∧ 0 ≤ a0 ∧ 0 ≤ a1 ∧ 0 ≤ a2 ∧ Asc z ∧ z.length ≤ 900 ∧ ∀ (y : Str) (H' : Hp), Asc y → y.length ≤ 2 * z.length + 13 → BagAt H' b c cs → Kp b H H' → Q (.str y) H'
theorem app_len {x y : Str} : (x ++ y).length = x.length + y.length := app_size
set_option maxHeartbeats 4000000 in
theorem ok_law_bent_text (T : Txt K mg a) : FnOk P w K mg base (CX1 P w) 4 a.f_law_bent_text a.d_law_bent_text ["text", "pick", "bag"] sp_bent := by
  refine T.F_law_bent_text.okC sc_law_bent_text (fun vs H Q E h => ?_) (fun cdv A outer s H vs Q E hr h => ?_)
  · obtain ⟨b, c, pk, cs, z, a0, a1, a2, rfl, _⟩ := h
    rfl
  · obtain ⟨b, c, pk, cs, z, a0, a1, a2, rfl, B, hk, p0, p1, p2, az, lz, q⟩ := h
    have hu := hu_of hr
    have lz' : z.length ≤ sizeLine := by rw [sizeLine_eq]; omega
    have lenS : ∀ {y : Str} {H2 : Hp}, y.length ≤ sizeLine → lenF (.str y) H2 = some y.length := fun h => if_pos h
    have sl : ∀ lo hi, (PySem.Txt.slice z lo hi).length ≤ z.length := fun lo hi => PySem.Txt.slice_le z lo hi
    have kb : pk ≠ b := B.nInts (ns := [a0, a1, a2]) hk
    refine ⟨_, (pss_cons (ps_set (i := 3) sc_law_bent_text.nd (by rfl) (Or.inl rfl) (pe_op op_mod (pe_ix ix_F (pv 1) pe_int (fun _ _ => rfl)) (pe_op op_add (pe_callB call_lenF (by rfl) T.z_len (by decide +kernel) (pa_cons (pv 0) pa_nil)) pe_int)))
      (pss_cons (ps_if (pt_cmpR op_eq (pe_ix ix_F (pv 1) pe_int (fun _ _ => rfl)) pe_int (nomark _)) (pss_one (ps_ret (pe_op op_add_str (pe_op op_add_str (pe_slice sl_str (pv 0) po_none (po_some (pv 3))) (pe_call (ok_law_any_sign T) (hr.mono (by decide)) (by rfl) T.m_law_any_sign T.F_law_any_sign.kp T.b_law_any_sign .nil pass1 (pa_cons (pv 2) pa_nil))) (pe_slice sl_str (pv 0) (po_some (pv 3)) po_none)))) pss_nil)
      (pss_cons (ps_if (pt_cmpR op_eq (pe_ix ix_F (pv 1) pe_int (fun _ _ => rfl)) pe_int (nomark _)) (pss_one (ps_ret (pe_op op_add_str (pe_slice sl_str (pv 0) po_none (po_some (pv 3))) (pe_slice sl_str (pv 0) (po_some (pe_op op_add (pv 3) pe_int)) po_none)))) pss_nil)
      (pss_cons (ps_if (pt_cmpR op_eq (pe_ix ix_F (pv 1) pe_int (fun _ _ => rfl)) pe_int (nomark _)) (pss_one (ps_ret (pe_op op_add_str (pe_op op_add_str (pe_slice sl_str (pv 0) po_none (po_some (pv 3))) (pe_call (ok_law_any_sign T) (hr.mono (by decide)) (by rfl) T.m_law_any_sign T.F_law_any_sign.kp T.b_law_any_sign .nil pass1 (pa_cons (pv 2) pa_nil))) (pe_slice sl_str (pv 0) (po_some (pe_op op_add (pv 3) pe_int)) po_none)))) pss_nil)
      (pss_cons (ps_if (pt_cmpR op_eq (pe_ix ix_F (pv 1) pe_int (fun _ _ => rfl)) pe_int (nomark _)) (pss_cons (ps_set (i := 4) sc_law_bent_text.nd (by rfl) (Or.inl rfl) (pe_op op_cat (pe_lst (pa_cons pe_int pa_nil)) (pe_comp (N' := ["k", "text"]) (cap := [none, some 0]) ⟨rfl, (by decide +kernel), (by decide +kernel), (by rfl), rfl, (by rfl)⟩ (by rfl) (pi_range1 (by rfl) T.z_range (pa_cons (pe_callB call_lenF (by rfl) T.z_len (by decide +kernel) (pa_cons (pv 0) pa_nil)) pa_nil)) (fun C_ ex_ s_ H_ => (pg_name (i := 0) (show (["k", "text"] : List Str).Nodup by decide +kernel) (by rfl) (Or.inl rfl))) gkp_name (fun C_ ex_ s_ H_ => (pifs_one (pt_cmpR op_eq (pe_ix ix_str (pv 1) (pv 0) (fun _ _ => rfl)) pe_str (nomark _)))) (fun C_ ex_ s_ H_ => (pe_op op_add (pv 0) pe_int)))))
      (pss_one (ps_set (i := 3) sc_law_bent_text.nd (by rfl) (Or.inl rfl) (pe_ix ix_F (pv 4) (pe_op op_mod (pe_ix ix_F (pv 1) pe_int (fun _ _ => rfl)) (pe_callB call_lenF (by rfl) T.z_len (by decide +kernel) (pa_cons (pv 4) pa_nil))) (fun _ _ => rfl))))) pss_nil)
      (pss_cons (ps_set (i := 5) sc_law_bent_text.nd (by rfl) (Or.inl rfl) (pe_ix ix_F (pe_lst (pa_cons pe_int (pa_cons pe_int (pa_cons (pe_op op_mod (pe_op op_fdivB (pe_ix ix_F (pv 1) pe_int (fun _ _ => rfl)) pe_int) pe_int) pa_nil)))) (pe_op op_mod (pe_ix ix_F (pv 1) pe_int (fun _ _ => rfl)) pe_int) (fun _ _ => rfl)))
      (pss_one (ps_ret (pe_op op_add_str (pe_op op_add_str (pe_slice sl_str (pv 0) po_none (po_some (pv 3))) (pe_call (ok_law_run T) (hr.mono (by decide)) (by rfl) T.m_law_run T.F_law_run.kp T.b_law_run .nil pass1 (pa_cons (pv 2) pa_nil))) (pe_slice sl_str (pv 0) (po_some (pe_op op_add (pv 3) (pv 5))) po_none)))))))))), ?_⟩
    generalize hG : tSeq (tAsg _ (gName 5)) _ = tail
    have FIN : ∀ (at_ : Int) (v4 : Option V) (H2 : Hp), BagAt H2 b c cs → Kp b H H2 → tail { nx := fun _ H' => Q .non H', rt := Q } [some (.str z), some (.ref pk), some (.ref b), some (.int at_), v4, none] H2 := by
      intro at_ v4 H2 B2 k2
      subst hG
      have hk2 := k2 _ _ hk kb
      simp! [hk2, tSl, tPart, tNoPart]
      refine ⟨⟨by decide, by decide⟩, by decide, fun p np => ?_⟩
      have hk3 := upd_old (u := .lst [V.int 0, V.int 0, V.int (a2 / 3 % 13)]) hk2 np
      have B3 := B2.laid (u := .lst [V.int 0, V.int 0, V.int (a2 / 3 % 13)]) np
      have k3 := k2.laid (u := .lst [V.int 0, V.int 0, V.int (a2 / 3 % 13)]) np
      revert hk3 B3 k3
      generalize upd H2 p (.lst [V.int 0, V.int 0, V.int (a2 / 3 % 13)]) = H3
      intro hk3 B3 k3
      obtain ⟨g, eg⟩ : ∃ g : Int, atI [V.int 0, V.int 0, V.int (a2 / 3 % 13)] (a2 % 3) = some (.int g) := by
        have : a2 % 3 = 0 ∨ a2 % 3 = 1 ∨ a2 % 3 = 2 := by omega
        rcases this with e | e | e <;> rw [e] <;> exact ⟨_, rfl⟩
      refine ⟨_, by rw [hk3]; rfl, _, atI_2, _, rfl, by decide, _, eg, z, rfl, lz', ?_⟩
      refine ⟨b, c, cs, rfl, B3, fun y H4 ay ly B4 k4 => ⟨_, rfl, _, rfl, ?_, g, rfl, z, rfl, lz', _, rfl, ?_, ?_⟩⟩
      · have := sl none (some at_); omega
      · rw [app_len]
        have := sl none (some at_)
        have := sl (some (at_ + g)) none
        omega
      · refine q _ H4 (asc_app (asc_app (asc_slice az) ay) (asc_slice az)) ?_ B4 (k3.trans k4)
        rw [app_len, app_len]
        have := sl none (some at_)
        have := sl (some (at_ + g)) none
        omega
    have two : ∀ (lo hi : Option Int) (y : Str), y.length ≤ 12 → Asc y → ∀ H2, BagAt H2 b c cs → Kp b H H2 → ∀ i, i = PySem.Txt.slice z none lo → (PySem.Txt.slice z none lo).length + y.length ≤ 16777216 ∧ (PySem.Txt.slice z none lo ++ y).length + (PySem.Txt.slice z hi none).length ≤ 16777216 ∧ Q (.str (PySem.Txt.slice z none lo ++ y ++ PySem.Txt.slice z hi none)) H2 := fun lo hi y ly ay H2 B2 k2 i _ => by
      have := sl none lo
      have := sl hi none
      refine ⟨by omega, by rw [app_len]; omega, q _ H2 (asc_app (asc_app (asc_slice az) ay) (asc_slice az)) (by rw [app_len, app_len]; omega) B2 k2⟩
    simp! [hk, tSl, tPart, tNoPart]
    refine ⟨_, lenS lz', by omega, ite2 (fun _ => ?_) fun _ => ite2 (fun _ => ?_) fun _ => ite2 (fun _ => ?_) fun _ => ite2 (fun _ => ?_) fun _ => FIN _ _ H B .refl⟩
    · refine ⟨z, rfl, lz', b, c, cs, rfl, B, fun x H2 xl B2 k2 => ?_⟩
      obtain ⟨t1, t2, t3⟩ := two (some (a1 % ((z.length : Int) + 1))) (some (a1 % ((z.length : Int) + 1))) ⟨#[x]⟩ (show 1 ≤ 12 by decide) (one_asc xl) H2 B2 k2 _ rfl
      exact ⟨_, rfl, _, rfl, t1, z, rfl, lz', _, rfl, t2, t3⟩
    · refine ⟨z, rfl, lz', z, rfl, lz', _, rfl, _, rfl, ?_, q _ H (asc_app (asc_slice az) (asc_slice az)) ?_ B .refl⟩
      · have := sl none (some (a1 % ((z.length : Int) + 1)))
        have := sl (some (a1 % ((z.length : Int) + 1) + 1)) none
        omega
      · rw [app_len]
        have := sl none (some (a1 % ((z.length : Int) + 1)))
        have := sl (some (a1 % ((z.length : Int) + 1) + 1)) none
        omega
    · refine ⟨z, rfl, lz', b, c, cs, rfl, B, fun x H2 xl B2 k2 => ?_⟩
      obtain ⟨t1, t2, t3⟩ := two (some (a1 % ((z.length : Int) + 1))) (some (a1 % ((z.length : Int) + 1) + 1)) ⟨#[x]⟩ (show 1 ≤ 12 by decide) (one_asc xl) H2 B2 k2 _ rfl
      exact ⟨_, rfl, _, rfl, t1, z, rfl, lz', _, rfl, t2, t3⟩
    · intro p np
      have S1 : Same H (upd H p (.lst [V.int 0])) := .laid np
      have hp1 : upd H p (.lst [V.int 0]) p = some (.lst [V.int 0]) := upd_same
      revert S1 hp1
      generalize upd H p (.lst [V.int 0]) = H1
      intro S1 hp1
      refine comp1S (z.length : Int) (fun i => if z.cps.toList[i]? = some 10 then some (.int (0 + i + 1)) else none) (fun Q2 h2 => by simp! [lenS lz']; exact h2) (by omega) (by omega) (by rw [sizeLine_eq]; omega) ?_ ?_
      · intro i H2 R N hi S hR hN
        have il : i < z.cps.toList.length := by rw [Array.length_toList, ← len_def]; omega
        have ea : atI z.cps.toList (0 + (i : Int)) = some z.cps.toList[i] := by rw [Int.zero_add]; exact atI_nat (List.getElem?_eq_getElem il)
        simp! [capSt]
        refine ⟨z, _, _, rfl, rfl, lz', ea, rfl, ?_⟩
        have hh : (V.str ⟨#[z.cps.toList[i]]⟩ = V.str (Str.ofString "\n")) ↔ z.cps.toList[i]? = some 10 := by
          rw [List.getElem?_eq_getElem il]
          have e2 : (Str.ofString "\n").cps.toList = [10] := by decide
          constructor
          · intro h
            injection h with h
            have := congrArg Array.toList (congrArg Str.cps h)
            rw [e2] at this
            injection this with h1 _
            rw [h1]
          · intro h
            injection h with h
            rw [h]
            exact congrArg V.str (str_ext (by rw [e2]))
        refine ite2 (fun c => ?_) fun c => ?_
        · exact hR _ _ (if_pos (hh.mp c)) (Same.refl _)
        · exact hN (if_neg (fun h => c (hh.mpr h))) _ (Same.refl _)
      · intro D H2 hD S e
        have hp2 := S _ _ hp1
        obtain ⟨ns, en⟩ : ∃ ns : List Int, (List.range (z.length : Int).toNat).filterMap (fun i : Nat => if z.cps.toList[i]? = some 10 then some (V.int (0 + i + 1)) else none) = ns.map V.int := by
          induction List.range (z.length : Int).toNat with
          | nil => exact ⟨[], rfl⟩
          | cons i r ih =>
            obtain ⟨ns, e⟩ := ih
            by_cases c : z.cps.toList[i]? = some 10
            · exact ⟨(0 + (i : Int) + 1) :: ns, by rw [List.filterMap_cons]; simp only [if_pos c]; rw [e]; rfl⟩
            · exact ⟨ns, by rw [List.filterMap_cons]; simp only [if_neg c]; exact e⟩
        have ln : ns.length ≤ z.length := by
          have := congrArg List.length en
          rw [List.length_map] at this
          rw [← this]
          exact Nat.le_trans (List.length_filterMap_le _ _) (by rw [List.length_range]; omega)
        rw [en] at e
        simp! [rCat, hp2, e]
        refine ⟨by rw [List.length_map]; omega, fun p3 np3 => ?_⟩
        have S3 := ((S1.trans S).step np3 (u := .lst (V.int 0 :: ns.map V.int)))
        have h3 : upd H2 p3 (.lst (V.int 0 :: ns.map V.int)) p3 = some (.lst ((0 :: ns).map V.int)) := upd_same
        revert S3 h3
        generalize upd H2 p3 (.lst (V.int 0 :: ns.map V.int)) = H3
        intro S3 h3
        have hk3 := S3 _ _ hk
        have bd : 0 ≤ a1 % (((0 :: ns).length : Nat) : Int) ∧ a1 % (((0 :: ns).length : Nat) : Int) < (((0 :: ns).length : Nat) : Int) := ⟨Int.emod_nonneg _ (by simp <;> omega), Int.emod_lt_of_pos _ (by simp <;> omega)⟩
        obtain ⟨y, ey, _⟩ := ms_at bd.1 bd.2
        refine ⟨_, by rw [hk3]; rfl, _, atI_1, a1, rfl, by omega, _, by rw [List.length_map]; exact ey, ?_⟩
        exact FIN y _ H3 (B.keep S3) (fun q o h _ => S3 q o h)

end
section
variable {P : Program} {w : World} {K : PySem.W.Frag} {mg : Str → Option Value} {base : Heap} {a : Ad}

def sp_figs : Sp := fun vs H Q _ => ∃ (b c : Addr) (cs : List Int) (size first : Int), vs = [.ref b, .int size, .int first] ∧ BagAt H b c cs ∧ 0 ≤ size ∧ size ≤ 400 ∧ ∀ (y : Str) (H' : Hp), Asc y → (y.length : Int) ≤ size → BagAt H' b c cs → Kp b H H' → Q (.str y) H'
theorem int_asc (i : Int) : Asc (Str.ofString (toString i)) := asc_mem.mpr fun c hc => by
  by_cases h : c < 128
  · exact h
  · exact absurd hc (PyProof.Rows.int_text_free' c ⟨by omega, by omega⟩ i)
theorem slice_to_le (z : Str) {n : Int} (h : 0 ≤ n) : ((PySem.Txt.slice z none (some n)).length : Int) ≤ n := by
  by_cases c : n ≤ z.cps.toList.length
  · have := beq_iff_eq.mp (PyProof.Rows.slice_closes_to (x := z) (j := n) ⟨h, c⟩)
    rw [this, len_def]
    show (((List.take (n - 0).toNat (List.drop _ z.cps.toList)).toArray.size : Nat) : Int) ≤ n
    rw [List.size_toArray, List.length_take]
    omega
  · have := PySem.Txt.slice_le z none (some n)
    have e : z.length = z.cps.toList.length := by rw [len_def, ← Array.length_toList]
    omega
theorem log60 {i : Int} (h0 : 0 ≤ i) (h1 : i ≤ 10 ^ 61) : i.natAbs.log2 < 1920 := by
  by_cases e : i.natAbs = 0
  · rw [e]; decide
  · refine (Nat.log2_lt e).mpr (Nat.lt_of_le_of_lt (m := 10 ^ 61) ?_ (by decide))
    have e2 : ((10 ^ 61 : Nat) : Int) = 10 ^ 61 := by decide
    rw [← e2] at h1
    generalize (10 : Nat) ^ 61 = N at *
    omega
def numsP (H : Hp) (b c : Addr) (cs : List Int) (D : Addr) (i : Nat) (ys : List V) (H2 : Hp) : Prop := ∃ l : List Int, ys = (l.map fun x => V.str (Str.ofString (toString x))) ∧ (∀ x ∈ l, 0 ≤ x ∧ x ≤ 10 ^ 61) ∧ l.length = i ∧ H2 D = some (.lst ys) ∧ BagAt H2 b c cs ∧ Kp b H H2
theorem nums_step {H H2 H3 H4 : Hp} {b c D : Addr} {cs l : List Int} {i : Nat} {x : Int} (B2 : BagAt H2 b c cs) (k2 : Kp b H H2) (hD : H2 D = none) (al : ∀ x ∈ l, 0 ≤ x ∧ x ≤ 10 ^ 61) (ll : l.length = i) (h3 : H3 D = some (.lst (l.map fun x => V.str (Str.ofString (toString x))))) (k3 : Kp b H H3) (x0 : 0 ≤ x) (x1 : x ≤ 10 ^ 61) (B4 : BagAt H4 b c cs) (k4 : Kp b H3 H4) :
    H4 D = some (.lst (l.map fun x => V.str (Str.ofString (toString x)))) ∧ numsP H b c cs D (i + 1) ((l.map fun x => V.str (Str.ofString (toString x))) ++ [V.str (Str.ofString (toString x))]) (upd H4 D (.lst ((l.map fun x => V.str (Str.ofString (toString x))) ++ [V.str (Str.ofString (toString x))]))) := by
  obtain ⟨Db, Dc⟩ := B2.apart hD
  refine ⟨k4 _ _ h3 Db, l ++ [x], by rw [List.map_append]; rfl, fun y hy => ?_, by simp [ll], upd_same, B4.other Db Dc, (k3.trans k4).new (none_kp k2 hD Db)⟩
  rcases List.mem_append.mp hy with hy | hy
  · exact al y hy
  · rw [List.mem_singleton.mp hy]; exact ⟨x0, x1⟩
theorem nums_join {l : List Int} (al : ∀ x ∈ l, 0 ≤ x ∧ x ≤ 10 ^ 61) (ll : l.length ≤ 9) : Asc (PySem.Txt.join ("" : Str) (l.map fun x => Str.ofString (toString x))) ∧ (PySem.Txt.join ("" : Str) (l.map fun x => Str.ofString (toString x))).length ≤ 9 * 1921 ∧ ((l.map fun x => Str.ofString (toString x)).map (·.length)).sum + (l.map fun x => Str.ofString (toString x)).length * ("" : Str).length ≤ 16777216 := by
  have hz : ∀ z ∈ l.map (fun x => Str.ofString (toString x)), z.length ≤ 1921 := fun z hz => by
    obtain ⟨x, hx, rfl⟩ := List.mem_map.mp hz
    exact PyProof.Rows.int_text_len_1921 (log60 (al x hx).1 (al x hx).2)
  have sl := sums_le hz
  have jl := join_len _ hz
  rw [List.length_map] at sl jl
  refine ⟨join_asc fun z hz => ?_, by omega, ?_⟩
  · obtain ⟨x, hx, rfl⟩ := List.mem_map.mp hz
    exact int_asc x
  · rw [show ("" : Str).length = 0 by decide]; omega
set_option maxHeartbeats 4000000 in
theorem ok_law_figures (T : Txt K mg a) : FnOk P w K mg base (CX1 P w) 2 a.f_law_figures a.d_law_figures ["bag", "size", "first"] sp_figs := by
  refine T.F_law_figures.okC sc_law_figures (fun vs H Q E h => ?_) (fun cdv A outer s H vs Q E hr h => ?_)
  · obtain ⟨b, c, cs, size, first, rfl, _⟩ := h
    rfl
  · obtain ⟨b, c, cs, size, first, rfl, B, s0, s1, q⟩ := h
    have hu := hu_of hr
    refine ⟨_, (pss_cons (ps_if (pt_cmpR op_eq (pv 2) pe_int (nomark _)) (pss_cons (ps_set (i := 3) sc_law_figures.nd (by rfl) (Or.inl rfl) (pe_bm PySem.F.plainAttrs_str PySem.F.slot_str_join PySem.F.type_str_join mt_join pe_str (pa_cons (pe_comp (N' := ["k", "bag"]) (cap := [none, some 0]) ⟨rfl, (by decide +kernel), (by decide +kernel), (by rfl), rfl, (by rfl)⟩ (by rfl) (pi_range1 (by rfl) T.z_range (pa_cons pe_int pa_nil)) (fun C_ ex_ s_ H_ => (pg_name (i := 0) (show (["k", "bag"] : List Str).Nodup by decide +kernel) (by rfl) (Or.inl rfl))) gkp_name (fun C_ ex_ s_ H_ => pifs_nil) (fun C_ ex_ s_ H_ => (pe_callTy call_strI (by rfl) T.z_str (by decide +kernel) (pa_cons (pe_op op_add pe_int (pe_call (ok_law_draw T) (by exact hr.mono (by decide)) (by rfl) T.m_law_draw T.F_law_draw.kp T.b_law_draw .nil pass1 (pa_cons (pv 1) (pa_cons (pe_op op_sub (pe_op op_pow pe_int pe_int) pe_int) pa_nil)))) pa_nil)))) pa_nil)))
      (pss_one (ps_ret (pe_slice sl_str (pe_op op_mulS (pv 3) (pv 1)) po_none (po_some (pv 1)))))) pss_nil)
      (pss_cons (ps_set (i := 3) sc_law_figures.nd (by rfl) (Or.inl rfl) (pe_bm PySem.F.plainAttrs_str PySem.F.slot_str_join PySem.F.type_str_join mt_join pe_str (pa_cons (pe_comp (N' := ["k", "bag"]) (cap := [none, some 0]) ⟨rfl, (by decide +kernel), (by decide +kernel), (by rfl), rfl, (by rfl)⟩ (by rfl) (pi_range1 (by rfl) T.z_range (pa_cons (pe_op op_add pe_int (pe_call (ok_law_draw T) (hr.mono (by decide)) (by rfl) T.m_law_draw T.F_law_draw.kp T.b_law_draw .nil pass1 (pa_cons (pv 0) (pa_cons pe_int pa_nil)))) pa_nil)) (fun C_ ex_ s_ H_ => (pg_name (i := 0) (show (["k", "bag"] : List Str).Nodup by decide +kernel) (by rfl) (Or.inl rfl))) gkp_name (fun C_ ex_ s_ H_ => pifs_nil) (fun C_ ex_ s_ H_ => (pe_callTy call_strI (by rfl) T.z_str (by decide +kernel) (pa_cons (pe_call (ok_law_draw T) (by exact hr.mono (by decide)) (by rfl) T.m_law_draw T.F_law_draw.kp T.b_law_draw .nil pass1 (pa_cons (pv 1) (pa_cons pe_int pa_nil))) pa_nil)))) pa_nil)))
      (pss_cons (ps_if (pt_cmpR op_eq (pv 2) pe_int (nomark _)) (pss_one (ps_set (i := 3) sc_law_figures.nd (by rfl) (Or.inl rfl) (pe_op op_add_str pe_str (pv 3)))) (pss_one (ps_if (pt_cmpR op_eq (pv 2) pe_int (nomark _)) (pss_one (ps_set (i := 3) sc_law_figures.nd (by rfl) (Or.inl rfl) (pe_op op_add_str (pe_callTy call_strI (by rfl) T.z_str (by decide +kernel) (pa_cons (pe_op op_add pe_int (pe_call (ok_law_draw T) (hr.mono (by decide)) (by rfl) T.m_law_draw T.F_law_draw.kp T.b_law_draw .nil pass1 (pa_cons (pv 0) (pa_cons pe_int pa_nil)))) pa_nil)) (pv 3)))) pss_nil)))
      (pss_one (ps_ret (pe_slice sl_str (pe_op op_mulS (pv 3) (pv 1)) po_none (po_some (pv 1)))))))), ?_⟩
    have FIN : ∀ (base : Str) (H2 : Hp), Asc base → base.length ≤ 20000 → BagAt H2 b c cs → Kp b H H2 → tSl rSlS (tOp rMulS (tVar 3) (tVar 1)) tNoPart (tPart (tVar 1)) [some (.ref b), some (.int size), some (.int first), some (.str base)] H2 Q := by
      intro base H2 ab lb B2 k2
      simp! [tSl, tPart, tNoPart]
      have ml : base.length * size.toNat ≤ 20000 * 400 := Nat.mul_le_mul lb (by omega)
      refine ⟨base, size, rfl, rfl, by omega, by omega, by rw [sizeLine_eq]; omega, _, rfl, by rw [mul_len, sizeLine_eq]; omega, ?_⟩
      exact q _ H2 (asc_slice (mul_asc ab)) (slice_to_le _ s0) B2 k2
    have p60 : (10 : Int) ^ 60 + 10 ≤ 10 ^ 61 := by decide
    simp! []
    refine ite2 (fun _ => ?_) fun _ => ?_
    · simp! [tBM]
      refine ⟨rfl, ?_⟩
      refine comp1 5 (fun Q2 h2 => by simp! []; exact h2) (by decide) (by decide) (numsP H b c cs) (fun D hD => ⟨[], rfl, fun _ h => absurd h List.not_mem_nil, rfl, upd_same, B.laid hD, Kp.refl.laid hD⟩) ?_ (by rw [sizeLine_eq]; decide) ?_ ?_
      · rintro D hD i ys H3 hi ⟨l, rfl, _, ll, h3, _⟩
        exact ⟨h3, by rw [List.length_map]; omega⟩
      · rintro D hD i ys H3 hi ⟨l, rfl, al, ll, h3, B3, k3⟩
        simp! [tTrue, capSt]
        refine ⟨⟨by decide, by decide, by decide⟩, b, c, cs, _, rfl, B3, by decide, by decide, fun x H4 x0 x1 B4 k4 => ⟨x, rfl, ?_, ?_⟩⟩
        · exact log60 (by omega) (by have : x < 10 ^ 60 - 1 := x1; omega)
        · exact nums_step B .refl hD al ll h3 k3 (by omega) (by have : x < 10 ^ 60 - 1 := x1; omega) B4 k4
      · rintro D hD ys H3 ⟨l, rfl, al, ll, h3, B3, k3⟩
        obtain ⟨ja, jl, js⟩ := nums_join al (by omega)
        refine ⟨_, D, l.map (fun x => Str.ofString (toString x)), rfl, rfl, by rw [h3, List.map_map]; rfl, js, ?_⟩
        exact FIN _ H3 ja (by omega) B3 k3
    · simp! [tBM]
      refine ⟨rfl, ?_⟩
      refine comp1_ (Pre := fun n H1 => 1 ≤ n ∧ n ≤ 9 ∧ BagAt H1 b c cs ∧ Kp b H H1) (fun Q2 h2 => ?_) ?_
      · simp! []
        exact ⟨b, c, cs, _, rfl, B, by decide, by decide, fun x H1 x0 x1 B1 k1 => ⟨x, rfl, h2 _ _ ⟨by omega, by omega, B1, k1⟩⟩⟩
      rintro n H1 ⟨n0, n1, B1, k1⟩
      refine comp1 n (fun Q2 h2 => by simp! []; exact h2) (by omega) (by omega) (numsP H b c cs) (fun D hD => ⟨[], rfl, fun _ h => absurd h List.not_mem_nil, rfl, upd_same, B1.laid hD, k1.laid hD⟩) ?_ (by rw [sizeLine_eq]; omega) ?_ ?_
      · rintro D hD i ys H3 hi ⟨l, rfl, _, ll, h3, _⟩
        exact ⟨h3, by rw [List.length_map]; omega⟩
      · rintro D hD i ys H3 hi ⟨l, rfl, al, ll, h3, B3, k3⟩
        simp! [tTrue, capSt]
        refine ⟨b, c, cs, _, rfl, B3, by decide, by decide, fun x H4 x0 x1 B4 k4 => ⟨x, rfl, ?_, ?_⟩⟩
        · exact log60 (by omega) (by omega)
        · exact nums_step B1 k1 hD al ll h3 k3 (by omega) (by omega) B4 k4
      · rintro D hD ys H3 ⟨l, rfl, al, ll, h3, B3, k3⟩
        obtain ⟨ja, jl, js⟩ := nums_join al (by omega)
        refine ⟨_, D, l.map (fun x => Str.ofString (toString x)), rfl, rfl, by rw [h3, List.map_map]; rfl, js, ?_⟩
        have z1 : (Str.ofString "0").length = 1 := by decide
        refine ite2 (fun _ => ⟨_, rfl, by omega, FIN _ H3 (asc_app (by decide +kernel) ja) (by rw [app_len]; omega) B3 k3⟩) fun _ => ite2 (fun _ => ?_) fun _ => FIN _ H3 ja (by omega) B3 k3
        refine ⟨b, c, cs, _, rfl, B3, by decide, by decide, fun x H4 x0 x1 B4 k4 => ?_⟩
        have lx : (1 + x).natAbs.log2 < 1920 := log60 (by omega) (by omega)
        have ix := PyProof.Rows.int_text_len_1921 lx
        exact ⟨x, rfl, lx, _, rfl, by omega, FIN _ H4 (asc_app (int_asc _) ja) (by rw [app_len]; omega) B4 (k3.trans k4)⟩

end
section
variable {P : Program} {w : World} {K : PySem.W.Frag} {mg : Str → Option Value} {base : Heap} {a : Ad}

def sp_lread : Sp := fun vs H Q _ => ∃ (z : Str) (most : Int), vs = [.str z, .int most] ∧ Asc z ∧ z.length ≤ 2000 ∧ 0 ≤ most ∧ most ≤ 600 ∧
  (¬ OkT z most → ∀ r tl H', Same H H' → H' r = some (.tup [.non, .ref tl]) → H' tl = some (.lst [.bl true, .bl true, .bl false]) → Q (.ref r) H') ∧
  (OkT z most → ∀ n r tl H', intText? z = some n → Same H H' → H' r = some (.tup [.int n, .ref tl]) → H' tl = some (.lst []) → Q (.ref r) H')
set_option maxHeartbeats 4000000 in
theorem ok_law_read (T : Txt K mg a) : FnOk P w K mg base (CX1 P w) 2 a.f_law_read a.d_law_read ["text", "most"] sp_lread := by
  refine T.F_law_read.okC sc_law_read (fun vs H Q E h => ?_) (fun cdv A outer s H vs Q E hr h => ?_)
  · obtain ⟨z, most, rfl, _⟩ := h
    rfl
  · obtain ⟨z, most, rfl, az, lz, m0, m1, qn, q⟩ := h
    have hu := hu_of hr
    refine ⟨_, (pss_cons (ps_set (i := 2) sc_law_read.nd (by rfl) (Or.inl rfl) pe_non)
      (pss_cons (ps_set (i := 3) sc_law_read.nd (by rfl) (Or.inl rfl) (pe_lst pa_nil))
      (pss_cons (ps_tryAs (i := 4) T.xt (by rfl) T.m_HoldError (by rfl) (by rfl) sc_law_read.nd (by rfl) (by rfl) (fun pn_ W_ R_ hW_ => (pss_one (ps_set (i := 2) sc_law_read.nd (by rfl) (Or.inl rfl) (pe_callE (ok_read_whole T) (hr.mono (by decide)) (by rfl) T.m_read_whole T.F_read_whole.kp T.b_read_whole .nil hW_ (pa_cons (pv 0) (pa_cons (pv 1) pa_nil)))))) (fun e_ => (pss_cons (ps_set (i := 5) sc_law_read.nd (by rfl) (Or.inl rfl) (pe_lst (pa_cons (pe_callB (call_isX T.xt) (by rfl) T.z_isinstance (by decide +kernel) (pa_cons (pv 4) (pa_cons (pe_glob (v := .ref a.c_NoSpot) (by rfl) T.m_NoSpot (by rfl)) pa_nil))) (pa_cons (pe_callB (call_isX T.xt) (by rfl) T.z_isinstance (by decide +kernel) (pa_cons (pv 4) (pa_cons (pe_glob (v := .ref a.c_NoThing) (by rfl) T.m_NoThing (by rfl)) pa_nil))) (pa_cons (pe_callB (call_isX T.xt) (by rfl) T.z_isinstance (by decide +kernel) (pa_cons (pv 4) (pa_cons (pe_glob (v := .ref a.c_NotFormed) (by rfl) T.m_NotFormed (by rfl)) pa_nil))) pa_nil)))))
      (pss_cons (ps_set (i := 5) sc_law_read.nd (by rfl) (Or.inl rfl) (pe_op op_cat (pv 5) (pe_lst (pa_cons (pe_callB (call_isX T.xt) (by rfl) T.z_isinstance (by decide +kernel) (pa_cons (pv 4) (pa_cons (pe_glob (v := .ref a.c_NoTable) (by rfl) T.m_NoTable (by rfl)) pa_nil))) (pa_cons (pe_callB (call_isX T.xt) (by rfl) T.z_isinstance (by decide +kernel) (pa_cons (pv 4) (pa_cons (pe_glob (v := .ref a.c_Faulty) (by rfl) T.m_Faulty (by rfl)) pa_nil))) pa_nil)))))
      (pss_one (ps_set (i := 3) sc_law_read.nd (by rfl) (Or.inl rfl) (pe_lst (pa_cons (pe_callB (call_isX T.xt) (by rfl) T.z_isinstance (by decide +kernel) (pa_cons (pv 4) (pa_cons (pe_bltn (v := .ty "ValueError") (u := .type "ValueError") (by rfl) T.z_ValueError (by decide +kernel) (by rfl)) pa_nil))) (pa_cons (pe_callB (call_isX T.xt) (by rfl) T.z_isinstance (by decide +kernel) (pa_cons (pv 4) (pa_cons (pe_glob (v := .ref a.c_NoText) (by rfl) T.m_NoText (by rfl)) pa_nil))) (pa_cons (pe_cmpR (op_in_seqK (K := K) (by rfl)) pe_bl (pv 5) (by with_unfolding_all rfl)) pa_nil))))))))))
      (pss_one (ps_ret (pe_tup (pa_cons (pv 2) (pa_cons (pv 3) pa_nil)))))))), ?_⟩
    generalize hT : tSeq (tAsg _ (gName 5)) _ = th
    by_cases o : OkT z most
    · simp! []
      intro p np
      simp! [tCallE]
      refine ⟨z, most, rfl, az, lz, m0, m1, fun n => absurd o n, fun _ n H2 hn S2 r nr => ?_⟩
      exact q o n r p _ hn (((Same.laid np).trans S2).step nr) upd_same (upd_old (S2 _ _ upd_same) nr)
    · simp! []
      intro p np
      simp! [tCallE]
      refine ⟨z, most, rfl, az, lz, m0, m1, fun _ H2 S2 => ⟨a.c_NoText, by simp, rfl, fun ea he => ?_⟩, fun n => absurd n o⟩
      subst hT
      have hE : upd H2 ea (excO a.c_NoText ea) ea = some (excO a.c_NoText ea) := upd_same
      have SE : Same H (upd H2 ea (excO a.c_NoText ea)) := ((Same.laid np).trans S2).step he
      revert hE SE
      generalize upd H2 ea (excO a.c_NoText ea) = H3
      intro hE SE
      have nd := T.xt.nd
      have m1' : a.c_NoText ∈ [a.c_HoldError, a.c_NoSpot, a.c_NoThing, a.c_NoText, a.c_NotFormed, a.c_NoTable, a.c_Faulty] := by simp
      have f1 : decide (a.c_NoText = a.c_NoSpot ∨ a.c_NoSpot = a.c_HoldError) = false := decide_eq_false fun e => by rcases e with e | e <;> (rw [e] at nd; simp at nd)
      have f2 : decide (a.c_NoText = a.c_NoThing ∨ a.c_NoThing = a.c_HoldError) = false := decide_eq_false fun e => by rcases e with e | e <;> (rw [e] at nd; simp at nd)
      have f3 : decide (a.c_NoText = a.c_NotFormed ∨ a.c_NotFormed = a.c_HoldError) = false := decide_eq_false fun e => by rcases e with e | e <;> (rw [e] at nd; simp at nd)
      have f4 : decide (a.c_NoText = a.c_NoTable ∨ a.c_NoTable = a.c_HoldError) = false := decide_eq_false fun e => by rcases e with e | e <;> (rw [e] at nd; simp at nd)
      have f5 : decide (a.c_NoText = a.c_Faulty ∨ a.c_Faulty = a.c_HoldError) = false := decide_eq_false fun e => by rcases e with e | e <;> (rw [e] at nd; simp at nd)
      have f6 : decide (a.c_NoText = a.c_NoText ∨ a.c_NoText = a.c_HoldError) = true := decide_eq_true (.inl rfl)
      generalize hR : tSeq (tAsg (tOp rCat _ _) _) _ = t2
      have FIN2 : ∀ (D : Ends) (v2 v3 : Option V) (p1 : Addr) (H4 : Hp), H4 ea = some (excO a.c_NoText ea) → H4 p1 = some (.lst [.bl false, .bl false, .bl false]) → (∀ p4 H5, Same H4 H5 → H5 p4 = some (.lst [.bl true, .bl true, .bl false]) → ∀ v5, D.nx [some (.str z), some (.int most), v2, some (.ref p4), some (.ref ea), v5] H5) → t2 D [some (.str z), some (.int most), v2, v3, some (.ref ea), some (.ref p1)] H4 := by
        intro D v2 v3 p1 H4 hE4 h1 nx
        subst hR
        simp! []
        refine ⟨ea, _, hE4, m1', .inl ⟨rfl, by simp, ea, _, hE4, m1', .inl ⟨rfl, by simp, ?_⟩⟩⟩
        rw [f4, f5]
        intro p2 np2
        have h1' := upd_old (u := .lst [.bl false, .bl false]) h1 np2
        have h2' : upd H4 p2 (.lst [.bl false, .bl false]) p2 = some (.lst [.bl false, .bl false]) := upd_same
        have S2' : Same H4 (upd H4 p2 (.lst [.bl false, .bl false])) := .laid np2
        revert h1' h2' S2'
        generalize upd H4 p2 (.lst [.bl false, .bl false]) = H5
        intro h1' h2' S2'
        simp! [rCat, h1', h2']
        intro p3 np3
        have hE5 := upd_old (u := .lst [.bl false, .bl false, .bl false, .bl false, .bl false]) (S2' _ _ hE4) np3
        have h3 : upd H5 p3 (.lst [.bl false, .bl false, .bl false, .bl false, .bl false]) p3 = some (.lst [.bl false, .bl false, .bl false, .bl false, .bl false]) := upd_same
        have S3' := S2'.step np3 (u := .lst [.bl false, .bl false, .bl false, .bl false, .bl false])
        revert hE5 h3 S3'
        generalize upd H5 p3 (.lst [.bl false, .bl false, .bl false, .bl false, .bl false]) = H6
        intro hE5 h3 S3'
        refine ⟨ea, _, hE5, m1', rfl, ea, _, hE5, m1', .inl ⟨rfl, m1', ?_⟩⟩
        refine ⟨p3, _, rfl, .inl (.of h3), rfl, rfl, fun p4 np4 => ?_⟩
        rw [f6]
        exact nx p4 _ (S3'.step np4) upd_same _
      simp! [goneD]
      refine ⟨ea, _, hE, m1', .inl ⟨rfl, by simp, ea, _, hE, m1', .inl ⟨rfl, by simp, ea, _, hE, m1', .inl ⟨rfl, by simp, ?_⟩⟩⟩⟩
      rw [f1, f2, f3]
      intro p1 np1
      refine FIN2 _ _ _ p1 _ (upd_old hE np1) upd_same fun p4 H5 S5 h5 v5 => ?_
      exact ⟨_, rfl, _, rfl, fun r nr => qn o r p4 _ (((SE.step np1).trans S5).step nr) upd_same (upd_old h5 nr)⟩

end
section
variable {P : Program} {w : World} {K : PySem.W.Frag} {mg : Str → Option Value} {base : Heap} {a : Ad}

def sp_text : Sp := fun vs H Q _ => ∃ (b c wl : Addr) (cs : List Int) (most w0 w1 w2 w3 : Int), vs = [.ref b, .int most, .ref wl] ∧ BagAt H b c cs ∧ H wl = some (.lst [.int w0, .int w1, .int w2, .int w3]) ∧ 1 ≤ most ∧ most ≤ 300 ∧ 0 ≤ w0 ∧ 0 ≤ w1 ∧ w1 < 5 ∧ 0 ≤ w2 ∧ w2 < 2 ∧ 0 ≤ w3 ∧ w3 < 4 ∧ ∀ (y : Str) (H' : Hp), Asc y → y.length ≤ 310 → BagAt H' b c cs → Kp b H H' → Q (.str y) H'
set_option maxHeartbeats 4000000 in
theorem ok_law_text (T : Txt K mg a) : FnOk P w K mg base (CX1 P w) 3 a.f_law_text a.d_law_text ["bag", "most", "ways"] sp_text := by
  refine T.F_law_text.okC sc_law_text (fun vs H Q E h => ?_) (fun cdv A outer s H vs Q E hr h => ?_)
  · obtain ⟨b, c, wl, cs, most, w0, w1, w2, w3, rfl, _⟩ := h
    rfl
  · obtain ⟨b, c, wl, cs, most, w0, w1, w2, w3, rfl, B, hw, m0, m1, a0, b0, b1, c0, c1, d0, d1, q⟩ := h
    have hu := hu_of hr
    have wb : wl ≠ b := B.nInts (ns := [w0, w1, w2, w3]) hw
    refine ⟨_, (@pss_cons _ _ _ _ _ (@ps_if _ _ _ _ _ _ _ _ (pt_cmpR op_eq (pe_ix ix_F (pv 2) pe_int (fun _ _ => rfl)) pe_int (nomark _)) (@pss_cons _ _ _ _ _ (@ps_setL _ 3 _ _ _ _ _ _ sc_law_text.nd (by rfl) (Or.inl rfl) (@pa_cstr _ _ _ _ _ _ (@pa_cstr _ _ _ _ _ _ (@pa_cstr _ _ _ _ _ _ (@pa_cstr _ _ _ _ _ _ (@pa_cstr _ _ _ _ _ _ (@pa_cstr _ _ _ _ _ _ (@pa_cstr _ _ _ _ _ _ (@pa_cstr _ _ _ _ _ _ (@pa_cstr _ _ _ _ _ _ (@pa_cstr _ _ _ _ _ _ (@pa_cstr _ _ _ _ _ _ (@pa_cstr _ _ _ _ _ _ (@pa_cstr _ _ _ _ _ _ (@pa_cstr _ _ _ _ _ _ pa_nil)))))))))))))) (by first | exact .inl (by rfl) | exact .inr (by rfl) | assumption))
      (@pss_one _ _ _ (ps_ret (pe_ix ix_F (pv 3) (pe_call (ok_law_draw T) (hr.mono (by decide)) (by rfl) T.m_law_draw T.F_law_draw.kp T.b_law_draw .nil pass1 (@pa_cname _ _ _ _ _ _ (pv 0) (@pa_cint _ _ _ _ _ _ pa_nil))) (fun _ _ => rfl))))) pss_nil)
      (@pss_cons _ _ _ _ _ (ps_set (i := 4) sc_law_text.nd (by rfl) (Or.inl rfl) (pe_callB (call_max2 (by rfl)) (by rfl) T.z_max (by decide +kernel) (@pa_cint _ _ _ _ _ _ (pa_cons (pe_ix ix_F (pe_lst (@pa_cname _ _ _ _ _ _ (pv 1) (pa_cons (pe_op op_add (pv 1) pe_int) (pa_cons (pe_op op_add (pv 1) pe_int) (pa_cons (pe_op op_sub (pv 1) pe_int) (pa_cons (pe_op op_add pe_int (pe_call (ok_law_draw T) (hr.mono (by decide)) (by rfl) T.m_law_draw T.F_law_draw.kp T.b_law_draw .nil pass1 (@pa_cname _ _ _ _ _ _ (pv 0) (@pa_cint _ _ _ _ _ _ pa_nil)))) pa_nil)))))) (pe_ix ix_F (pv 2) pe_int (fun _ _ => rfl)) (fun _ _ => rfl)) pa_nil))))
      (@pss_one _ _ _ (ps_ret (pe_op op_add_str (pe_op op_mulS pe_str (pe_ix ix_F (pv 2) pe_int (fun _ _ => rfl))) (pe_call (ok_law_figures T) (hr.mono (by decide)) (by rfl) T.m_law_figures T.F_law_figures.kp T.b_law_figures .nil pass1 (@pa_cname _ _ _ _ _ _ (pv 0) (@pa_cname _ _ _ _ _ _ (pv 4) (pa_cons (pe_ix ix_F (pv 2) pe_int (fun _ _ => rfl)) pa_nil))))))))), ?_⟩
    simp! [hw]
    refine ite2 (fun _ => ?_) fun _ => ?_
    · intro p np
      obtain ⟨pb, _⟩ := B.apart np
      refine ⟨b, c, cs, _, rfl, B.laid np, by decide, by decide, fun x H2 x0 x1 B2 k2 => ?_⟩
      have hp2 := k2 _ _ upd_same pb
      obtain ⟨n, rfl⟩ := Int.eq_ofNat_of_zero_le x0
      have key : ∃ z : Str, [V.str (Str.ofString "0"), V.str (Str.ofString "-0"), V.str (Str.ofString "-"), V.str (Str.ofString ""), V.str (Str.ofString "00"), V.str (Str.ofString "-00"), V.str (Str.ofString "+1"), V.str (Str.ofString " 1"), V.str (Str.ofString "1 "), V.str (Str.ofString "1_0"), V.str (Str.ofString "-1"), V.str (Str.ofString "--1"), V.str (Str.ofString "1-"), V.str (Str.ofString "01")][n]? = some (V.str z) ∧ Asc z ∧ z.length ≤ 3 := by
        have hn : n < 14 := by omega
        match n, hn with
        | 0, _ => exact ⟨_, rfl, by decide +kernel, by decide +kernel⟩
        | 1, _ => exact ⟨_, rfl, by decide +kernel, by decide +kernel⟩
        | 2, _ => exact ⟨_, rfl, by decide +kernel, by decide +kernel⟩
        | 3, _ => exact ⟨_, rfl, by decide +kernel, by decide +kernel⟩
        | 4, _ => exact ⟨_, rfl, by decide +kernel, by decide +kernel⟩
        | 5, _ => exact ⟨_, rfl, by decide +kernel, by decide +kernel⟩
        | 6, _ => exact ⟨_, rfl, by decide +kernel, by decide +kernel⟩
        | 7, _ => exact ⟨_, rfl, by decide +kernel, by decide +kernel⟩
        | 8, _ => exact ⟨_, rfl, by decide +kernel, by decide +kernel⟩
        | 9, _ => exact ⟨_, rfl, by decide +kernel, by decide +kernel⟩
        | 10, _ => exact ⟨_, rfl, by decide +kernel, by decide +kernel⟩
        | 11, _ => exact ⟨_, rfl, by decide +kernel, by decide +kernel⟩
        | 12, _ => exact ⟨_, rfl, by decide +kernel, by decide +kernel⟩
        | 13, _ => exact ⟨_, rfl, by decide +kernel, by decide +kernel⟩
        | n + 14, h => exact absurd h (by omega)
      obtain ⟨z, ez, az, lz⟩ := key
      exact ⟨n, rfl, _, by rw [hp2]; rfl, _, atI_nat ez, q z H2 az (by omega) B2 ((Kp.refl.laid np).trans k2)⟩
    · refine ⟨b, c, cs, _, rfl, B, by decide, by decide, fun x H2 x0 x1 B2 k2 => ⟨x, rfl, fun p np => ?_⟩⟩
      have hw3 := upd_old (u := .lst [V.int most, V.int (most + 1), V.int (most + 2), V.int (most - 1), V.int (1 + x)]) (k2 _ _ hw wb) np
      have B3 := B2.laid (u := .lst [V.int most, V.int (most + 1), V.int (most + 2), V.int (most - 1), V.int (1 + x)]) np
      have k3 := k2.laid (u := .lst [V.int most, V.int (most + 1), V.int (most + 2), V.int (most - 1), V.int (1 + x)]) np
      revert hw3 B3 k3
      generalize upd H2 p (.lst [V.int most, V.int (most + 1), V.int (most + 2), V.int (most - 1), V.int (1 + x)]) = H3
      intro hw3 B3 k3
      obtain ⟨v, ev, v0, v1⟩ : ∃ v : Int, atI [V.int most, V.int (most + 1), V.int (most + 2), V.int (most - 1), V.int (1 + x)] w1 = some (.int v) ∧ 0 ≤ v ∧ v ≤ 302 := by
        have : w1 = 0 ∨ w1 = 1 ∨ w1 = 2 ∨ w1 = 3 ∨ w1 = 4 := by omega
        rcases this with rfl | rfl | rfl | rfl | rfl
        · exact ⟨_, rfl, by omega, by omega⟩
        · exact ⟨_, rfl, by omega, by omega⟩
        · exact ⟨_, rfl, by omega, by omega⟩
        · exact ⟨_, rfl, by omega, by omega⟩
        · exact ⟨_, rfl, by omega, by omega⟩
      have l1 : (Str.ofString "-").length = 1 := by decide
      refine ⟨_, by rw [hw3]; rfl, _, atI_1, _, rfl, _, ev, v, rfl, _, by rw [hw3]; rfl, _, atI_2, _, _, rfl, rfl, by omega, by omega, by rw [l1, sizeLine_eq]; omega, ?_⟩
      refine ⟨_, by rw [hw3]; rfl, _, atI_3, b, c, cs, _, w3, rfl, B3, by split <;> omega, by split <;> omega, fun y H4 ay ly B4 k4 => ⟨_, rfl, _, rfl, ?_, q _ H4 (asc_app (mul_asc (by decide +kernel)) ay) ?_ B4 (k3.trans k4)⟩⟩
      · rw [mul_len, l1]
        split at ly <;> omega
      · rw [app_len, mul_len, l1]
        split at ly <;> omega

end
section
variable {P : Program} {w : World} {K : PySem.W.Frag} {mg : Str → Option Value} {base : Heap} {a : Ad}

def spLaw (K : PySem.W.Frag) : Sp := fun vs H Q _ => ∃ (a : Addr) (ns : List Int), vs = [.ref a] ∧ SqL K H a (ns.map V.int) ∧ ns.length ≤ 63 ∧ ∀ H', Q (.bl true) H'
set_option maxHeartbeats 4000000 in
theorem ok_law (T : Txt K mg a) : FnOk P w K mg base (CX1 P w) 5 a.f_law a.d_law ["script"] (spLaw K) := by
  refine T.F_law.okC sc_law (fun vs H Q E h => ?_) (fun cdv A outer s H vs Q E hr h => ?_)
  · obtain ⟨r, ns, rfl, _⟩ := h
    rfl
  · obtain ⟨r, ns, rfl, hS, _, fin⟩ := h
    have hu := hu_of hr
    refine ⟨_, (pss_cons (ps_set (i := 1) sc_law.nd (by rfl) (Or.inr rfl) (pe_call (ok_law_bag T) (hr.mono (by decide)) (by rfl) T.m_law_bag T.F_law_bag.kp T.b_law_bag .nil pass1 (pa_cons (pv 0) pa_nil)))
      (pss_cons (ps_set (i := 2) sc_law.nd (by rfl) (Or.inl rfl) (pe_lst (pa_cons (pe_call (ok_law_draw T) (hr.mono (by decide)) (by rfl) T.m_law_draw T.F_law_draw.kp T.b_law_draw .nil pass1 (pa_cons (pv 1) (pa_cons pe_int pa_nil))) (pa_cons (pe_call (ok_law_draw T) (hr.mono (by decide)) (by rfl) T.m_law_draw T.F_law_draw.kp T.b_law_draw .nil pass1 (pa_cons (pv 1) (pa_cons pe_int pa_nil))) (pa_cons (pe_call (ok_law_draw T) (hr.mono (by decide)) (by rfl) T.m_law_draw T.F_law_draw.kp T.b_law_draw .nil pass1 (pa_cons (pv 1) (pa_cons pe_int pa_nil))) (pa_cons (pe_call (ok_law_draw T) (hr.mono (by decide)) (by rfl) T.m_law_draw T.F_law_draw.kp T.b_law_draw .nil pass1 (pa_cons (pv 1) (pa_cons pe_int pa_nil))) pa_nil))))))
      (pss_cons (ps_setc (i := 3) sc_law.nd (by rfl) (Or.inl rfl) (N' := ["k", "bag"]) (cap := [none, some 1]) ⟨rfl, (by decide +kernel), (by decide +kernel), (by rfl), rfl, (by rfl)⟩ (by rfl) (pi_range1 (by rfl) T.z_range (pa_cons pe_int pa_nil)) (fun C_ ex_ s_ H_ => (pg_name (i := 0) (show (["k", "bag"] : List Str).Nodup by decide +kernel) (by rfl) (Or.inl rfl))) gkp_name (fun C_ ex_ s_ H_ => pifs_nil) (fun C_ ex_ s_ H_ => (pe_lst (pa_cons (pe_call (ok_law_draw T) (by exact hr.mono (by decide)) (by rfl) T.m_law_draw T.F_law_draw.kp T.b_law_draw .nil pass1 (pa_cons (pv 1) (pa_cons pe_int pa_nil))) (pa_cons (pe_call (ok_law_draw T) (by exact hr.mono (by decide)) (by rfl) T.m_law_draw T.F_law_draw.kp T.b_law_draw .nil pass1 (pa_cons (pv 1) (pa_cons pe_int pa_nil))) (pa_cons (pe_call (ok_law_draw T) (by exact hr.mono (by decide)) (by rfl) T.m_law_draw T.F_law_draw.kp T.b_law_draw .nil pass1 (pa_cons (pv 1) (pa_cons pe_int pa_nil))) pa_nil))))))
      (pss_cons (ps_set (i := 4) sc_law.nd (by rfl) (Or.inl rfl) (pe_ix ix_F (pe_lst (pa_cons pe_int (pa_cons pe_int (pa_cons pe_int (pa_cons pe_int (pa_cons pe_int (pa_cons pe_int pa_nil))))))) (pe_call (ok_law_draw T) (hr.mono (by decide)) (by rfl) T.m_law_draw T.F_law_draw.kp T.b_law_draw .nil pass1 (pa_cons (pv 1) (pa_cons pe_int pa_nil))) (fun _ _ => rfl)))
      (pss_cons (ps_if (pt_cmpR op_eq (pe_call (ok_law_draw T) (hr.mono (by decide)) (by rfl) T.m_law_draw T.F_law_draw.kp T.b_law_draw .nil pass1 (pa_cons (pv 1) (pa_cons pe_int pa_nil))) pe_int (nomark _)) (pss_one (ps_set (i := 4) sc_law.nd (by rfl) (Or.inl rfl) (pe_op op_add pe_int (pe_call (ok_law_draw T) (hr.mono (by decide)) (by rfl) T.m_law_draw T.F_law_draw.kp T.b_law_draw .nil pass1 (pa_cons (pv 1) (pa_cons pe_int pa_nil)))))) pss_nil)
      (pss_cons (ps_set (i := 5) sc_law.nd (by rfl) (Or.inl rfl) (pe_call (ok_law_text T) (hr.mono (by decide)) (by rfl) T.m_law_text T.F_law_text.kp T.b_law_text .nil pass1 (pa_cons (pv 1) (pa_cons (pv 4) (pa_cons (pv 2) pa_nil)))))
      (pss_cons (ps_for PassesOwn.never (by rfl) (pi_list (pv 3)) (pg_name (i := 6) sc_law.nd (by rfl) (Or.inl rfl))
      (pss_one (ps_if (pt_cmpR op_lt (pe_ix ix_F (pv 6) pe_int (fun _ _ => rfl)) pe_int (nomark _)) (pss_one (ps_set (i := 5) sc_law.nd (by rfl) (Or.inl rfl) (pe_call (ok_law_bent_text T) (hr.mono (by decide)) (by rfl) T.m_law_bent_text T.F_law_bent_text.kp T.b_law_bent_text .nil pass1 (pa_cons (pv 5) (pa_cons (pv 6) (pa_cons (pv 1) pa_nil)))))) pss_nil)))
      (pss_cons (ps_asg (pe_call (ok_law_read T) (hr.mono (by decide)) (by rfl) T.m_law_read T.F_law_read.kp T.b_law_read .nil pass1 (pa_cons (pv 5) (pa_cons (pv 4) pa_nil))) (pg_tup (n := 2) (by rfl) (pgs_cons (pg_name (i := 7) sc_law.nd (by rfl) (Or.inl rfl)) (pgs_cons (pg_name (i := 8) sc_law.nd (by rfl) (Or.inl rfl)) pgs_nil))))
      (pss_cons (ps_set (i := 9) sc_law.nd (by rfl) (Or.inl rfl) (pe_call (ok_law_value T) (hr.mono (by decide)) (by rfl) T.m_law_value T.F_law_value.kp T.b_law_value .nil pass1 (pa_cons (pv 5) (pa_cons (pv 4) pa_nil))))
      (pss_cons (ps_if (pt_cmp (pc_isN (pv 9))) (pss_one (ps_ret (pe_and (pe_cmp (pc_isN (pv 7))) (pe_one (pe_cmpR (op_eqF hu) (pv 8) (pe_lst (pa_cons pe_bl (pa_cons pe_bl (pa_cons pe_bl pa_nil)))) (nomark _)))))) pss_nil)
      (pss_one (ps_ret (pe_and (pe_cmpR (op_eqE hu) (pv 8) (pe_lst pa_nil) (nomark _)) (pe_and (pe_callB call_isF (by rfl) T.z_isinstance (by decide +kernel) (pa_cons (pv 7) (pa_cons (pe_bltn (v := .ty "int") (u := .type "int") (by rfl) T.z_int (by decide +kernel) (by rfl)) pa_nil))) (pe_and (pe_not (pe_callB call_isF (by rfl) T.z_isinstance (by decide +kernel) (pa_cons (pv 7) (pa_cons (pe_bltn (v := .ty "bool") (u := .type "bool") (by rfl) T.z_bool (by decide +kernel) (by rfl)) pa_nil)))) (pe_one (pe_cmpR op_eq (pv 7) (pv 9) (nomark _)))))))))))))))))), ?_⟩
    generalize hG : tSeq (tAsg (tOp rIxF (tLst _) _) (gName 4)) _ = tail
    simp! []
    refine ⟨r, ns, rfl, hS, fun b c cs H1 nb nc B1 S1 => ?_⟩
    simp! []
    refine ⟨b, c, cs, _, rfl, B1, by decide, by decide, fun w0 H2 w00 w01 B2 k2 => ?_⟩
    refine ⟨b, c, cs, _, rfl, B2, by decide, by decide, fun w1 H3 w10 w11 B3 k3 => ?_⟩
    refine ⟨b, c, cs, _, rfl, B3, by decide, by decide, fun w2 H4 w20 w21 B4 k4 => ?_⟩
    refine ⟨b, c, cs, _, rfl, B4, by decide, by decide, fun w3 H5 w30 w31 B5 k5 => ?_⟩
    intro wl nwl
    obtain ⟨wb, wc⟩ := B5.apart nwl
    have B6 := B5.laid (u := .lst [.int w0, .int w1, .int w2, .int w3]) nwl
    have hw6 : upd H5 wl (.lst [.int w0, .int w1, .int w2, .int w3]) wl = some (.lst [.int w0, .int w1, .int w2, .int w3]) := upd_same
    revert B6 hw6
    generalize upd H5 wl (.lst [.int w0, .int w1, .int w2, .int w3]) = H6
    intro B6 hw6
    refine comp1 2 (fun Q2 h2 => by simp! []; exact h2) (by decide) (by decide) (fun D i ys H7 => ∃ ps : List (Addr × Int × Int × Int), ys = (ps.map fun x => V.ref x.1) ∧ (∀ x ∈ ps, H7 x.1 = some (.lst [.int x.2.1, .int x.2.2.1, .int x.2.2.2]) ∧ 0 ≤ x.2.1 ∧ 0 ≤ x.2.2.1 ∧ 0 ≤ x.2.2.2 ∧ x.1 ≠ D ∧ x.1 ≠ b) ∧ ps.length = i ∧ H7 D = some (.lst ys) ∧ BagAt H7 b c cs ∧ Kp b H6 H7) (fun D hD => ⟨[], rfl, fun _ h => absurd h List.not_mem_nil, rfl, upd_same, B6.laid hD, Kp.refl.laid hD⟩) ?_ (by rw [sizeLine_eq]; decide) ?_ ?_
    · rintro D hD i ys H7 hi ⟨ps, rfl, _, lp, h7, _⟩
      exact ⟨h7, by rw [List.length_map]; omega⟩
    · rintro D hD i ys H7 hi ⟨ps, rfl, hp, lp, h7, B7, k7⟩
      obtain ⟨Db, Dc⟩ := B6.apart hD
      simp! [tTrue, capSt]
      refine ⟨b, c, cs, _, rfl, B7, by decide, by decide, fun a0 H8 a00 a01 B8 k8 => ?_⟩
      refine ⟨b, c, cs, _, rfl, B8, by decide, by decide, fun a1 H9 a10 a11 B9 k9 => ?_⟩
      refine ⟨b, c, cs, _, rfl, B9, by decide, by decide, fun a2 H10 a20 a21 B10 k10 => ?_⟩
      intro p np
      have k710 := (k8.trans k9).trans k10
      obtain ⟨pb, pc⟩ := B10.apart np
      have h10 := upd_old (u := .lst [.int a0, .int a1, .int a2]) (k710 _ _ h7 Db) np
      have pD : p ≠ D := fun e => by rw [e, k710 _ _ h7 Db] at np; cases np
      refine ⟨h10, ps ++ [(p, a0, a1, a2)], by rw [List.map_append]; rfl, fun x hx => ?_, by simp [lp], (B10.laid np).other Db Dc, ((k7.trans k710).laid np).new hD⟩
      rcases List.mem_append.mp hx with hx | hx
      · obtain ⟨e1, e2, e3, e4, e5, e6⟩ := hp x hx
        exact ⟨by rw [upd_ne e5]; exact upd_old (k710 _ _ e1 e6) np, e2, e3, e4, e5, e6⟩
      · rw [List.mem_singleton.mp hx]
        exact ⟨by rw [upd_ne pD]; exact upd_same, a00, a10, a20, pD, pb⟩
    · rintro D hD ys H7 ⟨ps, rfl, hp, lp, h7, B7, k7⟩
      obtain ⟨Db, Dc⟩ := B6.apart hD
      have hw7 := k7 _ _ hw6 wb
      have lp2 : ps.length = 2 := lp
      clear lp
      subst hG
      generalize hT : tSeq (tAsg (tCall sp_text _ _ _) _) _ = t2
      have FIN : ∀ (most : Int) (H8 : Hp), 1 ≤ most → most ≤ 300 → BagAt H8 b c cs → Kp b H7 H8 → t2 { nx := fun _ H' => Q .non H', rt := Q } [some (.ref r), some (.ref b), some (.ref wl), some (.ref D), some (.int most), none, none, none, none, none] H8 := by
        intro most H8 mo0 mo1 B8 k8
        subst hT
        simp! []
        refine ⟨b, c, wl, cs, most, w0, w1, w2, w3, rfl, B8, k8 _ _ hw7 wb, mo0, mo1, w00, w10, by omega, w20, by omega, w30, by omega, fun z H9 az lz B9 k9 => ?_⟩
        have k79 := k8.trans k9
        simp! []
        refine forL (H1 := H9) D (ps.map fun x => V.ref x.1) (fun Q2 h2 => by simp! []; exact h2) (fun i σ H10 => ∃ (z : Str) (v6 : Option V), σ = [some (.ref r), some (.ref b), some (.ref wl), some (.ref D), some (.int most), some (.str z), v6, none, none, none] ∧ Asc z ∧ z.length + 13 ≤ 323 * 2 ^ i ∧ BagAt H10 b c cs ∧ Kp b H7 H10)
          ⟨z, _, rfl, az, by omega, B9, k79⟩ ?_ ?_ ?_
        · rintro i σ H10 hi ⟨z, v6, rfl, _, _, _, k10⟩
          exact .of (k10 _ _ h7 Db)
        · rintro i x σ H10 hx ⟨z, v6, rfl, az, lz, B10, k10⟩
          obtain ⟨pk, hpk, rfl⟩ := of_map_get hx
          have il := (List.getElem?_eq_some_iff.mp hpk).1
          obtain ⟨e1, e2, e3, e4, e5, e6⟩ := hp pk (List.mem_of_getElem? hpk)
          have e10 := k10 _ _ e1 e6
          have p2 : 2 ^ i ≤ 2 := by
            have : i = 0 ∨ i = 1 := by omega
            rcases this with rfl | rfl <;> decide
          have ps2 : 323 * 2 ^ (i + 1) = 2 * (323 * 2 ^ i) := by rw [Nat.pow_succ]; omega
          simp! [e10]
          refine ite2 (fun _ => ?_) fun _ => ⟨az, by omega, B10, k10⟩
          refine ⟨b, c, pk.1, cs, z, _, _, _, rfl, B10, e10, e2, e3, e4, az, by omega, fun y H11 ay ly B11 k11 => ?_⟩
          exact ⟨y, rfl, ay, by omega, B11, k10.trans k11⟩
        · rintro σ H10 ⟨z, v6, rfl, az, lz, B10, k10⟩
          rw [List.length_map, lp2] at lz
          simp! []
          have lz2 : z.length ≤ 2000 := by omega
          refine ⟨z, most, rfl, az, lz2, by omega, by omega, fun o rr tl H11 S11 hr hl => ?_, fun o n rr tl H11 hn S11 hr hl => ?_⟩
          · refine gTup_of hr rfl ?_
            simp! []
            refine ⟨z, most, rfl, az, lz2, by omega, by omega, fun _ H12 S12 => ?_, fun n => absurd n o⟩
            have hl12 := S12 _ _ hl
            simp! [hl12]
            intro p np
            have h13 := upd_old (u := .lst [V.bl true, V.bl true, V.bl false]) hl12 np
            have ee : eqVs [V.bl true, V.bl true, V.bl false] [V.bl true, V.bl true, V.bl false] = true := by first | rfl | decide
            refine ⟨true, [V.bl true, V.bl true, V.bl false], by rw [h13]; rfl, by rw [h13]; rfl, rfl, rfl, rfl, ?_⟩
            rw [ee]
            exact fin _
          · refine gTup_of hr rfl ?_
            simp! []
            refine ⟨z, most, rfl, az, lz2, by omega, by omega, fun n => absurd o n, fun _ n2 H12 hn2 S12 => ?_⟩
            rw [hn] at hn2
            cases hn2
            have hl12 := S12 _ _ hl
            simp! [hl12]
            intro p np
            have h13 := upd_old (u := .lst []) hl12 np
            refine ⟨_, by rw [h13]; rfl, by rw [h13]; rfl, ?_⟩
            rw [if_pos (by rfl), decide_eq_true trivial]
            exact fin _
      simp! []
      intro p np
      obtain ⟨pb, _⟩ := B7.apart np
      refine ⟨b, c, cs, _, rfl, B7.laid np, by decide, by decide, fun x H8 x0 x1 B8 k8 => ?_⟩
      have hp8 := k8 _ _ upd_same pb
      have k78 := (Kp.refl.laid np).trans k8
      obtain ⟨v, ev, v0, v1⟩ : ∃ v : Int, atI [V.int 1, V.int 2, V.int 3, V.int 60, V.int 300, V.int 60] x = some (.int v) ∧ 1 ≤ v ∧ v ≤ 300 := by
        have : x = 0 ∨ x = 1 ∨ x = 2 ∨ x = 3 ∨ x = 4 ∨ x = 5 := by omega
        rcases this with rfl | rfl | rfl | rfl | rfl | rfl
        all_goals exact ⟨_, rfl, by decide, by decide⟩
      refine ⟨x, rfl, _, by rw [hp8]; rfl, _, ev, ?_⟩
      refine ⟨b, c, cs, _, rfl, B8, by decide, by decide, fun y H9 y0 y1 B9 k9 => ⟨rfl, ite2 (fun _ => ?_) fun _ => FIN v H9 v0 v1 B9 (k78.trans k9)⟩⟩
      exact ⟨b, c, cs, _, rfl, B9, by decide, by decide, fun u H10 u0 u1 B10 k10 => ⟨u, rfl, FIN _ H10 (by omega) (by omega) B10 ((k78.trans k9).trans k10)⟩⟩

end
set_option maxHeartbeats 4000000 in
theorem all_mk {l : PySem.W.OpenLaw} {w : World} {K : PySem.W.Frag} {h : Heap} {mg : Str → Option Value} {fa : Addr} {X_NoText : Addr} {X_HoldError : Addr} {X_NoSpot : Addr} {X_NoThing : Addr} {X_NotFormed : Addr} {X_NoTable : Addr} {X_Faulty : Addr} {f0 f1 f2 f3 f4 f5 f6 f7 f8 f9 f10 : Addr} {tk_FIGURES : Nat}
    (X : K.In h) (G : h.Ns mainGlobals mg) (hfa : mg "law" = some (.ref fa))
    (aX_NoText : PySem.W.nsIn K mainGlobals "NoText" = some (some (.ref X_NoText))) (qX_NoText : XCls K X_NoText)
    (aX_HoldError : PySem.W.nsIn K mainGlobals "HoldError" = some (some (.ref X_HoldError)))
    (aX_NoSpot : PySem.W.nsIn K mainGlobals "NoSpot" = some (some (.ref X_NoSpot)))
    (aX_NoThing : PySem.W.nsIn K mainGlobals "NoThing" = some (some (.ref X_NoThing)))
    (aX_NotFormed : PySem.W.nsIn K mainGlobals "NotFormed" = some (some (.ref X_NotFormed)))
    (aX_NoTable : PySem.W.nsIn K mainGlobals "NoTable" = some (some (.ref X_NoTable)))
    (aX_Faulty : PySem.W.nsIn K mainGlobals "Faulty" = some (some (.ref X_Faulty)))
    (xT : HT.xTab K X_HoldError [X_HoldError, X_NoSpot, X_NoThing, X_NoText, X_NotFormed, X_NoTable, X_Faulty] = true)
    (a0 : PySem.W.nsIn K mainGlobals "read_whole" = some (some (.ref f0)))
    (F0 : ∃ fd, Fun K "read_whole" "read_whole" s_read_whole f0 fd)
    (a1 : PySem.W.nsIn K mainGlobals "_law_bag" = some (some (.ref f1)))
    (F1 : ∃ fd, Fun K "_law_bag" "_law_bag" s_law_bag f1 fd)
    (a2 : PySem.W.nsIn K mainGlobals "_law_draw" = some (some (.ref f2)))
    (F2 : ∃ fd, Fun K "_law_draw" "_law_draw" s_law_draw f2 fd)
    (a3 : PySem.W.nsIn K mainGlobals "_law_any_sign" = some (some (.ref f3)))
    (F3 : ∃ fd, Fun K "_law_any_sign" "_law_any_sign" s_law_any_sign f3 fd)
    (a4 : PySem.W.nsIn K mainGlobals "_law_run" = some (some (.ref f4)))
    (F4 : ∃ fd, Fun K "_law_run" "_law_run" s_law_run f4 fd)
    (a5 : PySem.W.nsIn K mainGlobals "_law_bent_text" = some (some (.ref f5)))
    (F5 : ∃ fd, Fun K "_law_bent_text" "_law_bent_text" s_law_bent_text f5 fd)
    (a6 : PySem.W.nsIn K mainGlobals "_law_figures" = some (some (.ref f6)))
    (F6 : ∃ fd, Fun K "_law_figures" "_law_figures" s_law_figures f6 fd)
    (a7 : PySem.W.nsIn K mainGlobals "_law_text" = some (some (.ref f7)))
    (F7 : ∃ fd, Fun K "_law_text" "_law_text" s_law_text f7 fd)
    (a8 : PySem.W.nsIn K mainGlobals "_law_value" = some (some (.ref f8)))
    (F8 : ∃ fd, Fun K "_law_value" "_law_value" s_law_value f8 fd)
    (a9 : PySem.W.nsIn K mainGlobals "_law_read" = some (some (.ref f9)))
    (F9 : ∃ fd, Fun K "_law_read" "_law_read" s_law_read f9 fd)
    (a10 : PySem.W.nsIn K mainGlobals "law" = some (some (.ref f10)))
    (F10 : ∃ fd, Fun K "law" "law" s_law f10 fd)
    (z_ValueError : PySem.W.nsIn K mainGlobals "ValueError" = some none)
    (z_abs : PySem.W.nsIn K mainGlobals "abs" = some none)
    (z_all : PySem.W.nsIn K mainGlobals "all" = some none)
    (z_bool : PySem.W.nsIn K mainGlobals "bool" = some none)
    (z_int : PySem.W.nsIn K mainGlobals "int" = some none)
    (z_isinstance : PySem.W.nsIn K mainGlobals "isinstance" = some none)
    (z_len : PySem.W.nsIn K mainGlobals "len" = some none)
    (z_max : PySem.W.nsIn K mainGlobals "max" = some none)
    (z_range : PySem.W.nsIn K mainGlobals "range" = some none)
    (z_str : PySem.W.nsIn K mainGlobals "str" = some none)
    (aK_FIGURES : PySem.W.nsIn K mainGlobals "FIGURES" = some (some (.str "0123456789" tk_FIGURES))) :
    ∃ fd : FuncData, (∀ (s : Shared) (v : Value), BindsTo s fd ⟨[v], []⟩ [("script", v)]) ∧ ∀ base : Heap, K.In base → base.Ns mainGlobals mg → FnOk l.prog w K mg base (CX1 l.prog w) 5 fa fd ["script"] (spLaw K) := by
  have e := hfa.symm.trans (PySem.W.mg_of X G a10)
  cases e
  obtain ⟨_, F0⟩ := F0
  have b0 := F0.binds (ps := ["text", "most"]) fun _ _ _ _ _ _ us hl => match us, hl with | [_, _], _ => rfl
  obtain ⟨_, F1⟩ := F1
  have b1 := F1.binds (ps := ["script"]) fun _ _ _ _ _ _ us hl => match us, hl with | [_], _ => rfl
  obtain ⟨_, F2⟩ := F2
  have b2 := F2.binds (ps := ["bag", "many"]) fun _ _ _ _ _ _ us hl => match us, hl with | [_, _], _ => rfl
  obtain ⟨_, F3⟩ := F3
  have b3 := F3.binds (ps := ["bag"]) fun _ _ _ _ _ _ us hl => match us, hl with | [_], _ => rfl
  obtain ⟨_, F4⟩ := F4
  have b4 := F4.binds (ps := ["bag"]) fun _ _ _ _ _ _ us hl => match us, hl with | [_], _ => rfl
  obtain ⟨_, F5⟩ := F5
  have b5 := F5.binds (ps := ["text", "pick", "bag"]) fun _ _ _ _ _ _ us hl => match us, hl with | [_, _, _], _ => rfl
  obtain ⟨_, F6⟩ := F6
  have b6 := F6.binds (ps := ["bag", "size", "first"]) fun _ _ _ _ _ _ us hl => match us, hl with | [_, _, _], _ => rfl
  obtain ⟨_, F7⟩ := F7
  have b7 := F7.binds (ps := ["bag", "most", "ways"]) fun _ _ _ _ _ _ us hl => match us, hl with | [_, _, _], _ => rfl
  obtain ⟨_, F8⟩ := F8
  have b8 := F8.binds (ps := ["text", "most"]) fun _ _ _ _ _ _ us hl => match us, hl with | [_, _], _ => rfl
  obtain ⟨_, F9⟩ := F9
  have b9 := F9.binds (ps := ["text", "most"]) fun _ _ _ _ _ _ us hl => match us, hl with | [_, _], _ => rfl
  obtain ⟨_, F10⟩ := F10
  obtain ⟨_, _, _, _, _, _, _, _, _, e_, _, _⟩ := F10.ex
  subst e_
  have b10 := F10.binds (ps := ["script"]) fun _ _ _ _ _ _ us hl => match us, hl with | [_], _ => rfl
  have T : Txt K mg ⟨_, _, _, _, _, _, _, _, _, _, _, _, _, _, _, _, _, _, _, _, _, _, _, _, _, _, _, _, _, _⟩ := ⟨qX_NoText, PySem.W.mg_of X G aX_NoText, PySem.W.mg_of X G aX_HoldError, PySem.W.mg_of X G aX_NoSpot, PySem.W.mg_of X G aX_NoThing, PySem.W.mg_of X G aX_NotFormed, PySem.W.mg_of X G aX_NoTable, PySem.W.mg_of X G aX_Faulty, HT.xTab_of xT, F0, b0, PySem.W.mg_of X G a0, F1, b1, PySem.W.mg_of X G a1, F2, b2, PySem.W.mg_of X G a2, F3, b3, PySem.W.mg_of X G a3, F4, b4, PySem.W.mg_of X G a4, F5, b5, PySem.W.mg_of X G a5, F6, b6, PySem.W.mg_of X G a6, F7, b7, PySem.W.mg_of X G a7, F8, b8, PySem.W.mg_of X G a8, F9, b9, PySem.W.mg_of X G a9, F10, b10, PySem.W.mg_of X G a10, PySem.W.mg_none_of X G z_ValueError, PySem.W.mg_none_of X G z_abs, PySem.W.mg_none_of X G z_all, PySem.W.mg_none_of X G z_bool, PySem.W.mg_none_of X G z_int, PySem.W.mg_none_of X G z_isinstance, PySem.W.mg_none_of X G z_len, PySem.W.mg_none_of X G z_max, PySem.W.mg_none_of X G z_range, PySem.W.mg_none_of X G z_str, PySem.W.mg_of X G aK_FIGURES⟩
  exact ⟨_, fun s v => .of_eq rfl, fun base _ _ => ok_law T⟩
theorem walk {l : PySem.W.OpenLaw} {q : Program} {loose : List Str} {XP : (Str → Option Value) → Heap → Prop} {YP : World → Heap → Prop} {d : DefRec} {K : Params → PySem.W.Frag} (hn : l.most = some 63) (hdf : d.params.defaults = [])
    (hY : ∀ (w : World) (h : Heap), YP w h → (K w.params).In h)
    (F : ∀ (w : World) (mg : Str → Option Value) (fa : Addr) (h : Heap), (K w.params).In h → h.Ns mainGlobals mg → mg d.name = some (.ref fa) →
      ∃ fd : FuncData, (∀ (s : Shared) (u : Value), BindsTo s fd ⟨[u], []⟩ [("script", u)]) ∧ ∀ base : Heap, (K w.params).In base → base.Ns mainGlobals mg → FnOk l.prog w (K w.params) mg base (CX1 l.prog w) 5 fa fd ["script"] (spLaw (K w.params))) :
    PySem.W.WalkO q loose XP YP l.row.toRowW d [] (fun f vs => PySem.call f vs) :=
  L2.walk_of (n := 63) (k := 5) (x := "script") (CX := fun w => (CX1 l.prog w)) (sp := fun w => spLaw (K w.params)) hn (by decide) hdf ⟨rfl, by decide, by decide⟩ hY F (fun _ _ a ns hl _ hS => ⟨a, ns, rfl, hS, hl, fun _ => rfl⟩) (fun _ _ _ _ _ z => by obtain ⟨_, _, _, _, _, _, _, _, _, _, _, _, z⟩ := z; exact z)
end Law
open PySem PySem.W PyProof.Rows
theorem PySem.W.Fast.tw15149765773538745906 : True := trivial
theorem PySem.W.Fast.tw16576412126915230159 : True := trivial
theorem PySem.W.Fast.tw392714737477643857 : True := trivial
theorem PySem.W.Fast.tw7988552126153452302 : True := trivial
theorem PySem.W.Fast.tw1121842670494713075 : True := trivial
theorem PySem.W.Fast.tw1714381164014510406 : True := trivial
theorem PySem.W.Fast.tw14789774515417709287 : True := trivial
theorem PySem.W.Fast.tw633905783195415020 : True := trivial
theorem PySem.W.Fast.tw3325142861866390627 : True := trivial
theorem PySem.W.Fast.tw8313218267467290240 : True := trivial
theorem PySem.W.Fast.tw1710054702518437499 : True := trivial
theorem PySem.W.Fast.tw10480523068972066066 : True := trivial
theorem PySem.W.Fast.tw4082826321681019126 : True := trivial
theorem PySem.W.Fast.tw3177880001063416614 : True := trivial
theorem PySem.W.Fast.tw2626493395587356313 : True := trivial
theorem PySem.W.Fast.tw13682391310270585225 : True := trivial
theorem PySem.W.Fast.tw12777010123976515239 : True := trivial
theorem PySem.W.Fast.tw14032586954764279238 : True := trivial
theorem PySem.W.Fast.tw16889956894648728692 : True := trivial
theorem PySem.W.Fast.tw4907809889676336273 : True := trivial
theorem PySem.W.Fast.tw2253379830217773312 : True := trivial
theorem PySem.W.Fast.tw4501122312606301549 : True := trivial
theorem PySem.W.Fast.tw13120798159574788172 : True := trivial
theorem PySem.W.Fast.tw2628635858072751332 : True := trivial
theorem PySem.W.Fast.tw11607590350047350490 : True := trivial
theorem PySem.W.Fast.tw338163518908442865 : True := trivial
theorem PySem.W.Fast.tw3974880207955701687 : True := trivial
set_option maxRecDepth 100000 in
set_option maxHeartbeats 0 in
theorem PySem.Challenge.cw_knownholds_k15_numbers_read_holds : PySem.Challenge.rw_knownholds_k15_numbers_read.Holds := by
  w_on; o_law; k_head; (case hw => w_witness2)
  k_fill
  refine Law.walk (l := PySem.Challenge.rw_knownholds_k15_numbers_read) rfl rfl (fun w h Y => PySem.W.kIn_of Y) ?F
  case F =>
    intro w mg fa h KX G hmg
    refine' Law.all_mk KX G hmg ?aX_NoText ?qX_NoText ?aX_HoldError ?aX_NoSpot ?aX_NoThing ?aX_NotFormed ?aX_NoTable ?aX_Faulty ?xT ?a0 ?F0 ?a1 ?F1 ?a2 ?F2 ?a3 ?F3 ?a4 ?F4 ?a5 ?F5 ?a6 ?F6 ?a7 ?F7 ?a8 ?F8 ?a9 ?F9 ?a10 ?F10 ?z_ValueError ?z_abs ?z_all ?z_bool ?z_int ?z_isinstance ?z_len ?z_max ?z_range ?z_str ?aK_FIGURES
    (case aX_NoText => k_is)
    (case qX_NoText => (unfold L2.XCls; k_exc))
    (case aX_HoldError => k_is)
    (case aX_NoSpot => k_is)
    (case aX_NoThing => k_is)
    (case aX_NotFormed => k_is)
    (case aX_NoTable => k_is)
    (case aX_Faulty => k_is)
    (case xT => kernel_rfl)
    (case a0 => k_is)
    (case F0 => exact ⟨_, L2.fun_mk (by k_is) (by k_is) (by k_is)⟩)
    (case a1 => k_is)
    (case F1 => exact ⟨_, L2.fun_mk (by k_is) (by k_is) (by k_is)⟩)
    (case a2 => k_is)
    (case F2 => exact ⟨_, L2.fun_mk (by k_is) (by k_is) (by k_is)⟩)
    (case a3 => k_is)
    (case F3 => exact ⟨_, L2.fun_mk (by k_is) (by k_is) (by k_is)⟩)
    (case a4 => k_is)
    (case F4 => exact ⟨_, L2.fun_mk (by k_is) (by k_is) (by k_is)⟩)
    (case a5 => k_is)
    (case F5 => exact ⟨_, L2.fun_mk (by k_is) (by k_is) (by k_is)⟩)
    (case a6 => k_is)
    (case F6 => exact ⟨_, L2.fun_mk (by k_is) (by k_is) (by k_is)⟩)
    (case a7 => k_is)
    (case F7 => exact ⟨_, L2.fun_mk (by k_is) (by k_is) (by k_is)⟩)
    (case a8 => k_is)
    (case F8 => exact ⟨_, L2.fun_mk (by k_is) (by k_is) (by k_is)⟩)
    (case a9 => k_is)
    (case F9 => exact ⟨_, L2.fun_mk (by k_is) (by k_is) (by k_is)⟩)
    (case a10 => k_is)
    (case F10 => exact ⟨_, L2.fun_mk (by k_is) (by k_is) (by k_is)⟩)
    (case z_ValueError => k_is)
    (case z_abs => k_is)
    (case z_all => k_is)
    (case z_bool => k_is)
    (case z_int => k_is)
    (case z_isinstance => k_is)
    (case z_len => k_is)
    (case z_max => k_is)
    (case z_range => k_is)
    (case z_str => k_is)
    (case aK_FIGURES => k_is)

