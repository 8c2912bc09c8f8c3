import PyProof.Rows.All
import Wide.All
import OpenK.AllK
import Wide.FinOn
import Lean
import PyProof.EqAt
import PyProof.EqKinds
import PyProof.TupleCall
import KE.KTab
import PyProof.ListRange
import KE.KTryMore
import KE.KIntText
import PyProof.DictUpdate
import PyProof.Rows.StrSplitAre
import PyProof.StrLawsTight
import PySem.Challenge.RW_knownholds_k18_whole_one_text
set_option Elab.async false
set_option linter.all false
set_option maxRecDepth 100000
namespace L2
open PySem PySem.Spec PyProof.Rows

/-- a key: an int or a str -/
abbrev Key := Sum Int Str
def keyIs : Key → Value → Bool
  | .inl k, v => Value.isInt k v
  | .inr x, v => Value.isStrOf x v
def keyH (w : World) : Key → Int
  | .inl k => hashInt k
  | .inr x => hashStr w x
theorem keyIs_shape : ∀ {k : Key} {v : Value}, keyIs k v = true → (∃ i t, k = Sum.inl i ∧ v = Value.int i t) ∨ (∃ x t, k = Sum.inr x ∧ v = Value.str x t)
  | .inl i, v, h => by
    obtain ⟨t, e⟩ := Value.isInt_shape (k := i) (v := v) h
    exact .inl ⟨i, t, rfl, e⟩
  | .inr x, v, h => by
    obtain ⟨t, e⟩ := Value.isStrOf_shape (x := x) (v := v) h
    exact .inr ⟨x, t, rfl, e⟩
theorem keyIs_int (i : Int) (t : Tok) : keyIs (.inl i) (.int i t) = true := by simp [keyIs, Value.isInt]
theorem keyIs_str (x : Str) (t : Tok) : keyIs (.inr x) (.str x t) = true := by simp [keyIs, Value.isStrOf]
theorem key_ll (a b : Int) : decide ((Sum.inl a : Key) = Sum.inl b) = (a == b) := by
  by_cases e : a = b
  · subst e; simp
  · have h : ¬ (Sum.inl a : Key) = Sum.inl b := fun q => e (Sum.inl.inj q)
    rw [decide_eq_false h]
    exact (beq_eq_false_iff_ne.mpr e).symm
theorem key_rr (a b : Str) : decide ((Sum.inr a : Key) = Sum.inr b) = decide (a = b) := by
  by_cases e : a = b
  · subst e; simp
  · have h : ¬ (Sum.inr a : Key) = Sum.inr b := fun q => e (Sum.inr.inj q)
    rw [decide_eq_false h, decide_eq_false e]
theorem key_lr (a : Int) (b : Str) : decide ((Sum.inl a : Key) = Sum.inr b) = false := decide_eq_false (fun q => nomatch q)
theorem key_rl (a : Str) (b : Int) : decide ((Sum.inr a : Key) = Sum.inl b) = false := decide_eq_false (fun q => nomatch q)

def mixKind (prog : Program) (w : World) : PySem.KeyKind prog w Key where
  is := keyIs
  hash := keyH w
  inj := fun v a b ha hb => by
    rcases keyIs_shape ha with ⟨i, t, rfl, rfl⟩ | ⟨x, t, rfl, rfl⟩
    · rcases keyIs_shape hb with ⟨j, u, rfl, e⟩ | ⟨y, u, rfl, e⟩
      · injection e with e1 _; rw [e1]
      · exact nomatch e
    · rcases keyIs_shape hb with ⟨j, u, rfl, e⟩ | ⟨y, u, rfl, e⟩
      · exact nomatch e
      · injection e with e1 _; rw [e1]
  byValue := fun k v h => by
    rcases keyIs_shape h with ⟨i, t, rfl, rfl⟩ | ⟨x, t, rfl, rfl⟩ <;> rfl
  pyHash := fun hv h => by
    rcases keyIs_shape hv with ⟨i, t, rfl, rfl⟩ | ⟨x, t, rfl, rfl⟩
    · exact wpAny_pyHash_int h
    · exact wpAny_pyHash_str h
  eqBool := fun hu hv h => by
    rcases keyIs_shape hu with ⟨i, t, rfl, rfl⟩ | ⟨x, t, rfl, rfl⟩
    · rcases keyIs_shape hv with ⟨j, u, rfl, rfl⟩ | ⟨y, u, rfl, rfl⟩
      · rw [key_ll] at h; exact wpAny_eqBool_int h
      · rw [key_lr] at h; exact SeqAt.EqAt.int_str i t y u _ _ _ _ h
    · rcases keyIs_shape hv with ⟨j, u, rfl, rfl⟩ | ⟨y, u, rfl, rfl⟩
      · rw [key_rl] at h; exact SeqAt.EqAt.str_int x t j u _ _ _ _ h
      · rw [key_rr] at h; exact wpAny_eqBool_str h
  «strs» := fun k x t v h => by
    rcases keyIs_shape h with ⟨i, u, rfl, e⟩ | ⟨y, u, rfl, e⟩
    · exact nomatch e
    · injection e with e1 _
      subst e1
      cases v <;> rfl

theorem mixKind_int (prog : Program) (w : World) (i : Int) (t : Tok) : (mixKind prog w).is (.inl i) (.int i t) = true := keyIs_int i t
theorem mixKind_str (prog : Program) (w : World) (x : Str) (t : Tok) : (mixKind prog w).is (.inr x) (.str x t) = true := keyIs_str x t
end L2

namespace L2
open PySem PySem.Spec PyProof.Rows

/-- a value, without the heap -/
inductive V where
  | non | bl (b : Bool) | int (i : Int) | str (x : Str) | byt (b : Array UInt8) | flt (b : UInt64) | ref (a : Addr) | ty (n : String)
  deriving DecidableEq

def RelV : V → Value → Prop
  | .non, u => u = Value.none
  | .bl b, u => u = Value.bool b
  | .int i, u => ∃ t, u = Value.int i t
  | .str x, u => ∃ t, u = Value.str x t
  | .byt b, u => ∃ t, u = Value.bytes b t
  | .flt b, u => ∃ t, u = Value.float b t
  | .ref a, u => u = Value.ref a
  | .ty n, u => u = Value.type n

abbrev Vals : List V → List Value → Prop := Paired RelV
theorem Vals.length {xs : List V} {us : List Value} (r : Vals xs us) : xs.length = us.length := Paired.length r
theorem Vals.get : ∀ {xs : List V} {us : List Value} {i : Nat} {x : V}, Vals xs us → xs[i]? = some x → ∃ u, us[i]? = some u ∧ RelV x u
  | _, _, _, _, .nil, e => by simp at e
  | _, _, 0, _, .cons r _, e => by simp at e; subst e; exact ⟨_, rfl, r⟩
  | _, _, i + 1, x, .cons _ t, e => by
    obtain ⟨u, h1, h2⟩ := Vals.get (i := i) (x := x) t (by simpa using e)
    exact ⟨u, by simpa using h1, h2⟩
theorem Vals.set {x : V} {u : Value} (r : RelV x u) : ∀ {xs : List V} {us : List Value} (i : Nat), Vals xs us → Vals (xs.set i x) (us.set i u)
  | _, _, _, .nil => .nil
  | _, _, 0, .cons _ t => .cons r t
  | _, _, i + 1, .cons q t => .cons q (Vals.set r i t)
theorem Vals.append : ∀ {xs ys : List V} {us ws : List Value}, Vals xs us → Vals ys ws → Vals (xs ++ ys) (us ++ ws)
  | _, _, _, _, .nil, s => s
  | _, _, _, _, .cons r t, s => .cons r (Vals.append t s)
theorem Vals.take : ∀ {xs : List V} {us : List Value} (n : Nat), Vals xs us → Vals (xs.take n) (us.take n)
  | _, _, 0, _ => .nil
  | _, _, _ + 1, .nil => .nil
  | _, _, n + 1, .cons r t => .cons r (Vals.take n t)
theorem Vals.drop : ∀ {xs : List V} {us : List Value} (n : Nat), Vals xs us → Vals (xs.drop n) (us.drop n)
  | _, _, 0, r => r
  | _, _, _ + 1, .nil => .nil
  | _, _, n + 1, .cons _ t => Vals.drop n t
def RelO : Option V → Option Value → Prop
  | some v, some u => RelV v u
  | none, none => True
  | _, _ => False
def KV {κ : Type} : List (κ × V) → List (κ × Value) → Prop := Paired fun (p : κ × V) (q : κ × Value) => p.1 = q.1 ∧ RelV p.2 q.2

/-- a key of a dict (00_mix): an int or a text -/
def kV : Key → V
  | .inl i => .int i
  | .inr x => .str x

/-- what stands at a tracked address -/
inductive HO where
  /-- a list -/
  | lst (xs : List V)
  /-- a tuple (never changes) -/
  | tup (xs : List V)
  /-- a dict whose keys are ints and texts; one whose keys are tuples of ints and texts (the empty one is both) -/
  | dK (kvs : List (Key × V)) | dT (kvs : List (List Key × V))
  /-- a set of ints: its members, its size -/
  | set (S : Int → Bool) (n : Nat)
  /-- an instance of the class at C, its dict at dx, its attributes -/
  | ins (C dx : Addr) (fs : List (Str × V))
  /-- the dict of the instance at x -/
  | own (x : Addr)
  /-- the dict of an exception -/
  | xd (fs : List (Str × V))
  /-- a bound method, f of x -/
  | met (f x : Addr)
  /-- a range object lo, lo + 1, .. below hi -/
  | rng (lo hi : Int)
  /-- a thing that is known to the object (the script; a dict while a loop walks it): read, never written while it is so -/
  | frz (o : Obj) (u : HO)
  /-- a code object's table -/
  | tbl (ps : Array Value)
  /-- any other thing, by what is true of its one object (a def of one's own: SetO a S n := HO.ext fun h => ..) -/
  | ext (φ : Heap → Prop)

abbrev Hp := Addr → Option HO
def upd (H : Hp) (a : Addr) (o : HO) : Hp := fun b => if b = a then some o else H b
theorem upd_same {H : Hp} {a : Addr} {o : HO} : upd H a o a = some o := by unfold upd; rw [if_pos rfl]
theorem upd_ne {H : Hp} {a b : Addr} {o : HO} (h : b ≠ a) : upd H a o b = H b := by unfold upd; rw [if_neg h]
theorem upd_upd {H : Hp} {a : Addr} {o u : HO} : upd (upd H a o) a u = upd H a u := by
  funext b; unfold upd; split <;> rfl
theorem ne_of_none {H : Hp} {a b : Addr} {o : HO} (h : H a = some o) (h' : H b = none) : a ≠ b := by
  intro e; subst e; rw [h] at h'; cases h'

section
variable (P : Program) (w : World)
def ObjOk (H : Hp) (h : Heap) (a : Addr) : HO → Prop
  | .lst xs => xs.length ≤ sizeLine ∧ ∃ (its : List Value) (n : Nat), Vals xs its ∧ h.get? a = some { cls := .type "list", data := .seq its.toArray n }
  | .tup xs => xs.length ≤ sizeLine ∧ ∃ its : List Value, Vals xs its ∧ IsTup h a its.toArray
  | .dK kvs => kvs.length ≤ sizeLine ∧ (a == sysModules) = false ∧ ∃ vs, KV kvs vs ∧ h.DictOf (mixKind P w) a vs
  | .dT kvs => kvs.length ≤ sizeLine ∧ (a == sysModules) = false ∧ ∃ xs : List (List Key × Addr × Value),
      Paired (fun (p : List Key × V) (q : List Key × Addr × Value) => p.1 = q.1 ∧ H q.2.1 = some (.tup (p.1.map kV)) ∧ RelV p.2 q.2.2) kvs xs ∧
      ∃ o es ep, h.get? a = some o ∧ o.ExactDict ∧ o.data = .dict es ep ∧ es.toList = xs.map (entryOfKey (tupleKind (mixKind P w))) ∧ (xs.map (·.1)).Nodup
  | .set S n => h.SetOf (intKind P w) a S n
  | .ins C dx fs => H dx = some (.own a) ∧ fs.length ≤ 1000 ∧ dx ≠ a ∧ h.get? a = some (PySem.W.instObj C dx) ∧
      ∃ mA, h.Ns1 dx mA ∧ (∀ f, RelO (fs.lookup f) (mA f)) ∧ PySem.Within mA (fs.map (·.1))
  | .own _ => ∃ o, h.get? a = some o
  | .xd fs => ∃ mA, h.Ns1 a mA ∧ ∀ f, RelO (fs.lookup f) (mA f)
  | .rng lo hi => ∃ t u v, h.get? a = some { cls := .type "range", data := .fields #[.int lo t, .int hi u, .int 1 v] }
  | .frz o u => h.get? a = some o ∧ ObjOk H h a u
  | .tbl ps => h.get? a = some { cls := .none, data := .fields ps }
  | .met f x => h.get? a = some (PySem.W.methodObj (.ref f) (.ref x))
  | .ext φ => φ h ∧ (∃ o, h.get? a = some o) ∧ ∀ h1 h2 : Heap, φ h1 → (∀ o, h1.get? a = some o → h2.get? a = some o) → φ h2
/-- the abstract heap is held -/
def HOk (H : Hp) (h : Heap) : Prop := ∀ a o, H a = some o → ObjOk P w H h a o
end

section
variable {P : Program} {w : World} {H H' : Hp} {h h' : Heap} {a : Addr} {o : HO}
theorem ObjOk.lt (x : ObjOk P w H h a o) : a < h.objs.size := by
  cases o with
  | lst xs => obtain ⟨_, _, _, _, e⟩ := x; exact Heap.lt_size e
  | tup xs => obtain ⟨_, _, _, p⟩ := x; exact p.lt
  | dK kvs => obtain ⟨_, _, _, _, o, _, _, e, _⟩ := x; exact Heap.lt_size e
  | dT kvs => obtain ⟨_, _, _, _, o, _, _, e, _⟩ := x; exact Heap.lt_size e
  | set S n => obtain ⟨o, _, _, _, e, _⟩ := x; exact Heap.lt_size e
  | ins C dx fs => obtain ⟨_, _, _, e, _⟩ := x; exact Heap.lt_size e
  | own y => obtain ⟨_, e⟩ := x; exact Heap.lt_size e
  | xd fs => obtain ⟨_, ⟨_, _, _, e, _⟩, _⟩ := x; exact Heap.lt_size e
  | rng lo hi => obtain ⟨_, _, _, e⟩ := x; exact Heap.lt_size e
  | frz ob u => obtain ⟨e, _⟩ := x; exact Heap.lt_size e
  | tbl ps => exact Heap.lt_size (show h.get? a = some _ from x)
  | met f y => exact Heap.lt_size (show h.get? a = some _ from x)
  | ext φ => obtain ⟨_, ⟨_, e⟩, _⟩ := x; exact Heap.lt_size e
theorem Paired.mapP {α β : Type} {F G : α → β → Prop} : ∀ {l₁ : List α} {l₂ : List β}, Paired F l₁ l₂ → (∀ a b, F a b → G a b) → Paired G l₁ l₂
  | _, _, .nil, _ => .nil
  | _, _, .cons r t, f => .cons (f _ _ r) (Paired.mapP t f)
/-- what an object's description leans on: its own object, its own dict, the tuples -/
theorem ObjOk.stay (x : ObjOk P w H h a o) (k : ∀ b u, (b = a ∨ H b = some (.own a)) → h.get? b = some u → h'.get? b = some u)
    (ho : ∀ b, H b = some (.own a) → H' b = some (.own a)) (ht : ∀ b xs, H b = some (.tup xs) → H' b = some (.tup xs)) : ObjOk P w H' h' a o := by
  induction o with
  | lst xs => obtain ⟨z, its, n, r, e⟩ := x; exact ⟨z, its, n, r, k _ _ (.inl rfl) e⟩
  | tup xs => obtain ⟨z, its, r, ob, e, c⟩ := x; exact ⟨z, its, r, ob, k _ _ (.inl rfl) e, c⟩
  | dK kvs => obtain ⟨z, y, vs, r, ob, es, ep, e, c⟩ := x; exact ⟨z, y, vs, r, ob, es, ep, k _ _ (.inl rfl) e, c⟩
  | dT kvs =>
    obtain ⟨z, y, xs, r, ob, es, ep, e, c⟩ := x
    exact ⟨z, y, xs, Paired.mapP r fun p q z => ⟨z.1, ht _ _ z.2.1, z.2.2⟩, ob, es, ep, k _ _ (.inl rfl) e, c⟩
  | set S n => obtain ⟨ob, es, ep, t, e, c⟩ := x; exact ⟨ob, es, ep, t, k _ _ (.inl rfl) e, c⟩
  | ins C dx fs =>
    obtain ⟨d, z, ne, e, mA, ⟨od, es, ep, e2, c⟩, r⟩ := x
    exact ⟨ho _ d, z, ne, k _ _ (.inl rfl) e, mA, ⟨od, es, ep, k _ _ (.inr d) e2, c⟩, r⟩
  | own y => obtain ⟨ob, e⟩ := x; exact ⟨ob, k _ _ (.inl rfl) e⟩
  | xd fs => obtain ⟨mA, ⟨od, es, ep, e, c⟩, r⟩ := x; exact ⟨mA, ⟨od, es, ep, k _ _ (.inl rfl) e, c⟩, r⟩
  | rng lo hi => obtain ⟨t, u, v, e⟩ := x; exact ⟨t, u, v, k _ _ (.inl rfl) e⟩
  | frz ob u ih => obtain ⟨e, q⟩ := x; exact ⟨k _ _ (.inl rfl) e, ih q⟩
  | tbl ps =>
    have e : h.get? a = some { cls := .none, data := .fields ps } := x
    show h'.get? a = some { cls := .none, data := .fields ps }
    exact k a _ (.inl rfl) e
  | met f y =>
    have e : h.get? a = some (PySem.W.methodObj (.ref f) (.ref y)) := x
    show h'.get? a = some (PySem.W.methodObj (.ref f) (.ref y))
    exact k a _ (.inl rfl) e
  | ext φ => obtain ⟨p, ⟨o, e⟩, st⟩ := x; exact ⟨st _ _ p fun o q => k _ _ (.inl rfl) q, ⟨o, k _ _ (.inl rfl) e⟩, st⟩
theorem HOk.lt (x : HOk P w H h) (e : H a = some o) : a < h.objs.size := (x a o e).lt
theorem HOk.fresh (x : HOk P w H h) (e : h.objs.size ≤ a) : H a = none := by
  cases q : H a with
  | none => rfl
  | some u => exact absurd (Nat.lt_of_lt_of_le (x.lt q) e) (Nat.lt_irrefl _)
/-- every object of the heap is kept -/
theorem HOk.kept (x : HOk P w H h) (k : ∀ b u, h.get? b = some u → h'.get? b = some u) : HOk P w H h' := fun a o e =>
  (x a o e).stay (fun b u _ q => k b u q) (fun _ q => q) fun _ _ q => q
/-- a new object is laid and tracked -/
theorem HOk.laid (x : HOk P w H h) (k : ∀ b u, h.get? b = some u → h'.get? b = some u) (hp : h.objs.size ≤ a) (new : ObjOk P w (upd H a o) h' a o) : HOk P w (upd H a o) h' := fun b u e => by
  have hn := x.fresh hp
  by_cases hb : b = a
  · subst hb; rw [upd_same] at e; cases e; exact new
  · rw [upd_ne hb] at e
    exact (x b u e).stay (fun c v _ q => k c v q) (fun c q => by rw [upd_ne (ne_of_none q hn)]; exact q) fun c xs q => by rw [upd_ne (ne_of_none q hn)]; exact q
end

/-- what may be read as u: it is u, or a known u -/
def Rd (H : Hp) (a : Addr) (u : HO) : Prop := H a = some u ∨ ∃ o, H a = some (.frz o u)
theorem Rd.of {H : Hp} {a : Addr} {u : HO} (h : H a = some u) : Rd H a u := .inl h
theorem Rd.ok {P : Program} {w : World} {H : Hp} {h : Heap} {a : Addr} {u : HO} (r : Rd H a u) (x : HOk P w H h) : ObjOk P w H h a u := by
  rcases r with r | ⟨o, r⟩
  · exact x a u r
  · obtain ⟨_, q⟩ := x a _ r
    exact q
/-- what may be written -/
def Mut : Option HO → Prop
  | some (.lst _) => True
  | some (.dK _) => True
  | some (.dT _) => True
  | some (.set _ _) => True
  | some (.ins _ _ _) => True
  | some (.ext _) => True
  | _ => False
section
variable {P : Program} {w : World} {H : Hp} {h h' : Heap} {x e : Addr} {o' : HO}
/-- the object at e is changed: x itself, or the dict of the instance x -/
theorem HOk.write (ok : HOk P w H h) (mu : Mut (H x)) (he : e = x ∨ H e = some (.own x)) (k : ∀ b u, b ≠ e → h.get? b = some u → h'.get? b = some u) (heo : ∃ u, h'.get? e = some u)
    (new : ObjOk P w (upd H x o') h' x o') : HOk P w (upd H x o') h' := fun b u q => by
  have nown : ∀ c y, H c = some (.own y) → c ≠ x := fun c y r z => by subst z; rw [r] at mu; exact mu
  have ntup : ∀ c xs, H c = some (.tup xs) → c ≠ x := fun c xs r z => by subst z; rw [r] at mu; exact mu
  by_cases hb : b = x
  · subst hb; rw [upd_same] at q; cases q; exact new
  · rw [upd_ne hb] at q
    by_cases hbe : b = e
    · have q' : H b = some (.own x) := by
        rcases he with z | z
        · exact absurd (hbe.trans z) hb
        · rw [hbe]; exact z
      rw [q] at q'; cases q'
      obtain ⟨v, hv⟩ := heo
      exact ⟨v, by rw [hbe]; exact hv⟩
    · refine (ok b u q).stay (fun c v hc r => k c v ?_ r) (fun c r => by rw [upd_ne (nown c b r)]; exact r) fun c xs r => by rw [upd_ne (ntup c xs r)]; exact r
      rcases hc with rfl | hc
      · exact hbe
      · rintro rfl
        rcases he with z | z
        · exact nown c b hc z
        · rw [hc] at z; cases z; exact hb rfl
end

structure Un (fs ex : List Addr) (H H' : Hp) (h h' : Heap) : Prop where
  keep : ∀ b o, h.get? b = some o → H b = none → b ∉ fs → b ∉ ex → h'.get? b = some o
  slot : ∀ b o, h.get? b = some o → H b = none → b ∈ fs → b ∉ ex → ∃ sl, h'.get? b = some { o with slots := sl }
  free : ∀ b o, h.get? b = some o → H b = none → b ∉ ex → H' b = none
  there : ∀ b o, h.get? b = some o → b ∉ ex → ∃ o', h'.get? b = some o'
  tups : ∀ b xs, H b = some (.tup xs) → H' b = some (.tup xs)
  frzs : ∀ b o u, H b = some (.frz o u) → H' b = some (.frz o u)
  tbls : ∀ b ps, H b = some (.tbl ps) → ∃ more, H' b = some (.tbl (ps ++ more))
section
variable {fs fs' ex ex' : List Addr} {H H1 H2 : Hp} {h h1 h2 h' : Heap} {a x e : Addr} {o : HO}
theorem Un.any (u : Un fs ex H H1 h h1) {b : Addr} {ob : Obj} (q : h.get? b = some ob) (n : H b = none) (hx : b ∉ ex) : ∃ sl, h1.get? b = some { ob with slots := sl } := by
  by_cases hb : b ∈ fs
  · exact u.slot b ob q n hb hx
  · exact ⟨ob.slots, u.keep b ob q n hb hx⟩
theorem Un.kept (k : ∀ b u, h.get? b = some u → h'.get? b = some u) : Un fs ex H H h h' :=
  ⟨fun b ob q _ _ _ => k b ob q, fun b ob q _ _ _ => ⟨ob.slots, k b ob q⟩, fun _ _ _ n _ => n, fun b ob q _ => ⟨ob, k b ob q⟩, fun _ _ q => q, fun _ _ _ q => q, fun _ ps q => ⟨#[], by rw [q]; simp⟩⟩
theorem Un.refl : Un fs ex H H h h := Un.kept fun _ _ q => q
theorem Un.laid (k : ∀ b u, h.get? b = some u → h'.get? b = some u) (hp : h.objs.size ≤ a) (hn : H a = none) : Un fs ex H (upd H a o) h h' where
  keep := fun b u q _ _ _ => k b u q
  slot := fun b u q _ _ _ => ⟨u.slots, k b u q⟩
  free := fun b u q n _ => by rw [upd_ne (Nat.ne_of_lt (Nat.lt_of_lt_of_le (Heap.lt_size q) hp))]; exact n
  there := fun b u q _ => ⟨u, k b u q⟩
  tups := fun b xs q => by rw [upd_ne (ne_of_none q hn)]; exact q
  frzs := fun b u xs q => by rw [upd_ne (ne_of_none q hn)]; exact q
  tbls := fun b ps q => ⟨#[], by rw [upd_ne (ne_of_none q hn), q]; simp⟩
theorem Un.write (mu : Mut (H x)) (he : e = x ∨ H e = some (.own x)) (k : ∀ b u, b ≠ e → h.get? b = some u → h'.get? b = some u) (heo : ∃ u, h'.get? e = some u) : Un fs ex H (upd H x o) h h' := by
  have hx : ∀ b, H b = none → b ≠ x := fun b n z => by subst z; rw [n] at mu; exact mu
  have hb : ∀ b, H b = none → b ≠ e := fun b n z => by
    subst z
    rcases he with r | r
    · exact hx b n r
    · rw [n] at r; cases r
  have hm : ∀ b u, H b = some u → ¬ Mut (some u) → b ≠ x := fun b u q nm z => by subst z; rw [q] at mu; exact nm mu
  refine ⟨fun b u q n _ _ => k b u (hb b n) q, fun b u q n _ _ => ⟨u.slots, k b u (hb b n) q⟩, fun b u q n _ => by rw [upd_ne (hx b n)]; exact n, fun b u q _ => ?_,
    fun b xs q => by rw [upd_ne (hm b _ q fun z => z)]; exact q, fun b u xs q => by rw [upd_ne (hm b _ q fun z => z)]; exact q, fun b ps q => ⟨#[], by rw [upd_ne (hm b _ q fun z => z), q]; simp⟩⟩
  by_cases hbe : b = e
  · subst hbe; exact heo
  · exact ⟨u, k b u hbe q⟩
end

def trk (h : Heap) (H : Hp) : List Addr := (List.range h.objs.size).filter fun a => (H a).isSome
def hidT (h : Heap) (H : Hp) : Heap := PySem.W.hideAll h (trk h H)
theorem hidT_size (h : Heap) (H : Hp) : (hidT h H).objs.size = h.objs.size := PySem.W.hideAll_size _ _
theorem hidT_get {h : Heap} {H : Hp} {b : Addr} {o : Obj} (e : h.get? b = some o) (n : H b = none) : (hidT h H).get? b = some o :=
  PySem.W.hideAll_get _ e fun hm => by
    have q : (H b).isSome = true := (List.mem_filter.mp hm).2
    rw [n] at q; simp at q
theorem of_hidT {h : Heap} {H : Hp} {b : Addr} {o : Obj} (e : (hidT h H).get? b = some o) : h.get? b = some o ∧ H b = none := by
  have e' : h.get? b = some o := PySem.W.of_hideAll (trk h H) e
  refine ⟨e', ?_⟩
  cases q : H b with
  | none => rfl
  | some x =>
    have hm : b ∈ trk h H := List.mem_filter.mpr ⟨List.mem_range.mpr (Heap.lt_size e'), by simp [q]⟩
    have z : (hidT h H).get? b = none := PySem.W.hideAll_none (trk h H) hm
    rw [z] at e; cases e

def allNews (g h : Heap) (L : Addr) : List (Addr × Obj) := (List.range h.objs.size).filterMap fun a => if a = L ∨ (g.get? a).isSome = true then none else (h.get? a).map fun o => (a, o)
def rest (g h : Heap) (L d : Addr) : List (Addr × Obj) := (allNews g h L).filter fun p => decide (p.1 ≠ d)
end L2

namespace L2
open PySem PySem.Spec PyProof.Rows

/-- the module's facts, over the base: the heap at the law's entry without what is tracked there -/
structure Mod (K : PySem.W.Frag) (mg : Str → Option Value) (base : Heap) : Prop where
  kin : K.In base
  glob : base.Ns mainGlobals mg
  blt : ∃ mb, base.Ns builtinsNs mb ∧ ∀ x : Str, x ≠ "__name__" → mb x = bootBuiltins x
  nolimit : base.NoLimit

/-- the context: a def's body (or a comprehension's block) running. base: fixed through the whole law; s₀, H₀: the entry; outer: the frames whose slots others may change (a def's callers); stack: all frames that run;
   ex: iterators that were made ahead of the entry and are walked here (a comprehension's); fn: the names whose cells were made at the entry (a def: all; a comprehension's block: its own); calm: not within an except suite; pn: pins that every state bears; xe: what is wanted of an exception that leaves the code -/
structure Cx where
  prog : Program
  w : World
  K : PySem.W.Frag
  mg : Str → Option Value
  base : Heap
  A : Around
  N : List Str
  s₀ : Shared
  H₀ : Hp
  env : Env
  outer : List Env
  stack : List Env
  ex : List Addr
  fn : Str → Bool
  calm : Bool
  pn : List (Addr × Obj)
  xe : Value → Shared → Prop
/-- the callers' frames -/
def frs (l : List Env) : List Addr := l.filterMap (·.frame)
abbrev Cx.fs (X : Cx) : List Addr := frs X.outer

def Vis (sc : Scope) (x : Str) : Prop := sc.names.lookup x = some .local ∨ sc.names.lookup x = some .cell ∨ sc.names.lookup x = some .free
def Loc (sc : Scope) (x : Str) : Prop := sc.names.lookup x = some .local ∨ sc.names.lookup x = some .cell
def Look (env : Env) (h : Heap) (m : Str → Option Value) (x : Str) (u : Value) : Prop :=
  (env.kindOf x = some .local ∧ m x = some u) ∨ ((env.kindOf x = some .cell ∨ env.kindOf x = some .free) ∧ ∃ c, env.cells.lookup x = some c ∧ h.IsCell c (some u))

structure Cx.Ok (X : Cx) : Prop where
  mod : Mod X.K X.mg X.base
  kind : X.env.scope.kind = .function
  glob : X.env.globals = mainGlobals
  blt : X.env.builtins = builtinsNs
  above : X.s₀.heap.objs.size ≤ X.env.locals
  inj : ∀ x y c, X.env.cells.lookup x = some c → X.env.cells.lookup y = some c → x = y
  has : ∀ x, (X.env.kindOf x = some .cell ∨ X.env.kindOf x = some .free) → ∃ c, X.env.cells.lookup x = some c
  cab : ∀ x c, X.fn x = true → X.env.cells.lookup x = some c → X.s₀.heap.objs.size ≤ c
  hd : X.calm = true → X.A.handled = none
  frames : X.A.frames = some X.stack
  stk : X.stack = X.outer ∨ (X.stack = X.env :: X.outer ∧ X.env.frame = some X.env.locals)
  exf : ∀ b ∈ X.ex, b ≠ X.env.locals ∧ ∀ x c, X.env.cells.lookup x = some c → c ≠ b
  bs : ∀ b o, X.base.get? b = some o → X.s₀.heap.get? b = some o ∧ X.H₀ b = none
  bsz : X.base.objs.size ≤ X.s₀.heap.objs.size
  noex : ∀ b o, X.base.get? b = some o → b ∉ X.ex
  exfs : ∀ b ∈ X.ex, b ∉ X.fs
  funs : X.s₀.heap.FunFrames X.base X.outer
  frf : ∀ b ∈ X.fs, X.H₀ b = none

structure Inv (X : Cx) (pins : List (Addr × Obj)) (σ : List (Option V)) (H : Hp) (s : Shared) : Prop where
  ok : X.Ok
  os : s.os = X.s₀.os
  bare : AllBare s.gens
  base : Un X.fs X.ex X.H₀ H X.s₀.heap s.heap
  loc : ∃ m, s.heap.Ns X.env.locals m ∧ ∀ (i : Nat) (x : Str) (v : V), X.N[i]? = some x → σ[i]? = some (some v) → Vis X.env.scope x → ∃ u, RelV v u ∧ Look X.env s.heap m x u
  cell : ∀ x c, X.env.cells.lookup x = some c → ∃ v, s.heap.IsCell c v
  free : H X.env.locals = none
  freeC : ∀ x c, X.env.cells.lookup x = some c → H c = none
  pin : ∀ p ∈ X.pn ++ pins, s.heap.get? p.1 = some p.2 ∧ H p.1 = none ∧ p.1 ≠ X.env.locals ∧ p.1 ∉ X.fs ∧ ∀ v, p.2.data ≠ .cell v
  hok : HOk X.prog X.w H s.heap
  len : σ.length = X.N.length

section
variable {X : Cx} {pins : List (Addr × Obj)} {σ : List (Option V)} {H H' : Hp} {s : Shared} {h' : Heap}

theorem Cx.Ok.nofr (ok : X.Ok) {b : Addr} {o : Obj} (e : X.base.get? b = some o) : b ∉ X.fs := fun hb => by
  have := (ok.funs.mem hb).1
  rw [e] at this; cases this
theorem Inv.bs (I : Inv X pins σ H s) : ∀ b o, X.base.get? b = some o → s.heap.get? b = some o ∧ H b = none := fun b o e =>
  ⟨I.base.keep b o (I.ok.bs b o e).1 (I.ok.bs b o e).2 (I.ok.nofr e) (I.ok.noex b o e), I.base.free b o (I.ok.bs b o e).1 (I.ok.bs b o e).2 (I.ok.noex b o e)⟩
theorem Inv.bk (I : Inv X pins σ H s) : ∀ b o, X.base.get? b = some o → s.heap.get? b = some o := fun b o e => (I.bs b o e).1
theorem Inv.mod (I : Inv X pins σ H s) : Mod X.K X.mg X.base := I.ok.mod
theorem Inv.kIn (I : Inv X pins σ H s) : X.K.In s.heap := I.ok.mod.kin.keeps I.bk
theorem Inv.lt (I : Inv X pins σ H s) : X.env.locals < s.heap.objs.size := let ⟨_, hn, _⟩ := I.loc; hn.lt
theorem Inv.sz (I : Inv X pins σ H s) : X.s₀.heap.objs.size ≤ s.heap.objs.size := Nat.le_trans I.ok.above (Nat.le_of_lt I.lt)
theorem Inv.nofs (I : Inv X pins σ H s) {a : Addr} (h : s.heap.objs.size ≤ a) : a ∉ X.fs := fun hb => by
  obtain ⟨_, o, ho, _⟩ := I.ok.funs.mem hb
  exact absurd (Nat.lt_of_lt_of_le (Heap.lt_size ho) (Nat.le_trans I.sz h)) (Nat.lt_irrefl _)
theorem Inv.cne (I : Inv X pins σ H s) : ∀ x c, X.env.cells.lookup x = some c → c ≠ X.env.locals := fun x c e z => by
  obtain ⟨v, o, ho, hd⟩ := I.cell x c e
  obtain ⟨m, ⟨o', es, ep, ho', hd', _⟩, _⟩ := I.loc
  rw [z, ho'] at ho; cases ho; rw [hd'] at hd; cases hd
theorem Inv.funs (I : Inv X pins σ H s) : s.heap.FunFrames X.base X.outer := by
  have all : ∀ (l : List Env), (∀ b ∈ frs l, b ∈ X.fs) → X.s₀.heap.FunFrames X.base l → s.heap.FunFrames X.base l := by
    intro l
    induction l with
    | nil => intro _ _; trivial
    | cons env r ih =>
      intro hs hl
      obtain ⟨hk, ⟨L, o, hf, hn, ho, hd⟩, hr⟩ := hl
      have hL : L ∈ X.fs := hs L (by unfold frs; rw [List.filterMap_cons, hf]; exact List.mem_cons_self)
      obtain ⟨sl, e⟩ := I.base.slot L o ho (I.ok.frf L hL) hL fun z => I.ok.exfs L z hL
      exact ⟨hk, ⟨L, _, hf, hn, e, hd⟩, ih (fun b hb => hs b (by unfold frs; rw [List.filterMap_cons, hf]; exact List.mem_cons_of_mem _ hb)) hr⟩
  exact all X.outer (fun _ hb => hb) I.ok.funs

/-- the frames that run, for a call -/
theorem Inv.stack (I : Inv X pins σ H s) : s.heap.FunFrames X.base X.stack := by
  rcases I.ok.stk with e | ⟨e, hf⟩
  · rw [e]; exact I.funs
  · rw [e]
    obtain ⟨m, hn, _⟩ := I.loc
    refine .cons (by rw [I.ok.kind]; decide) hf hn ?_ I.funs
    exact Heap.get?_none_of_le (Nat.le_trans I.ok.bsz I.ok.above)
theorem Inv.stkSub (I : Inv X pins σ H s) : ∀ b ∈ frs X.stack, b ∈ X.env.locals :: X.fs := fun b hb => by
  rcases I.ok.stk with e | ⟨e, hf⟩
  · rw [e] at hb; exact List.mem_cons_of_mem _ hb
  · rw [e] at hb
    unfold frs at hb
    rw [List.filterMap_cons, hf] at hb
    exact hb
theorem Inv.stkFree (I : Inv X pins σ H s) : ∀ b ∈ frs X.stack, H b = none := fun b hb => by
  rcases List.mem_cons.mp (I.stkSub b hb) with e | hb
  · rw [e]; exact I.free
  · obtain ⟨_, o, ho, _⟩ := I.ok.funs.mem hb
    exact I.base.free b o ho (I.ok.frf b hb) fun z => I.ok.exfs b z hb

/-- THE STEP: the untracked objects but the frame and the records at ch are kept (the callers' frames up to slots), the frame's map is kept, the new abstract heap is held -/
theorem Inv.step {g' : Array GenState} {t' : Nat} {d' : Drawn} {ch : List Addr} (I : Inv X pins σ H s)
    (hch : ∀ b ∈ ch, (b ∈ X.ex ∨ X.s₀.heap.objs.size ≤ b) ∧ b ≠ X.env.locals ∧ (∀ x c, X.env.cells.lookup x = some c → c ≠ b) ∧ ∀ p ∈ X.pn ++ pins, p.1 ≠ b)
    (keep : ∀ b o, b ≠ X.env.locals → b ∉ X.fs → b ∉ ch → s.heap.get? b = some o → H b = none → h'.get? b = some o)
    (slot : ∀ b o, b ≠ X.env.locals → b ∈ X.fs → b ∉ ch → s.heap.get? b = some o → H b = none → ∃ sl, h'.get? b = some { o with slots := sl }) (free : ∀ b o, b ∉ ch → s.heap.get? b = some o → H b = none → H' b = none)
    (there : ∀ b o, b ∉ ch → s.heap.get? b = some o → ∃ o', h'.get? b = some o')
    (tups : ∀ b xs, H b = some (.tup xs) → H' b = some (.tup xs)) (frzs : ∀ b o u, H b = some (.frz o u) → H' b = some (.frz o u)) (tbls : ∀ b ps, H b = some (.tbl ps) → ∃ more, H' b = some (.tbl (ps ++ more)))
    (ns : ∀ m, s.heap.Ns X.env.locals m → h'.Ns X.env.locals m) (hok : HOk X.prog X.w H' h') (hg : AllBare g') :
    Inv X pins σ H' { s with heap := h', gens := g', drawn := d', toks := t' } := by
  have neL : ∀ b o, X.s₀.heap.get? b = some o → b ≠ X.env.locals := fun b o e => Nat.ne_of_lt (Nat.lt_of_lt_of_le (Heap.lt_size e) I.ok.above)
  have neC : ∀ b o, X.s₀.heap.get? b = some o → b ∉ X.ex → b ∉ ch := fun b o e hx hb => by
    rcases (hch b hb).1 with z | z
    · exact hx z
    · exact absurd (Nat.lt_of_lt_of_le (Heap.lt_size e) z) (Nat.lt_irrefl _)
  have cellK : ∀ x c, X.env.cells.lookup x = some c → ∀ v, s.heap.IsCell c v → h'.IsCell c v := fun x c e v ⟨o, ho, hd⟩ => by
    have nch : c ∉ ch := fun z => (hch c z).2.2.1 x c e rfl
    by_cases hc : c ∈ X.fs
    · obtain ⟨sl, q⟩ := slot c o (I.cne x c e) hc nch ho (I.freeC x c e)
      exact ⟨_, q, hd⟩
    · exact ⟨o, keep c o (I.cne x c e) hc nch ho (I.freeC x c e), hd⟩
  refine ⟨I.ok, I.os, hg, ⟨fun b o e n hb hx => ?_, fun b o e n hb hx => ?_, fun b o e n hx => ?_, fun b o e hx => ?_, fun b xs e => tups b xs (I.base.tups b xs e), fun b o xs e => frzs b o xs (I.base.frzs b o xs e), fun b ps e => ?_⟩, ?_, fun x c e => ?_, ?_, fun x c e => ?_, fun p hp => ?_, hok, I.len⟩
  · exact keep b o (neL b o e) hb (neC b o e hx) (I.base.keep b o e n hb hx) (I.base.free b o e n hx)
  · obtain ⟨sl, e1⟩ := I.base.slot b o e n hb hx
    obtain ⟨sl', e2⟩ := slot b _ (neL b o e) hb (neC b o e hx) e1 (I.base.free b o e n hx)
    exact ⟨sl', e2⟩
  · obtain ⟨o', e1⟩ := I.base.there b o e hx
    exact free b o' (neC b o e hx) e1 (I.base.free b o e n hx)
  · obtain ⟨o', e1⟩ := I.base.there b o e hx
    exact there b o' (neC b o e hx) e1
  · obtain ⟨m1, e1⟩ := I.base.tbls b ps e
    obtain ⟨m2, e2⟩ := tbls b _ e1
    exact ⟨m1 ++ m2, by rw [e2, Array.append_assoc]⟩
  · obtain ⟨m, hn, hl⟩ := I.loc
    refine ⟨m, ns m hn, fun i x v e1 e2 e3 => ?_⟩
    obtain ⟨u, r, l⟩ := hl i x v e1 e2 e3
    refine ⟨u, r, ?_⟩
    rcases l with l | ⟨k, c, e, z⟩
    · exact .inl l
    · exact .inr ⟨k, c, e, cellK x c e _ z⟩
  · obtain ⟨v, z⟩ := I.cell x c e
    exact ⟨v, cellK x c e v z⟩
  · obtain ⟨m, ⟨o, _, _, ho, _⟩, _⟩ := I.loc
    exact free _ o (fun z => (hch _ z).2.1 rfl) ho I.free
  · obtain ⟨v, o, ho, hd⟩ := I.cell x c e
    exact free c o (fun z => (hch c z).2.2.1 x c e rfl) ho (I.freeC x c e)
  · obtain ⟨e, n, ne, nf, d⟩ := I.pin p hp
    have nch : p.1 ∉ ch := fun z => (hch p.1 z).2.2.2 p hp rfl
    exact ⟨keep p.1 p.2 ne nf nch e n, free p.1 p.2 nch e n, ne, nf, d⟩
/-- .. where the frame's own object is kept too -/
theorem Inv.un {t' : Nat} (I : Inv X pins σ H s) (u : Un X.fs [] H H' s.heap h') (hok : HOk X.prog X.w H' h') : Inv X pins σ H' { s with heap := h', toks := t' } := by
  obtain ⟨m, ⟨o, es, ep, ho, r⟩, _⟩ := id I.loc
  obtain ⟨sl, hL⟩ := u.any ho I.free (by simp)
  exact I.step (g' := s.gens) (d' := s.drawn) (ch := []) (fun _ z => nomatch z) (fun b o _ hb _ e n => u.keep b o e n hb (by simp)) (fun b o _ hb _ e n => u.slot b o e n hb (by simp)) (fun b o _ e n => u.free b o e n (by simp)) (fun b o _ e => u.there b o e (by simp)) u.tups u.frzs u.tbls (fun m' hm => by
    obtain ⟨o', es', ep', ho', r'⟩ := hm
    rw [ho] at ho'; cases ho'
    exact ⟨_, es', ep', hL, r'⟩) hok I.bare
/-- behind a call (or a comprehension's block): the slots of this frame may have changed too, the records at ch may have turned -/
theorem Inv.call {g' : Array GenState} {t' : Nat} {d' : Drawn} {ch : List Addr} (I : Inv X pins σ H s) (u : Un (frs X.stack) ch H H' s.heap h') (hok : HOk X.prog X.w H' h') (hg : AllBare g')
    (hch : ∀ b ∈ ch, (b ∈ X.ex ∨ X.s₀.heap.objs.size ≤ b) ∧ b ≠ X.env.locals ∧ (∀ x c, X.env.cells.lookup x = some c → c ≠ b) ∧ ∀ p ∈ X.pn ++ pins, p.1 ≠ b) :
    Inv X pins σ H' { s with heap := h', gens := g', drawn := d', toks := t' } := by
  obtain ⟨m, ⟨o, es, ep, ho, r⟩, _⟩ := id I.loc
  obtain ⟨sl, hL⟩ := u.any ho I.free fun z => (hch _ z).2.1 rfl
  exact I.step (ch := ch) hch (fun b o hL hb hc e n => u.keep b o e n (fun z => (List.mem_cons.mp (I.stkSub b z)).elim hL hb) hc) (fun b o _ _ hc e n => u.any e n hc) (fun b o hc e n => u.free b o e n hc) (fun b o hc e => u.there b o e hc) u.tups u.frzs u.tbls (fun m' hm => by
    obtain ⟨o', es', ep', ho', r'⟩ := hm
    rw [ho] at ho'; cases ho'
    exact ⟨_, es', ep', hL, r'⟩) hok hg
/-- an untracked record of ours (an iterator) has turned -/
theorem Inv.turned {t' : Nat} {it : Addr} (I : Inv X pins σ H s) (k : ∀ b o, b ≠ it → s.heap.get? b = some o → h'.get? b = some o) (hn : H it = none) (hL : it ≠ X.env.locals)
    (h1 : it ∈ X.ex ∨ X.s₀.heap.objs.size ≤ it) (h2 : ∀ x c, X.env.cells.lookup x = some c → c ≠ it) (h3 : ∀ p ∈ X.pn ++ pins, p.1 ≠ it) : Inv X pins σ H { s with heap := h', toks := t' } := by
  have nit : ∀ b u, H b = some u → b ≠ it := fun b u e z => by rw [z, hn] at e; cases e
  refine I.step (g' := s.gens) (d' := s.drawn) (ch := [it]) (fun b hb => ?_) (fun b o _ _ hc e _ => k b o (fun z => hc (by simp [z])) e) (fun b o _ _ hc e _ => ⟨o.slots, k b o (fun z => hc (by simp [z])) e⟩) (fun _ _ _ _ n => n)
    (fun b o hc e => ⟨o, k b o (fun z => hc (by simp [z])) e⟩) (fun _ _ e => e) (fun _ _ _ e => e) (fun b ps e => ⟨#[], by rw [e]; simp⟩) (fun m hm => ?_) (fun b u e => ?_) I.bare
  · have e : b = it := by simpa using hb
    subst e
    exact ⟨h1, hL, h2, h3⟩
  · obtain ⟨o, es, ep, ho, r⟩ := hm
    exact ⟨o, es, ep, k _ o (Ne.symm hL) ho, r⟩
  · refine (I.hok b u e).stay (fun c v hc q => k c v ?_ q) (fun _ q => q) fun _ _ q => q
    rcases hc with z | z
    · rw [z]; exact nit b u e
    · exact nit c _ z
theorem Inv.tok (I : Inv X pins σ H s) (t : Nat) : Inv X pins σ H { s with toks := t } := I.un (h' := s.heap) (t' := t) Un.refl I.hok
/-- all objects kept -/
theorem Inv.kept {t' : Nat} (I : Inv X pins σ H s) (k : ∀ b u, s.heap.get? b = some u → h'.get? b = some u) : Inv X pins σ H { s with heap := h', toks := t' } := I.un (Un.kept k) (I.hok.kept k)
/-- a new object laid and tracked -/
theorem Inv.laid {a : Addr} {o : HO} {t' : Nat} (I : Inv X pins σ H s) (k : ∀ b u, s.heap.get? b = some u → h'.get? b = some u) (hp : s.heap.objs.size ≤ a) (new : ObjOk X.prog X.w (upd H a o) h' a o) :
    Inv X pins σ (upd H a o) { s with heap := h', toks := t' } := I.un (Un.laid k hp (I.hok.fresh hp)) (I.hok.laid k hp new)
/-- an object written -/
theorem Inv.write {x e : Addr} {o : HO} {t' : Nat} (I : Inv X pins σ H s) (mu : Mut (H x)) (he : e = x ∨ H e = some (.own x)) (k : ∀ b u, b ≠ e → s.heap.get? b = some u → h'.get? b = some u) (heo : ∃ u, h'.get? e = some u)
    (new : ObjOk X.prog X.w (upd H x o) h' x o) : Inv X pins σ (upd H x o) { s with heap := h', toks := t' } := I.un (Un.write mu he k heo) (I.hok.write mu he k heo new)
/-- forgetting slots, pins -/
theorem Inv.weak {σ' : List (Option V)} (I : Inv X pins σ H s) (hl : σ'.length = σ.length) (w : ∀ (i : Nat) v, σ'[i]? = some (some v) → σ[i]? = some (some v)) : Inv X pins σ' H s :=
  ⟨I.ok, I.os, I.bare, I.base, let ⟨m, hn, hl'⟩ := I.loc; ⟨m, hn, fun i x v e1 e2 e3 => hl' i x v e1 (w i v e2) e3⟩, I.cell, I.free, I.freeC, I.pin, I.hok, hl.trans I.len⟩
theorem Inv.pins_of {pins' : List (Addr × Obj)} (I : Inv X pins σ H s) (h : ∀ p ∈ pins', s.heap.get? p.1 = some p.2 ∧ H p.1 = none ∧ p.1 ≠ X.env.locals ∧ p.1 ∉ X.fs ∧ ∀ v, p.2.data ≠ .cell v) : Inv X pins' σ H s :=
  ⟨I.ok, I.os, I.bare, I.base, I.loc, I.cell, I.free, I.freeC, fun p hp => (List.mem_append.mp hp).elim (fun z => I.pin p (List.mem_append_left _ z)) (h p), I.hok, I.len⟩

theorem nodup_ix {N : List Str} (hN : N.Nodup) {i j : Nat} {x : Str} (a : N[i]? = some x) (b : N[j]? = some x) : i = j := by
  obtain ⟨h1, e1⟩ := List.getElem?_eq_some_iff.mp a
  obtain ⟨h2, e2⟩ := List.getElem?_eq_some_iff.mp b
  exact (List.getElem_inj hN).mp (e1.trans e2.symm)

/-- a name is stored; what changed -/
theorem store_ok2 {M : Model} {A : Around} {E : Value → Shared → Prop} {i : Nat} {x : Str} {v : V} {u : Value} {Q : Unit → Shared → Prop} (I : Inv X pins σ H s) (hN : X.N.Nodup) (hi : X.N[i]? = some x) (hx : Loc X.env.scope x) (r : RelV v u)
    (h : ∀ s', Inv X pins (σ.set i (some v)) H s' → (∃ a, Heap.SameBut a s.heap s'.heap ∧ (a = X.env.locals ∨ X.env.cells.lookup x = some a)) → Q () s') (hf : X.fn x = true ∨ X.env.scope.names.lookup x = some .local := by first | exact .inl rfl | exact .inr rfl | assumption) : wpAny M A (storeName X.env x u) Q E s := by
  obtain ⟨m, hn, hl⟩ := id I.loc
  have hcls : (X.env.scope.kind == .class || (X.env.scope.kind == .module && X.env.locals != X.env.globals)) = false := by rw [I.ok.kind]; rfl
  have hiσ : i < σ.length := by rw [I.len]; exact (List.getElem?_eq_some_iff.mp hi).1
  have cne := I.cne
  have tracked : ∀ {a : Addr} {h' : Heap}, (∃ o, s.heap.get? a = some o ∧ H a = none) → Heap.SameBut a s.heap h' → HOk X.prog X.w H h' := fun {a h'} ha hs b ob e => by
    obtain ⟨_, _, hfree⟩ := ha
    refine (I.hok b ob e).stay (fun c w' hc q => (hs.2 c ?_).trans q) (fun _ q => q) fun _ _ q => q
    rintro rfl
    rcases hc with rfl | hc
    · rw [hfree] at e; cases e
    · rw [hfree] at hc; cases hc
  rcases hx with hk | hk
  · refine wpAny_storeName_local hk hn (fun h' hn' hs => ?_) hcls
    obtain ⟨oL, _, _, hoL, _⟩ := id hn
    refine h _ ⟨I.ok, I.os, I.bare, ⟨fun b o e n hb hx => ?_, fun b o e n hb hx => ?_, I.base.free, fun b o e hx => ?_, I.base.tups, I.base.frzs, I.base.tbls⟩, ⟨_, hn', fun j y v' e1 e2 e3 => ?_⟩, fun y c e => ?_, I.free, I.freeC, fun p hp => ?_, tracked ⟨oL, hoL, I.free⟩ hs, by simpa using I.len⟩ ⟨_, hs, .inl rfl⟩
    · exact (hs.2 b (Nat.ne_of_lt (Nat.lt_of_lt_of_le (Heap.lt_size e) I.ok.above))).trans (I.base.keep b o e n hb hx)
    · obtain ⟨sl, e1⟩ := I.base.slot b o e n hb hx
      exact ⟨sl, (hs.2 b (Nat.ne_of_lt (Nat.lt_of_lt_of_le (Heap.lt_size e) I.ok.above))).trans e1⟩
    · obtain ⟨o', e1⟩ := I.base.there b o e hx
      exact ⟨o', (hs.2 b (Nat.ne_of_lt (Nat.lt_of_lt_of_le (Heap.lt_size e) I.ok.above))).trans e1⟩
    · by_cases hj : j = i
      · subst hj
        rw [hi] at e1; cases e1
        rw [List.getElem?_set_self hiσ] at e2
        cases e2
        exact ⟨u, r, .inl ⟨hk, by simp⟩⟩
      · rw [List.getElem?_set_ne (Ne.symm hj)] at e2
        obtain ⟨u', r', q⟩ := hl j y v' e1 e2 e3
        refine ⟨u', r', ?_⟩
        rcases q with ⟨k, e⟩ | ⟨k, c, e, z⟩
        · refine .inl ⟨k, ?_⟩
          have : y ≠ x := fun e => hj (nodup_ix hN e1 (e ▸ hi))
          simp [this, e]
        · exact .inr ⟨k, c, e, z.sameBut hs (cne y c e)⟩
    · obtain ⟨w', z⟩ := I.cell y c e
      exact ⟨w', z.sameBut hs (cne y c e)⟩
    · obtain ⟨e, n, ne, nf, d⟩ := I.pin p hp
      exact ⟨(hs.2 p.1 ne).trans e, n, ne, nf, d⟩
  · have hfn : X.fn x = true := by
      rcases hf with z | z
      · exact z
      · rw [z] at hk; cases hk
    obtain ⟨c, hc⟩ := I.ok.has x (.inl hk)
    obtain ⟨w', z⟩ := I.cell x c hc
    refine wpAny_storeName_cell I.ok.kind hk hc z (fun h' hc' hs => ?_)
    obtain ⟨oc, hoc, hocd⟩ := id z
    refine h { s with heap := h' } ⟨I.ok, I.os, I.bare, ⟨fun b o e n hb hx => ?_, fun b o e n hb hx => ?_, I.base.free, fun b o e hx => ?_, I.base.tups, I.base.frzs, I.base.tbls⟩, ⟨m, hn.sameBut hs (Ne.symm (cne x c hc)), fun j y v' e1 e2 e3 => ?_⟩, fun y c' e => ?_, I.free, I.freeC, fun p hp => ?_, tracked ⟨oc, hoc, I.freeC x c hc⟩ hs, by simpa using I.len⟩ ⟨c, hs, .inr hc⟩
    · exact (hs.2 b (Nat.ne_of_lt (Nat.lt_of_lt_of_le (Heap.lt_size e) (I.ok.cab x c hfn hc)))).trans (I.base.keep b o e n hb hx)
    · obtain ⟨sl, e1⟩ := I.base.slot b o e n hb hx
      exact ⟨sl, (hs.2 b (Nat.ne_of_lt (Nat.lt_of_lt_of_le (Heap.lt_size e) (I.ok.cab x c hfn hc)))).trans e1⟩
    · obtain ⟨o', e1⟩ := I.base.there b o e hx
      exact ⟨o', (hs.2 b (Nat.ne_of_lt (Nat.lt_of_lt_of_le (Heap.lt_size e) (I.ok.cab x c hfn hc)))).trans e1⟩
    · by_cases hj : j = i
      · subst hj
        rw [hi] at e1; cases e1
        rw [List.getElem?_set_self hiσ] at e2
        cases e2
        exact ⟨u, r, .inr ⟨.inl hk, c, hc, hc'⟩⟩
      · rw [List.getElem?_set_ne (Ne.symm hj)] at e2
        obtain ⟨u', r', q⟩ := hl j y v' e1 e2 e3
        refine ⟨u', r', ?_⟩
        rcases q with q | ⟨k, c', e, z'⟩
        · exact .inl q
        · refine .inr ⟨k, c', e, z'.sameBut hs ?_⟩
          rintro rfl
          exact hj (nodup_ix hN e1 (I.ok.inj _ _ _ e hc ▸ hi))
    · by_cases hcc : c' = c
      · subst hcc; exact ⟨_, hc'⟩
      · obtain ⟨w2, z2⟩ := I.cell y c' e
        exact ⟨w2, z2.sameBut hs hcc⟩
    · obtain ⟨e, n, ne, nf, d⟩ := I.pin p hp
      refine ⟨(hs.2 p.1 ?_).trans e, n, ne, nf, d⟩
      intro q
      rw [q, hoc] at e
      have q' : oc = p.2 := Option.some.inj e
      exact d w' (by rw [← q']; exact hocd)
theorem store_ok {M : Model} {A : Around} {E : Value → Shared → Prop} {i : Nat} {x : Str} {v : V} {u : Value} {Q : Unit → Shared → Prop} (I : Inv X pins σ H s) (hN : X.N.Nodup) (hi : X.N[i]? = some x) (hx : Loc X.env.scope x) (r : RelV v u)
    (h : ∀ s', Inv X pins (σ.set i (some v)) H s' → Q () s') (hf : X.fn x = true ∨ X.env.scope.names.lookup x = some .local := by first | exact .inl rfl | exact .inr rfl | assumption) : wpAny M A (storeName X.env x u) Q E s :=
  store_ok2 I hN hi hx r (fun s' I' _ => h s' I') hf
/-- behind a call or a block, the state as it is -/
theorem Inv.call' {s' : Shared} {ch : List Addr} (I : Inv X pins σ H s) (ho : s'.os = s.os) (u : Un (frs X.stack) ch H H' s.heap s'.heap) (hok : HOk X.prog X.w H' s'.heap) (hg : AllBare s'.gens)
    (hch : ∀ b ∈ ch, (b ∈ X.ex ∨ X.s₀.heap.objs.size ≤ b) ∧ b ≠ X.env.locals ∧ (∀ x c, X.env.cells.lookup x = some c → c ≠ b) ∧ ∀ p ∈ X.pn ++ pins, p.1 ≠ b) : Inv X pins σ H' s' := by
  obtain ⟨h', g', d', t', o'⟩ := s'
  have e : o' = s.os := ho
  subst e
  exact I.call (g' := g') (t' := t') (d' := d') u hok hg hch
end

/-- an exception: its class, its own dict's address (where it has one), the abstract heap behind it -/
abbrev XK := Value → Option Addr → Hp → Prop
abbrev St := List (Option V)
abbrev VK := V → Hp → Prop
/-- an expression's reading; a test's; an argument list's -/
abbrev TE := St → Hp → VK → Prop
abbrev TT := St → Hp → (Bool → Hp → Prop) → Prop
abbrev TA := St → Hp → (List V → Hp → Prop) → Prop
/-- what is wanted behind a statement -/
structure Ends where
  nx : St → Hp → Prop
  rt : VK
  bk : St → Hp → Prop := fun _ _ => False
  ct : St → Hp → Prop := fun _ _ => False
abbrev TS := Ends → St → Hp → Prop

def EP (X : Cx) (pins : List (Addr × Obj)) (σ : St) (Q : VK) (u : Value) (s' : Shared) : Prop := ∃ v H', Inv X pins σ H' s' ∧ RelV v u ∧ Q v H'
def TP (X : Cx) (pins : List (Addr × Obj)) (σ : St) (Q : Bool → Hp → Prop) (b : Bool) (s' : Shared) : Prop := ∃ H', Inv X pins σ H' s' ∧ Q b H'
def AP (X : Cx) (pins : List (Addr × Obj)) (σ : St) (Q : List V → Hp → Prop) (us : List Value) (s' : Shared) : Prop := ∃ vs H', Inv X pins σ H' s' ∧ Vals vs us ∧ Q vs H'
def SP (X : Cx) (pins : List (Addr × Obj)) (D : Ends) (f : Flow) (s' : Shared) : Prop :=
  match f with
  | .next => ∃ σ' H', Inv X pins σ' H' s' ∧ D.nx σ' H'
  | .brk => ∃ σ' H', Inv X pins σ' H' s' ∧ D.bk σ' H'
  | .cont => ∃ σ' H', Inv X pins σ' H' s' ∧ D.ct σ' H'
  | .ret u => ∃ v σ' H', Inv X pins σ' H' s' ∧ RelV v u ∧ D.rt v H'

def PE (X : Cx) (e : Expr) (t : TE) : Prop :=
  ∀ (pins : List (Addr × Obj)) (s : Shared) (σ : St) (H : Hp) (Q : VK), Inv X pins σ H s → t σ H Q → wpAny (model X.prog X.w) X.A (eval e X.env) (EP X pins σ Q) X.xe s
def PT (X : Cx) (e : Expr) (t : TT) : Prop :=
  ∀ (pins : List (Addr × Obj)) (s : Shared) (σ : St) (H : Hp) (Q : Bool → Hp → Prop), Inv X pins σ H s → t σ H Q → wpAny (model X.prog X.w) X.A (isTrue e X.env (eval e X.env)) (TP X pins σ Q) X.xe s
/-- a test whatever its 'whole' is (and, or) -/
def PW (X : Cx) (e : Expr) (t : TT) : Prop :=
  ∀ (whole : Sem Value) (pins : List (Addr × Obj)) (s : Shared) (σ : St) (H : Hp) (Q : Bool → Hp → Prop), Inv X pins σ H s → t σ H Q → wpAny (model X.prog X.w) X.A (isTrue e X.env whole) (TP X pins σ Q) X.xe s
theorem PW.pt {X : Cx} {e : Expr} {t : TT} (h : PW X e t) : PT X e t := h _
/-- an argument list (no star), from the left -/
def PA (X : Cx) (es : List Expr) (t : TA) : Prop :=
  ∀ (pos : Pos) (pins : List (Addr × Obj)) (s : Shared) (σ : St) (H : Hp) (Q : List V → Hp → Prop), Inv X pins σ H s → t σ H Q → wpAny (model X.prog X.w) X.A (spliced (backTo pos (starEach es X.env))) (AP X pins σ Q) X.xe s
def PS (X : Cx) (st : Stmt) (t : TS) : Prop :=
  ∀ (pins : List (Addr × Obj)) (s : Shared) (σ : St) (H : Hp) (D : Ends), Inv X pins σ H s → t D σ H → wpAny (model X.prog X.w) X.A (exec st X.env) (SP X pins D) X.xe s
def PSs (X : Cx) (st : List Stmt) (t : TS) : Prop :=
  ∀ (pins : List (Addr × Obj)) (s : Shared) (σ : St) (H : Hp) (D : Ends), Inv X pins σ H s → t D σ H → wpAny (model X.prog X.w) X.A (execs st X.env) (SP X pins D) X.xe s
/-- weaken the end -/
theorem thn {α : Type} {t : Sem α} {Q Q' : α → Shared → Prop} {M : Model} {A : Around} {E : Value → Shared → Prop} {s : Shared} (h : wpAny M A t Q E s) (hQ : ∀ a s, Q a s → Q' a s) : wpAny M A t Q' E s := wpAny_mono h hQ fun _ _ x => x
end L2

namespace L2
open PySem PySem.Spec PyProof.Rows
section
variable {X : Cx}

def tVar (i : Nat) : TE := fun σ H Q => ∃ v, σ[i]? = some (some v) ∧ Q v H
def tC (v : V) : TE := fun _ H Q => Q v H
theorem pe_var {i : Nat} {x : Str} {pos : Pos} (hN : X.N[i]? = some x) (hv : Vis X.env.scope x) (hd : (x == ("__debug__" : Str)) = false := by decide) (hcd : (x == ("__classdict__" : Str)) = false := by decide) : PE X (.Name x pos) (tVar i) := by
  intro pins s σ H Q I h
  obtain ⟨v, e, h⟩ := h
  obtain ⟨m, hn, hl⟩ := I.loc
  obtain ⟨u, r, l⟩ := hl i x v hN e hv
  have fin : EP X pins σ Q u s := ⟨v, H, I, r, h⟩
  rcases l with ⟨hk, hm⟩ | ⟨hk, c, hc, hcell⟩
  · exact wpAny_Name (wpAny_loadName_local I.ok.kind hk hn hm fin) hd
  · rcases hk with hk | hk
    · exact wpAny_Name (wpAny_loadName_cell I.ok.kind hk hc hcell fin) hd
    · exact wpAny_Name (wpAny_loadName_free I.ok.kind hk hc hcell fin hcd) hd
theorem pe_int {i j pos} : PE X (.Constant (.int i) j pos) (tC (.int i)) := fun _ _ _ H _ I h => wpAny_Constant_int ⟨.int i, H, I.tok _, ⟨_, rfl⟩, h⟩
theorem pe_bl {b j pos} : PE X (.Constant (.bool b) j pos) (tC (.bl b)) := fun _ _ _ H _ I h => Constant_bool ⟨.bl b, H, I, rfl, h⟩
theorem pe_non {j pos} : PE X (.Constant .none j pos) (tC .non) := fun _ _ _ H _ I h => Constant_none ⟨.non, H, I, rfl, h⟩
theorem pe_str {x j pos} : PE X (.Constant (.str x) j pos) (tC (.str x)) := fun _ _ _ H _ I h => Calls.Constant_str ⟨.str x, H, I.tok _, ⟨_, rfl⟩, h⟩

/-- a global name of the def -/
def Gl (X : Cx) (x : Str) : Prop := X.env.kindOf x = some .globalImplicit
theorem ld_glob {E : Value → Shared → Prop} {pins : List (Addr × Obj)} {s : Shared} {σ : St} {H : Hp} {x : Str} {u : Value} {pos : Pos} {Q : Value → Shared → Prop} (I : Inv X pins σ H s) (hg : Gl X x) (hm : X.mg x = some u) (h : Q u s)
    (hd : (x == ("__debug__" : Str)) = false := by decide) : wpAny (model X.prog X.w) X.A (eval (.Name x pos) X.env) Q E s :=
  Calls.Name_function_global I.ok.kind hg (Calls.loadGlobal_global (by rw [I.ok.glob]; exact I.mod.glob.keeps I.bk) hm h) hd
theorem ld_blt {E : Value → Shared → Prop} {pins : List (Addr × Obj)} {s : Shared} {σ : St} {H : Hp} {x : Str} {u : Value} {pos : Pos} {Q : Value → Shared → Prop} (I : Inv X pins σ H s) (hg : Gl X x) (hm : X.mg x = none) (hv : bootBuiltins x = some u) (h : Q u s)
    (hn : x ≠ "__name__" := by decide) (hd : (x == ("__debug__" : Str)) = false := by decide) : wpAny (model X.prog X.w) X.A (eval (.Name x pos) X.env) Q E s := by
  obtain ⟨mb, h1, h2⟩ := I.mod.blt
  exact Calls.Name_function_global I.ok.kind hg (Calls.loadGlobal_builtin (by rw [I.ok.glob]; exact I.mod.glob.keeps I.bk) hm (by rw [I.ok.blt]; exact h1.keeps I.bk) ((h2 x hn).trans hv) h) hd
/-- a module's constant, a class, a function, as a value -/
theorem pe_glob {x : Str} {v : V} {u : Value} {pos : Pos} (hg : Gl X x) (hm : X.mg x = some u) (r : RelV v u) (hd : (x == ("__debug__" : Str)) = false := by decide) : PE X (.Name x pos) (tC v) :=
  fun _ _ _ H _ I h => ld_glob I hg hm ⟨v, H, I, r, h⟩ hd
theorem pe_bltn {x : Str} {v : V} {u : Value} {pos : Pos} (hg : Gl X x) (hm : X.mg x = none) (hv : bootBuiltins x = some u) (r : RelV v u) (hn : x ≠ "__name__" := by decide) (hd : (x == ("__debug__" : Str)) = false := by decide) : PE X (.Name x pos) (tC v) :=
  fun _ _ _ H _ I h => ld_blt I hg hm hv ⟨v, H, I, r, h⟩ hn hd

variable {a b : Expr} {ta tb : TE} {pos : Pos}
def PC (X : Cx) (op : CmpOp) (a b : Expr) (t : TE) : Prop :=
  ∀ (pins : List (Addr × Obj)) (s : Shared) (σ : St) (H : Hp) (Q : VK), Inv X pins σ H s → t σ H Q →
    wpAny (model X.prog X.w) X.A (eval a X.env) (fun v s₁ => wpAny (model X.prog X.w) X.A (eval b X.env) (fun u s₂ => wpAny (model X.prog X.w) X.A (compareOp op v u) (EP X pins σ Q) X.xe s₂) X.xe s₁) X.xe s
theorem nobehind (b : Expr) {op : CmpOp} (h : op ≠ .In) (h2 : op ≠ .NotIn) : behindInMarks op b = false := by
  have e1 : (op == CmpOp.In) = false := by cases op <;> first | rfl | exact absurd rfl h
  have e2 : (op == CmpOp.NotIn) = false := by cases op <;> first | rfl | exact absurd rfl h2
  cases b <;> simp [behindInMarks, e1, e2]
/-- is None -/
def tIsN (ta : TE) : TE := fun σ H Q => ta σ H fun x H1 => Q (.bl (decide (x = .non))) H1
def tNotN (ta : TE) : TE := fun σ H Q => ta σ H fun x H1 => Q (.bl (!decide (x = .non))) H1
theorem RelV.none_iff {x : V} {v : Value} (r : RelV x v) : (v == Value.none) = decide (x = .non) := by
  cases x with
  | non => cases r; rfl
  | bl _ => cases r; rfl
  | int _ => obtain ⟨t, rfl⟩ := r; rfl
  | str _ => obtain ⟨t, rfl⟩ := r; rfl
  | byt _ => obtain ⟨t, rfl⟩ := r; rfl
  | flt _ => obtain ⟨t, rfl⟩ := r; rfl
  | ref _ => cases r; rfl
  | ty _ => cases r; rfl
theorem pc_isN {j pos'} (ha : PE X a ta) : PC X .Is a (.Constant .none j pos') (tIsN ta) := by
  intro pins s σ H Q I h
  refine thn (ha pins s σ H _ I h) fun v s1 ⟨x, H1, I1, r1, q1⟩ => ?_
  exact Constant_none (is_none_gen ⟨.bl _, H1, I1, by rw [r1.none_iff]; rfl, q1⟩)
/-- a comparison as a value, as a test -/
def tB (t : TE) : TT := fun σ H Q => t σ H fun x H1 => ∃ c, x = .bl c ∧ Q c H1
theorem pe_cmp {op : CmpOp} {t : TE} (h : PC X op a b t) (h1 : behindInMarks op b = false := by first | exact nobehind _ (by decide) (by decide) | rfl) : PE X (.Compare a [op] [b] pos) t := fun pins s σ H Q I hw => wpAny_Compare1 (h pins s σ H Q I hw) h1
theorem pt_cmp {op : CmpOp} {t : TE} (h : PC X op a b t) (h1 : behindInMarks op b = false := by first | exact nobehind _ (by decide) (by decide) | rfl) : PT X (.Compare a [op] [b] pos) (tB t) := by
  intro pins s σ H Q I hw
  refine wpAny_isTrue_Compare1 (thn (h pins s σ H _ I hw) fun v s1 h1 => thn h1 fun u s2 h2 => thn h2 fun c s3 ⟨x, H1, I1, r1, q1⟩ => ?_) h1
  obtain ⟨d, rfl, q⟩ := q1
  cases r1
  exact wpAny_truthy_bool ⟨H1, I1, q⟩
/-- an expression whose value is a bool, as a test -/
theorem pt_val {e : Expr} {t : TE} (h : PE X e t) (he : ∀ whole, isTrue e X.env whole = (do let v ← whole; standAt e.pos; holding [v] (truthy v)) := by intro _; rfl) : PT X e (tB t) := by
  intro pins s σ H Q I hw
  refine isTrue_plain (thn (h pins s σ H _ I hw) fun v s1 ⟨x, H1, I1, r1, q1⟩ => ?_) (he _)
  obtain ⟨d, rfl, q⟩ := q1
  cases r1
  exact wpAny_truthy_bool ⟨H1, I1, q⟩

variable {tA tB' : TT} {rest : List Expr}
def tAnd (t u : TT) : TT := fun σ H Q => t σ H fun c H1 => if c = true then u σ H1 Q else Q false H1
def tOr (t u : TT) : TT := fun σ H Q => t σ H fun c H1 => if c = true then Q true H1 else u σ H1 Q
def tNot (t : TT) : TT := fun σ H Q => t σ H fun c H1 => Q (!c) H1
theorem pw_and1 (ha : PT X a tA) : PW X (.BoolOp .And [a] pos) tA := by
  intro wh pins s σ H Q I h
  refine isTrue_and (thn (ha pins s σ H Q I h) fun c s1 e => ?_)
  cases c with
  | true => exact isTrue_and_nil e
  | false => exact e
theorem pw_or1 (ha : PT X a tA) : PW X (.BoolOp .Or [a] pos) tA := by
  intro wh pins s σ H Q I h
  refine isTrue_or (thn (ha pins s σ H Q I h) fun c s1 e => ?_)
  cases c with
  | false => exact isTrue_or_nil e
  | true => exact e
theorem pw_and (ha : PT X a tA) (hb : PW X (.BoolOp .And (b :: rest) pos) tB') : PW X (.BoolOp .And (a :: b :: rest) pos) (tAnd tA tB') := by
  intro wh pins s σ H Q I h
  refine isTrue_and (thn (ha pins s σ H _ I h) fun c s1 ⟨H1, I1, q1⟩ => ?_)
  cases c with
  | true => exact hb wh pins s1 σ H1 Q I1 q1
  | false => exact ⟨H1, I1, q1⟩
theorem pw_or (ha : PT X a tA) (hb : PW X (.BoolOp .Or (b :: rest) pos) tB') : PW X (.BoolOp .Or (a :: b :: rest) pos) (tOr tA tB') := by
  intro wh pins s σ H Q I h
  refine isTrue_or (thn (ha pins s σ H _ I h) fun c s1 ⟨H1, I1, q1⟩ => ?_)
  cases c with
  | true => exact ⟨H1, I1, q1⟩
  | false => exact hb wh pins s1 σ H1 Q I1 q1
theorem pt_not (ha : PT X a tA) : PT X (.UnaryOp .Not a pos) (tNot tA) := by
  intro pins s σ H Q I h
  exact isTrue_not (ha pins s σ H (fun c H1 => Q (!c) H1) I h)
/-- .. as values (bools) -/
def tAndV (ta tb : TE) : TE := fun σ H Q => ta σ H fun x H1 => ∃ c, x = .bl c ∧ if c = true then tb σ H1 Q else Q (.bl false) H1
def tOrV (ta tb : TE) : TE := fun σ H Q => ta σ H fun x H1 => ∃ c, x = .bl c ∧ if c = true then Q (.bl true) H1 else tb σ H1 Q
def tNotV (ta : TE) : TE := fun σ H Q => ta σ H fun x H1 => ∃ c, x = .bl c ∧ Q (.bl (!c)) H1
theorem pe_one {op} {t : TE} (h : PE X a t) : PE X (.BoolOp op [a] pos) t := fun pins s σ H Q I hw => BoolOp_one (h pins s σ H Q I hw)
theorem pe_and (ha : PE X a ta) (hb : PE X (.BoolOp .And (b :: rest) pos) tb) : PE X (.BoolOp .And (a :: b :: rest) pos) (tAndV ta tb) := by
  intro pins s σ H Q I h
  refine BoolOp_and (thn (ha pins s σ H _ I h) fun v s1 ⟨x, H1, I1, r1, q1⟩ => ?_)
  obtain ⟨c, rfl, q1⟩ := q1
  cases r1
  refine wpAny_truthy_bool ?_
  cases c with
  | true => exact hb pins s1 σ H1 Q I1 q1
  | false => exact ⟨.bl false, H1, I1, rfl, q1⟩
theorem pe_or (ha : PE X a ta) (hb : PE X (.BoolOp .Or (b :: rest) pos) tb) : PE X (.BoolOp .Or (a :: b :: rest) pos) (tOrV ta tb) := by
  intro pins s σ H Q I h
  refine BoolOp_or (thn (ha pins s σ H _ I h) fun v s1 ⟨x, H1, I1, r1, q1⟩ => ?_)
  obtain ⟨c, rfl, q1⟩ := q1
  cases r1
  refine wpAny_truthy_bool ?_
  cases c with
  | false => exact hb pins s1 σ H1 Q I1 q1
  | true => exact ⟨.bl true, H1, I1, rfl, q1⟩
theorem pe_not (ha : PE X a ta) : PE X (.UnaryOp .Not a pos) (tNotV ta) := by
  intro pins s σ H Q I h
  refine UnaryOp_ (thn (ha pins s σ H _ I h) fun v s1 ⟨x, H1, I1, r1, q1⟩ => ?_)
  obtain ⟨c, rfl, q1⟩ := q1
  cases r1
  exact not_of (wpAny_truthy_bool ⟨.bl (!c), H1, I1, rfl, q1⟩)
/-- a if t else b -/
def tIf (t : TT) (ta tb : TE) : TE := fun σ H Q => t σ H fun c H1 => if c = true then ta σ H1 Q else tb σ H1 Q
theorem pe_ifExp {c : Expr} (hc : PT X c tA) (ha : PE X a ta) (hb : PE X b tb) : PE X (.IfExp c a b pos) (tIf tA ta tb) := by
  intro pins s σ H Q I h
  refine wpAny_IfExp (thn (hc pins s σ H _ I h) fun d s1 ⟨H1, I1, q1⟩ => ?_)
  cases d with
  | true => exact ha pins s1 σ H1 Q I1 q1
  | false => exact hb pins s1 σ H1 Q I1 q1
end
end L2

namespace L2
open PySem PySem.Spec PyProof.Rows

def SqL (K : PySem.W.Frag) (H : Hp) (a : Addr) (xs : List V) : Prop :=
  Rd H a (.lst xs) ∨
    ∃ (o : Obj) (its : Array Value) (n : Nat), K.lookup a = some o ∧ o.cls = .type "list" ∧ o.dict = none ∧ o.data = .seq its n ∧ its.size ≤ sizeLine ∧ Vals xs its.toList
def SqT (K : PySem.W.Frag) (H : Hp) (a : Addr) (xs : List V) : Prop :=
  Rd H a (.tup xs) ∨
    ∃ (o : Obj) (its : Array Value) (n : Nat), K.lookup a = some o ∧ o.cls = .type "tuple" ∧ o.data = .seq its n ∧ its.size ≤ sizeLine ∧ Vals xs its.toList
def absV : Value → Option V
  | .none => some .non
  | .bool b => some (.bl b)
  | .int i _ => some (.int i)
  | .str x _ => some (.str x)
  | .bytes b _ => some (.byt b)
  | .float b _ => some (.flt b)
  | .ref a => some (.ref a)
  | .type n => some (.ty n)
  | _ => none
theorem RelV.abs {x : V} {u : Value} (r : RelV x u) : absV u = some x := by
  cases x with
  | non => cases r; rfl
  | bl _ => cases r; rfl
  | int _ => obtain ⟨t, rfl⟩ := r; rfl
  | str _ => obtain ⟨t, rfl⟩ := r; rfl
  | byt _ => obtain ⟨t, rfl⟩ := r; rfl
  | flt _ => obtain ⟨t, rfl⟩ := r; rfl
  | ref _ => cases r; rfl
  | ty _ => cases r; rfl
theorem RelV.inj {x y : V} {u : Value} (r : RelV x u) (q : RelV y u) : x = y := Option.some.inj (r.abs.symm.trans q.abs)
theorem Vals.inj : ∀ {xs ys : List V} {us : List Value}, Vals xs us → Vals ys us → xs = ys
  | _, _, _, .nil, .nil => rfl
  | _, _, _, .cons r t, .cons r' t' => by rw [r.inj r', Vals.inj t t']
section
variable {X : Cx} {pins : List (Addr × Obj)} {σ : St} {H : Hp} {s : Shared} {a : Addr} {xs ys : List V}
theorem SqL.of {K : PySem.W.Frag} (h : H a = some (.lst xs)) : SqL K H a xs := .inl (.inl h)
theorem SqT.of {K : PySem.W.Frag} (h : H a = some (.tup xs)) : SqT K H a xs := .inl (.inl h)
theorem Inv.list (I : Inv X pins σ H s) (h : SqL X.K H a xs) : ∃ its : List Value, Vals xs its ∧ PlainL s.heap a its.toArray ∧ xs.length ≤ sizeLine := by
  rcases h with h | ⟨o, its, n, hk, hc, hd, hs, hz, r⟩
  · obtain ⟨z, its, n, r, e⟩ := h.ok I.hok
    exact ⟨its, r, ⟨_, n, e, rfl, rfl, rfl⟩, z⟩
  · refine ⟨its.toList, r, ⟨o, n, I.kIn a o hk, hc, hd, by simpa using hs⟩, ?_⟩
    have e := r.length
    simp only [Array.length_toList] at e
    omega
theorem Inv.tuple (I : Inv X pins σ H s) (h : SqT X.K H a xs) : ∃ its : List Value, Vals xs its ∧ IsTup s.heap a its.toArray ∧ xs.length ≤ sizeLine := by
  rcases h with h | ⟨o, its, n, hk, hc, hs, hz, r⟩
  · obtain ⟨z, its, r, p⟩ := h.ok I.hok
    exact ⟨its, r, p, z⟩
  · refine ⟨its.toList, r, ⟨o, I.kIn a o hk, hc, n, by simpa using hs⟩, ?_⟩
    have e := r.length
    simp only [Array.length_toList] at e
    omega
theorem Inv.list_inj (I : Inv X pins σ H s) (h : SqL X.K H a xs) (h' : SqL X.K H a ys) : xs = ys := by
  obtain ⟨its, r, ⟨o, n, e, _, _, d⟩, _⟩ := I.list h
  obtain ⟨its', r', ⟨o', n', e', _, _, d'⟩, _⟩ := I.list h'
  rw [e] at e'; cases e'
  rw [d] at d'
  injection d' with d1 _
  have : its = its' := by simpa using congrArg Array.toList d1
  subst this
  exact r.inj r'
theorem Inv.tuple_inj (I : Inv X pins σ H s) (h : SqT X.K H a xs) (h' : SqT X.K H a ys) : xs = ys := by
  obtain ⟨its, r, ⟨o, e, _, n, d⟩, _⟩ := I.tuple h
  obtain ⟨its', r', ⟨o', e', _, n', d'⟩, _⟩ := I.tuple h'
  rw [e] at e'; cases e'
  rw [d] at d'
  injection d' with d1 _
  have : its = its' := by simpa using congrArg Array.toList d1
  subst this
  exact r.inj r'
end

abbrev Cx.wish (X : Cx) (E : Value → Shared → Prop) : Cx := { X with xe := E }
/-- no exception leaves -/
abbrev Cx.nox (X : Cx) : Cx := X.wish fun _ _ => False
theorem Cx.Ok.wish {X : Cx} (ok : X.Ok) (E : Value → Shared → Prop) : (X.wish E).Ok :=
  ⟨ok.mod, ok.kind, ok.glob, ok.blt, ok.above, ok.inj, ok.has, ok.cab, ok.hd, ok.frames, ok.stk, ok.exf, ok.bs, ok.bsz, ok.noex, ok.exfs, ok.funs, ok.frf⟩
theorem Cx.Ok.unwish {X : Cx} {E : Value → Shared → Prop} (ok : (X.wish E).Ok) : X.Ok :=
  ⟨ok.mod, ok.kind, ok.glob, ok.blt, ok.above, ok.inj, ok.has, ok.cab, ok.hd, ok.frames, ok.stk, ok.exf, ok.bs, ok.bsz, ok.noex, ok.exfs, ok.funs, ok.frf⟩
section
variable {X : Cx} {pins : List (Addr × Obj)} {σ : St} {H : Hp} {s : Shared} {E : Value → Shared → Prop}
theorem Inv.wish (I : Inv X pins σ H s) (E : Value → Shared → Prop) : Inv (X.wish E) pins σ H s := ⟨I.ok.wish E, I.os, I.bare, I.base, I.loc, I.cell, I.free, I.freeC, I.pin, I.hok, I.len⟩
theorem Inv.unwish (I : Inv (X.wish E) pins σ H s) : Inv X pins σ H s := ⟨I.ok.unwish, I.os, I.bare, I.base, I.loc, I.cell, I.free, I.freeC, I.pin, I.hok, I.len⟩
theorem SP.unwish {D : Ends} {f : Flow} {s' : Shared} (h : SP (X.wish E) pins D f s') : SP X pins D f s' := by
  cases f with
  | next => obtain ⟨σ', H', I, q⟩ := h; exact ⟨σ', H', I.unwish, q⟩
  | brk => obtain ⟨σ', H', I, q⟩ := h; exact ⟨σ', H', I.unwish, q⟩
  | cont => obtain ⟨σ', H', I, q⟩ := h; exact ⟨σ', H', I.unwish, q⟩
  | ret u => obtain ⟨v, σ', H', I, r, q⟩ := h; exact ⟨v, σ', H', I.unwish, r, q⟩
theorem PSs.nox {st : List Stmt} {t : TS} (h : PSs X.nox st t) : PSs X st t := fun pins s σ H D I hw =>
  wpAny_mono (h pins s σ H D (I.wish _) hw) (fun _ _ q => q.unwish) fun _ _ z => False.elim z
end

section
variable {X : Cx} {st : Stmt} {rest : List Stmt} {t u : TS} {e : Expr} {te : TE} {pos : Pos}
def tNext : TS := fun D σ H => D.nx σ H
def tSeq (t u : TS) : TS := fun D σ H => t { D with nx := u D } σ H
theorem pss_nil : PSs X [] tNext := fun _ _ σ H _ I h => wpAny_execs_nil ⟨σ, H, I, h⟩
theorem pss_cons (h1 : PS X st t) (h2 : PSs X rest u) : PSs X (st :: rest) (tSeq t u) := by
  intro pins s σ H D I h
  refine wpAny_execs_cons (thn (h1 pins s σ H { D with nx := u D } I h) fun f s1 q => ?_)
  cases f with
  | next =>
    obtain ⟨σ', H', I', q⟩ := q
    exact h2 pins s1 σ' H' D I' q
  | ret v => exact q
  | brk => exact q
  | cont => exact q
theorem pss_one (h1 : PS X st t) : PSs X [st] t := by
  intro pins s σ H D I h
  refine wpAny_execs_cons (thn (h1 pins s σ H D I h) fun f s1 q => ?_)
  cases f with
  | next => exact wpAny_execs_nil q
  | ret v => exact q
  | brk => exact q
  | cont => exact q
/-- in a def's body nothing is shown -/
theorem Inv.quiet {pins : List (Addr × Obj)} {σ : St} {H : Hp} {s : Shared} (I : Inv X pins σ H s) : interactive X.env = false := by simp [interactive, I.ok.kind]
/-- an expression whose value is dropped -/
def tDrop (te : TE) : TS := fun D σ H => te σ H fun _ H1 => D.nx σ H1
theorem ps_expr (he : PE X e te) (hs : swapsWith e none pos.line X.env = pure false := by rfl) : PS X (.Expr e pos) (tDrop te) := by
  intro pins s σ H D I h
  exact wpAny_Expr_any (thn (he pins s σ H _ I h) fun v s1 ⟨x, H1, I1, r1, q1⟩ => ⟨σ, H1, I1, q1⟩) I.quiet hs
def tRet (te : TE) : TS := fun D σ H => te σ H D.rt
theorem ps_ret (he : PE X e te) : PS X (.Return (some e) pos) (tRet te) := by
  intro pins s σ H D I h
  exact wpAny_Return_some (thn (he pins s σ H _ I h) fun v s1 ⟨x, H1, I1, r1, q1⟩ => ⟨x, σ, H1, I1, r1, q1⟩)
def tRetN : TS := fun D _ H => D.rt .non H
def tIfS (c : TT) (t u : TS) : TS := fun D σ H => c σ H fun b H1 => if b = true then t D σ H1 else u D σ H1
theorem ps_if {c : Expr} {a b : List Stmt} {tc : TT} (hc : PT X c tc) (ha : PSs X a t) (hb : PSs X b u) : PS X (.If c a b pos) (tIfS tc t u) := by
  intro pins s σ H D I h
  refine wpAny_If (thn (hc pins s σ H _ I h) fun d s1 ⟨H1, I1, q1⟩ => ?_)
  cases d with
  | true => exact ha pins s1 σ H1 D I1 q1
  | false => exact hb pins s1 σ H1 D I1 q1
end

abbrev TG := V → St → Hp → (St → Hp → Prop) → Prop
abbrev TGs := List V → St → Hp → (St → Hp → Prop) → Prop
def PG (X : Cx) (target : Expr) (t : TG) : Prop :=
  ∀ (pins : List (Addr × Obj)) (s : Shared) (σ : St) (H : Hp) (v : V) (u : Value) (Q : St → Hp → Prop), Inv X pins σ H s → RelV v u → t v σ H Q →
    wpAny (model X.prog X.w) X.A (assign target X.env u) (fun _ s' => ∃ σ' H', Inv X pins σ' H' s' ∧ Q σ' H') X.xe s
/-- several targets, one after another -/
def PGs (X : Cx) (ts : List Expr) (t : TGs) : Prop :=
  ∀ (pins : List (Addr × Obj)) (s : Shared) (σ : St) (H : Hp) (vs : List V) (us : List Value) (Q : St → Hp → Prop), Inv X pins σ H s → Vals vs us → t vs σ H Q →
    wpAny (model X.prog X.w) X.A (assignInOrder ((assignEach ts X.env).map (·.2)) us) (fun _ s' => ∃ σ' H', Inv X pins σ' H' s' ∧ Q σ' H') X.xe s
/-- o[i] = v, by values -/
abbrev TSet := V → V → V → Hp → (Hp → Prop) → Prop
def PSet (X : Cx) (t : TSet) : Prop :=
  ∀ (pins : List (Addr × Obj)) (s : Shared) (σ : St) (H : Hp) (o i v : V) (ov iv u : Value) (Q : Hp → Prop), Inv X pins σ H s → RelV o ov → RelV i iv → RelV v u → t o i v H Q →
    wpAny (model X.prog X.w) X.A (setItem ov iv u) (fun _ s' => ∃ H', Inv X pins σ H' s' ∧ Q H') X.xe s
/-- a op= b, by values -/
abbrev TIp := V → V → Hp → VK → Prop
section
variable {X : Cx} {pos : Pos}
def gName (i : Nat) : TG := fun v σ H Q => Q (σ.set i (some v)) H
theorem pg_name {i : Nat} {x : Str} (hN : X.N.Nodup) (hi : X.N[i]? = some x) (hx : Loc X.env.scope x) (hf : X.fn x = true ∨ X.env.scope.names.lookup x = some .local := by first | exact .inl rfl | exact .inr rfl | assumption) : PG X (.Name x pos) (gName i) := by
  intro pins s σ H v u Q I r h
  exact wpAny_assign_Name (store_ok I hN hi hx r (fun s' I' => ⟨_, H, I', h⟩) hf)
def gNil : TGs := fun vs σ H Q => vs = [] ∧ Q σ H
def gCons (t : TG) (u : TGs) : TGs := fun vs σ H Q => ∃ v r, vs = v :: r ∧ t v σ H fun σ' H' => u r σ' H' Q
theorem pgs_nil : PGs X [] gNil := by
  intro pins s σ H vs us Q I r h
  obtain ⟨e, h⟩ := h
  subst e
  cases r
  exact assignInOrder_nil ⟨σ, H, I, h⟩
theorem pgs_cons {e : Expr} {es : List Expr} {t : TG} {u : TGs} (h1 : PG X e t) (h2 : PGs X es u)
    (hs : (assignEach (e :: es) X.env).map (·.2) = assign e X.env :: (assignEach es X.env).map (·.2) := by rfl) : PGs X (e :: es) (gCons t u) := by
  intro pins s σ H vs us Q I r h
  obtain ⟨v, vr, e1, h⟩ := h
  subst e1
  cases r with
  | cons r rr =>
    rw [hs]
    refine assignInOrder_cons (thn (h1 pins s σ H _ _ _ I r h) fun _ s1 ⟨σ1, H1, I1, q1⟩ => ?_)
    exact h2 pins s1 σ1 H1 _ _ Q I1 rr q1
/-- (a, b, ..) = a tuple of that length -/
def gTup (K : PySem.W.Frag) (n : Nat) (t : TGs) : TG := fun v σ H Q => ∃ a xs, v = .ref a ∧ SqT K H a xs ∧ xs.length = n ∧ t xs σ H Q
theorem pg_tup {es : List Expr} {k : Nat} {t : TGs} {n : Nat} (hc : X.calm = true) (h : PGs X es t)
    (hn : (assignEach es X.env).length = n := by rfl) (hst : (assignEach es X.env).findIdx? (·.1) = none := by rfl) : PG X (.Tuple es k pos) (gTup X.K n t) := by
  intro pins s σ H v u Q I r hw
  obtain ⟨a, xs, e1, hq, hl, hw⟩ := hw
  subst e1
  cases r
  obtain ⟨its, rv, ht, hz⟩ := I.tuple hq
  refine assign_Tuple_tuple (I.ok.hd hc) ht (by simp [hn, ← hl, rv.length]) hst fun h' hx => ?_
  have I1 : Inv X pins σ H { s with heap := h' } := I.kept (t' := s.toks) fun b o e => hx b o (Nat.ne_of_lt (Heap.lt_size e)) e
  exact h pins _ σ H xs _ Q I1 (by simpa using rv) hw
/-- o[i] = .. -/
def gSub (to ti : TE) (t : TSet) : TG := fun v σ H Q => to σ H fun o H1 => ti σ H1 fun i H2 => t o i v H2 fun H3 => Q σ H3
theorem pg_sub {o i : Expr} {to ti : TE} {t : TSet} (ho : PE X o to) (hi : PE X i ti) (hs : PSet X t)
    (ha : ∀ v, assign (.Subscript o i pos) X.env v = (do
      let ov ← holding [v] (eval o X.env)
      let iv ← holding [v, ov] (eval i X.env)
      standAt pos
      holding [v, ov, iv] (setItem ov iv v)
      release [v, ov, iv] []) := by intro _; rfl) : PG X (.Subscript o i pos) (gSub to ti t) := by
  intro pins s σ H v u Q I r h
  rw [ha]
  refine wpAny_bind (wpAny_holding (thn (ho pins s σ H _ I h) fun ov s1 ⟨x, H1, I1, r1, q1⟩ => ?_))
  refine wpAny_bind (wpAny_holding (thn (hi pins s1 σ H1 _ I1 q1) fun iv s2 ⟨y, H2, I2, r2, q2⟩ => ?_))
  refine wpAny_bind (wpAny_standAt (wpAny_bind (wpAny_holding (thn (hs pins s2 σ H2 x y v ov iv u _ I2 r1 r2 r q2) fun _ s3 ⟨H3, I3, q3⟩ => ?_))))
  exact wpAny_release ⟨σ, H3, I3, q3⟩
/-- target = value -/
def tAsg (te : TE) (g : TG) : TS := fun D σ H => te σ H fun x H1 => g x σ H1 D.nx
theorem ps_asg {tg e : Expr} {te : TE} {g : TG} (he : PE X e te) (hg : PG X tg g) (hs : swapsWithSole [tg] e pos.line X.env = pure false := by rfl) (hw : swappedStores [tg] e X.env = pure none := by rfl)
    (h1 : (assignEach [tg] X.env).map (·.2) = [assign tg X.env] := by rfl) : PS X (.Assign [tg] e pos) (tAsg te g) := by
  intro pins s σ H D I h
  refine wpAny_Assign_stores (thn (he pins s σ H _ I h) fun v s1 ⟨x, H1, I1, r1, q1⟩ => ?_) hs hw
  rw [h1]
  exact thn (hg pins s1 σ H1 x v _ I1 r1 q1) fun _ s2 q => q
/-- name = value -/
theorem ps_set {i : Nat} {x : Str} {e : Expr} {te : TE} {pos' : Pos} (hN : X.N.Nodup) (hi : X.N[i]? = some x) (hx : Loc X.env.scope x) (he : PE X e te) (hs : swapsWith e (some (.Name x pos')) pos.line X.env = pure false := by rfl) (hf : X.fn x = true ∨ X.env.scope.names.lookup x = some .local := by first | exact .inl rfl | exact .inr rfl | assumption) :
    PS X (.Assign [.Name x pos'] e pos) (tAsg te (gName i)) := by
  intro pins s σ H D I h
  refine wpAny_Assign_Name (thn (he pins s σ H _ I h) fun v s1 ⟨y, H1, I1, r1, q1⟩ => ?_) hs
  exact store_ok I1 hN hi hx r1 (fun s2 I2 => ⟨_, H1, I2, q1⟩) hf
/-- name op= e -/
def tAug (i : Nat) (te : TE) (ti : TIp) : TS := fun D σ H => ∃ x, σ[i]? = some (some x) ∧ te σ H fun y H1 => ti x y H1 fun z H2 => D.nx (σ.set i (some z)) H2
/-- ints -/
def ipI (f : Int → Int → Int) : TIp := fun x y H Q => ∃ i j, x = .int i ∧ y = .int j ∧ Q (.int (f i j)) H
end

section
variable {X : Cx} {pos : Pos}
end

/-- at turn i: it yields x (the heap may grow), or it stops -/
structure It where
  go : Nat → Hp → Prop
  yld : Nat → Hp → V → Hp → Prop
  stop : Nat → Hp → Prop
/-- the iterator's own objects may turn: they are not the frame's, not pinned, younger than the entry (or a comprehension's own) -/
def FpOk (X : Cx) (pins : List (Addr × Obj)) (H : Hp) (b : Addr) : Prop :=
  H b = none ∧ b ≠ X.env.locals ∧ b ∉ X.fs ∧ (b ∈ X.ex ∨ X.s₀.heap.objs.size ≤ b) ∧ (∀ x c, X.env.cells.lookup x = some c → c ≠ b) ∧ ∀ p ∈ X.pn ++ pins, p.1 ≠ b
theorem Inv.fpOk {X : Cx} {pins : List (Addr × Obj)} {σ : St} {H H' : Hp} {s : Shared} {b : Addr} (I : Inv X pins σ H s) (hb : s.heap.objs.size ≤ b) (hn : H' b = none) : FpOk X pins H' b := by
  refine ⟨hn, Nat.ne_of_gt (Nat.lt_of_lt_of_le I.lt hb), I.nofs hb, .inr (Nat.le_trans I.sz hb), fun x c e z => ?_, fun p hp z => ?_⟩
  · obtain ⟨v, q⟩ := I.cell x c e
    exact absurd (Nat.lt_of_lt_of_le q.lt (by rw [z]; exact hb)) (Nat.lt_irrefl _)
  · exact absurd (Nat.lt_of_lt_of_le (Heap.lt_size (I.pin p hp).1) (by rw [z]; exact hb)) (Nat.lt_irrefl _)
structure Turn (P : Program) (w : World) (K : PySem.W.Frag) (tg : Expr) (J : It) (fp : List Addr) (it : Addr) (tn : Nat → Heap → Prop) : Prop where
  mem : it ∈ fp
  obj : ∀ i h, tn i h → ∀ b ∈ fp, ∃ o, h.get? b = some o ∧ ∀ v, o.data ≠ .cell v
  keep : ∀ i h h', tn i h → (∀ b ∈ fp, ∀ o, h.get? b = some o → h'.get? b = some o) → tn i h'
  item : ∀ (X : Cx), X.prog = P → X.w = w → X.K = K → X.calm = true → ∀ (i : Nat) (pins : List (Addr × Obj)) (s : Shared) (σ : St) (H : Hp) (E : Value → Shared → Prop), Inv X pins σ H s → (∀ b ∈ fp, FpOk X pins H b) → tn i s.heap → J.go i H →
    wpAny (model P w) X.A (pyNext (.ref it)) (fun r s1 => ∃ u, r = some u ∧
      wpAny (model P w) X.A (letOwnedTupleGo tg (.ref it) u) (fun _ s2 => ∃ x H', Inv X pins σ H' s2 ∧ RelV x u ∧ J.yld i H x H' ∧ tn (i + 1) s2.heap ∧ ∀ b ∈ fp, H' b = none) E s1) E s
  done : ∀ (X : Cx), X.prog = P → X.w = w → X.K = K → X.calm = true → ∀ (i : Nat) (pins : List (Addr × Obj)) (s : Shared) (σ : St) (H : Hp) (E : Value → Shared → Prop), Inv X pins σ H s → (∀ b ∈ fp, FpOk X pins H b) → tn i s.heap → J.stop i H →
    wpAny (model P w) X.A (pyNext (.ref it)) (fun r s1 => r = none ∧ Inv X pins σ H s1) E s
  self : ∀ (A : Around) (i : Nat) (s : Shared) (Q : Value → Shared → Prop) (E : Value → Shared → Prop), tn i s.heap → Q (.ref it) s → wpAny (model P w) A (pyIter (.ref it)) Q E s
abbrev TI := St → Hp → (It → Hp → Prop) → Prop
/-- an iterator has come -/
def PIE (X : Cx) (pins : List (Addr × Obj)) (σ : St) (tg : Expr) (R : It → Hp → Prop) (itv : Value) (s2 : Shared) : Prop :=
  ∃ (it : Addr) (fp : List Addr) (tn : Nat → Heap → Prop) (J : It) (H' : Hp), itv = .ref it ∧ Inv X pins σ H' s2 ∧ Turn X.prog X.w X.K tg J fp it tn ∧ tn 0 s2.heap ∧ (∀ b ∈ fp, FpOk X pins H' b) ∧ R J H'
def PI (X : Cx) (tg iter : Expr) (wi : TI) : Prop :=
  ∀ (pins : List (Addr × Obj)) (s : Shared) (σ : St) (H : Hp) (R : It → Hp → Prop), Inv X pins σ H s → wi σ H R →
    wpAny (model X.prog X.w) X.A (eval iter X.env) (fun v s1 => wpAny (model X.prog X.w) X.A (pyIter v) (PIE X pins σ tg R) X.xe s1) X.xe s

/-- the step ahead of the store is nothing for an iterator that keeps no tuple -/
theorem go_of {M : Model} {A : Around} {E : Value → Shared → Prop} {s : Shared} {tg : Expr} {it : Addr} {u : Value} {o : Obj} {n : String} {vs : Array Value} {Q : Unit → Shared → Prop} (ho : s.heap.get? it = some o) (hc : o.cls = .type n) (hd : o.data = .fields vs)
    (hn : ["enumerate", "zip", "dict_itemiterator", "dict_reverseitemiterator", "odict_iterator", "itertools.zip_longest", "itertools.pairwise"].contains n = false) (hQ : Q () s) : wpAny M A (letOwnedTupleGo tg (.ref it) u) Q E s := by
  unfold letOwnedTupleGo
  cases tg <;> first
    | exact wpAny_pure hQ
    | (cases u <;> first
        | exact wpAny_pure hQ
        | (refine wpAny_bind (wpAny_load ho ?_)
           rw [hc, hd]
           show wpAny M A (if (["enumerate", "zip", "dict_itemiterator", "dict_reverseitemiterator", "odict_iterator", "itertools.zip_longest", "itertools.pairwise"].contains n && vs[0]? == some (rawInt _)) = true then _ else _) Q E s
           rw [if_neg (by intro h; rw [hn, Bool.false_and] at h; cases h)]
           exact wpAny_pure hQ))

/-- the list at a, as it stands at each turn (a loop may append to it) -/
def Itl (K : PySem.W.Frag) (a : Addr) : It :=
  ⟨fun i H => ∃ xs x, SqL K H a xs ∧ xs[i]? = some x, fun i H x H' => H' = H ∧ ∀ xs, SqL K H a xs → xs[i]? = some x, fun i H => ∃ xs, SqL K H a xs ∧ xs.length ≤ i⟩
def Itt (K : PySem.W.Frag) (a : Addr) : It :=
  ⟨fun i H => ∃ xs x, SqT K H a xs ∧ xs[i]? = some x, fun i H x H' => H' = H ∧ ∀ xs, SqT K H a xs → xs[i]? = some x, fun i H => ∃ xs, SqT K H a xs ∧ xs.length ≤ i⟩
/-- lo, lo + 1, .. (n of them) -/
def Itr (lo : Int) (n : Nat) : It := ⟨fun i _ => i < n, fun i H x H' => H' = H ∧ x = .int (lo + i), fun i _ => n ≤ i⟩
theorem turn_list {P : Program} {w : World} {K : PySem.W.Frag} {tg : Expr} (a it : Addr) : Turn P w K tg (Itl K a) [it] it (fun i h => h.IsListIter it a i) where
  mem := by simp
  obj := fun i h st b hb => by
    have e : b = it := by simpa using hb
    subst e
    obtain ⟨o, e, c, d⟩ := st
    exact ⟨o, e, fun v z => by rw [d] at z; cases z⟩
  keep := fun i h h' st k => st.at fun o e => k it (by simp) o e
  item := by
    intro X hP hw hK hc i pins s σ H E I hf st hg
    subst hP hw hK
    obtain ⟨xs, x, hq, hx⟩ := hg
    obtain ⟨its, rv, p, hz⟩ := I.list hq
    obtain ⟨u, hu, ru⟩ := rv.get hx
    obtain ⟨f0, f1, f2, f3, f4, f5⟩ := hf it (by simp)
    refine wpAny_pyNext_list_item st p.isList (x := u) (by simpa using hu) fun h' st' sb => ?_
    have I1 : Inv X pins σ H { s with heap := h' } := I.turned (t' := s.toks) (fun b o hb e => (sb.2 b hb).trans e) f0 f1 f3 f4 f5
    obtain ⟨o, e, c, d⟩ := id st'
    exact ⟨u, rfl, go_of (s := { s with heap := h' }) e c d (by decide) ⟨x, H, I1, ru, ⟨rfl, fun ys hy => by rw [I.list_inj hy hq]; exact hx⟩, st', fun b hb => (hf b hb).1⟩⟩
  done := by
    intro X hP hw hK hc i pins s σ H E I hf st hg
    subst hP hw hK
    obtain ⟨xs, hq, hx⟩ := hg
    obtain ⟨its, rv, p, hz⟩ := I.list hq
    obtain ⟨f0, f1, f2, f3, f4, f5⟩ := hf it (by simp)
    have hl := rv.length
    exact wpAny_pyNext_list_end (I.ok.hd hc) st p.isList (by simp; omega) fun h' eb => ⟨rfl, I.turned (t' := s.toks) (fun b o hb e => eb b o hb e) f0 f1 f3 f4 f5⟩
  self := fun _ _ _ _ _ st h => wpAny_pyIter_listiter st h
theorem turn_tuple {P : Program} {w : World} {K : PySem.W.Frag} {tg : Expr} (a it : Addr) : Turn P w K tg (Itt K a) [it] it (fun i h => h.IsTupleIter it a i) where
  mem := by simp
  obj := fun i h st b hb => by
    have e : b = it := by simpa using hb
    subst e
    obtain ⟨o, e, c, d⟩ := st
    exact ⟨o, e, fun v z => by rw [d] at z; cases z⟩
  keep := fun i h h' st k => st.at fun o e => k it (by simp) o e
  item := by
    intro X hP hw hK hc i pins s σ H E I hf st hg
    subst hP hw hK
    obtain ⟨xs, x, hq, hx⟩ := hg
    obtain ⟨its, rv, p, hz⟩ := I.tuple hq
    obtain ⟨u, hu, ru⟩ := rv.get hx
    obtain ⟨f0, f1, f2, f3, f4, f5⟩ := hf it (by simp)
    refine wpAny_pyNext_tuple_item st (show s.heap.IsTuple a its.toArray from p) (x := u) (by simpa using hu) fun h' st' sb => ?_
    have I1 : Inv X pins σ H { s with heap := h' } := I.turned (t' := s.toks) (fun b o hb e => (sb.2 b hb).trans e) f0 f1 f3 f4 f5
    obtain ⟨o, e, c, d⟩ := id st'
    exact ⟨u, rfl, go_of (s := { s with heap := h' }) e c d (by decide) ⟨x, H, I1, ru, ⟨rfl, fun ys hy => by rw [I.tuple_inj hy hq]; exact hx⟩, st', fun b hb => (hf b hb).1⟩⟩
  done := by
    intro X hP hw hK hc i pins s σ H E I hf st hg
    subst hP hw hK
    obtain ⟨xs, hq, hx⟩ := hg
    obtain ⟨its, rv, p, hz⟩ := I.tuple hq
    obtain ⟨f0, f1, f2, f3, f4, f5⟩ := hf it (by simp)
    have hl := rv.length
    exact wpAny_pyNext_tuple_end (I.ok.hd hc) st (show s.heap.IsTuple a its.toArray from p) (by simp; omega) fun h' eb => ⟨rfl, I.turned (t' := s.toks) (fun b o hb e => eb b o hb e) f0 f1 f3 f4 f5⟩
  self := fun _ _ _ _ _ st h => wpAny_pyIter_tupleiter st h
theorem turn_range {P : Program} {w : World} {K : PySem.W.Frag} {tg : Expr} (it : Addr) (lo : Int) (n : Nat) : Turn P w K tg (Itr lo n) [it] it (fun i h => IsRangeIter h it (lo + (i : Nat) * 1) ((n : Int) - (i : Nat)) 1) where
  mem := by simp
  obj := fun i h st b hb => by
    have e : b = it := by simpa using hb
    subst e
    exact ⟨_, st, fun v z => by
      have z' : Data.fields _ = Data.cell v := z
      cases z'⟩
  keep := fun i h h' st k => k it (by simp) _ st
  item := by
    intro X hP hw hK hc i pins s σ H E I hf st hg
    subst hP hw hK
    obtain ⟨f0, f1, f2, f3, f4, f5⟩ := hf it (by simp)
    have W := Walks.range (prog := X.prog) (w := X.w) (I.ok.hd hc) it lo 1 n
    refine W.item i s _ _ hg st fun v h' tk hv st' kk => ?_
    obtain ⟨t, rfl⟩ := hv
    have I1 : Inv X pins σ H { s with heap := h', toks := tk } := I.turned (fun b o hb e => kk b o (by simpa using hb) e) f0 f1 f3 f4 f5
    refine ⟨_, rfl, go_of (s := { s with heap := h', toks := tk }) (n := "range_iterator") st' rfl rfl (by decide) ⟨.int (lo + i), H, I1, ⟨t, ?_⟩, ⟨rfl, rfl⟩, st', fun b hb => (hf b hb).1⟩⟩
    rw [Int.mul_one]
  done := by
    intro X hP hw hK hc i pins s σ H E I hf st hg
    subst hP hw hK
    obtain ⟨f0, f1, f2, f3, f4, f5⟩ := hf it (by simp)
    exact wpAny_pyNext_range_end (I.ok.hd hc) st (by have : n ≤ i := hg; omega) fun h' eb => ⟨rfl, I.turned (t' := s.toks) (fun b o hb e => eb b o hb e) f0 f1 f3 f4 f5⟩
  self := fun _ _ _ _ _ st h => wpAny_pyIter_rangeiter st h
end L2

namespace L2
open PySem PySem.Spec PyProof.Rows
section
variable {X : Cx} {tg : Expr}
def iList (K : PySem.W.Frag) (tl : TE) : TI := fun σ H R => tl σ H fun x H1 => ∃ a, x = .ref a ∧ (∃ xs, SqL K H1 a xs) ∧ R (Itl K a) H1
def iTup (K : PySem.W.Frag) (tl : TE) : TI := fun σ H R => tl σ H fun x H1 => ∃ a, x = .ref a ∧ (∃ xs, SqT K H1 a xs) ∧ R (Itt K a) H1
theorem pi_list {l : Expr} {tl : TE} (hl : PE X l tl) : PI X tg l (iList X.K tl) := by
  intro pins s σ H R I h
  refine thn (hl pins s σ H _ I h) fun v s1 ⟨x, H1, I1, r1, q1⟩ => ?_
  obtain ⟨a, e, ⟨xs, hq⟩, q⟩ := q1
  subst e
  cases r1
  obtain ⟨its, rv, p, hz⟩ := I1.list hq
  refine wpAny_pyIter_list p.isList ?_
  refine ⟨s1.heap.objs.size, [s1.heap.objs.size], _, _, H1, rfl, I1.kept (t' := s1.toks) fun b o e => Heap.get?_push_of_some _ e, turn_list a _, ⟨_, Heap.get?_push_size _ rfl, rfl, rfl⟩, fun b hb => ?_, q⟩
  have e : b = s1.heap.objs.size := by simpa using hb
  subst e
  exact I1.fpOk (Nat.le_refl _) (I1.hok.fresh (Nat.le_refl _))
theorem pi_tup {l : Expr} {tl : TE} (hl : PE X l tl) : PI X tg l (iTup X.K tl) := by
  intro pins s σ H R I h
  refine thn (hl pins s σ H _ I h) fun v s1 ⟨x, H1, I1, r1, q1⟩ => ?_
  obtain ⟨a, e, ⟨xs, hq⟩, q⟩ := q1
  subst e
  cases r1
  obtain ⟨its, rv, p, hz⟩ := I1.tuple hq
  refine wpAny_pyIter_tuple (show s1.heap.IsTuple a its.toArray from p) ?_
  refine ⟨s1.heap.objs.size, [s1.heap.objs.size], _, _, H1, rfl, I1.kept (t' := s1.toks) fun b o e => Heap.get?_push_of_some _ e, turn_tuple a _, ⟨_, Heap.get?_push_size _ rfl, rfl, rfl⟩, fun b hb => ?_, q⟩
  have e : b = s1.heap.objs.size := by simpa using hb
  subst e
  exact I1.fpOk (Nat.le_refl _) (I1.hok.fresh (Nat.le_refl _))
/-- a range object just made, walked -/
theorem range_it {pins : List (Addr × Obj)} {σ : St} {H : Hp} {s : Shared} {R : It → Hp → Prop} {E : Value → Shared → Prop} {lo hi : Int} {t u v : Tok} {tk : Nat} (I : Inv X pins σ H s) (h1 : -(2 ^ 62) ≤ lo) (h2 : lo < 2 ^ 62) (h3 : -(2 ^ 62) ≤ hi) (h4 : hi < 2 ^ 62)
    (q : R (Itr lo (hi - lo).toNat) H) : wpAny (model X.prog X.w) X.A (pyIter (.ref s.heap.objs.size)) (PIE X pins σ tg R) E { s with heap := s.heap.push { cls := .type "range", data := .fields #[.int lo t, .int hi u, .int 1 v] }, toks := tk } := by
  refine wpAny_pyIter_range (IsRange.new ..) (small_one h1 h2 h3 h4) ?_
  have I1 : Inv X pins σ H { s with heap := s.heap.push { cls := .type "range", data := .fields #[.int lo t, .int hi u, .int 1 v] }, toks := tk } := I.kept fun b o e => Heap.get?_push_of_some _ e
  refine ⟨(s.heap.push { cls := .type "range", data := .fields #[.int lo t, .int hi u, .int 1 v] }).objs.size, [(s.heap.push { cls := .type "range", data := .fields #[.int lo t, .int hi u, .int 1 v] }).objs.size], _, _, H, rfl,
    I1.kept (t' := tk) fun b o e => Heap.get?_push_of_some _ e, turn_range _ lo (hi - lo).toNat, ?_, fun b hb => ?_, q⟩
  · have e1 : lo + ((0 : Nat) : Int) * 1 = lo := by simp
    have e2 : (((hi - lo).toNat : Nat) : Int) - ((0 : Nat) : Int) = Builtin.Range.rangeSize lo hi 1 := by rw [rangeSize_one]; split <;> omega
    show IsRangeIter _ _ (lo + ((0 : Nat) : Int) * 1) ((((hi - lo).toNat : Nat) : Int) - ((0 : Nat) : Int)) 1
    rw [e1, e2]
    exact Heap.get?_push_size _ rfl
  · have e : b = (s.heap.push { cls := .type "range", data := .fields #[.int lo t, .int hi u, .int 1 v] }).objs.size := by simpa using hb
    subst e
    exact I1.fpOk (Nat.le_refl _) (I1.hok.fresh (Nat.le_refl _))
def iRng1 (ta : TA) : TI := fun σ H R => ta σ H fun vs H1 => ∃ j : Int, vs = [.int j] ∧ -(2 ^ 62) ≤ j ∧ j < 2 ^ 62 ∧ R (Itr 0 j.toNat) H1
theorem pi_range1 {a : Expr} {ta : TA} {p pos : Pos} (hg : Gl X "range") (hm : X.mg "range" = none) (ha : PA X [a] ta) (hs : starEach [a] X.env = [(false, eval a X.env)] := by rfl) : PI X tg (.Call (.Name "range" p) [a] [] pos) (iRng1 ta) := by
  intro pins s σ H R I h
  refine Call_ (ld_blt I hg hm boot_range (PyProof.Rows.callWith_type1 (thn (ha pos pins s σ H _ I h) fun us s1 ⟨vs, H1, I1, r1, q1⟩ => ?_) hs rfl))
  obtain ⟨j, e, q1, q2, q⟩ := q1
  subst e
  cases r1 with
  | cons r rr =>
    cases rr
    obtain ⟨t, rfl⟩ := r
    exact call_range_1 (range_it I1 (by omega) (by omega) q1 q2 (by simpa using q))
/-- W: the invariant by the turn and a measure; N: what the body is to reach -/
def tFor (wi : TI) (g : TG) (tb : TS) : TS := fun D σ H => wi σ H fun J H1 => ∃ W : Nat → Nat → St → Hp → Prop, (∃ m, W 0 m σ H1) ∧ ∀ i m σ H, W i m σ H →
  (J.stop i H ∧ D.nx σ H) ∨ (J.go i H ∧ ∃ N : St → Hp → Prop, (∀ σ' H', N σ' H' → ∃ m', m' < m ∧ W (i + 1) m' σ' H') ∧ ∀ x H', J.yld i H x H' → g x σ H' fun σ2 H2 => tb { D with nx := N, ct := N, bk := D.nx } σ2 H2)
/-- the records at fp as they stand -/
def pinsAt (fp : List Addr) (h : Heap) : List (Addr × Obj) := fp.filterMap fun b => (h.get? b).map fun o => (b, o)
theorem mem_pinsAt {fp : List Addr} {h : Heap} {b : Addr} {o : Obj} (hb : b ∈ fp) (e : h.get? b = some o) : (b, o) ∈ pinsAt fp h := List.mem_filterMap.mpr ⟨b, hb, by rw [e]; rfl⟩
theorem of_pinsAt {fp : List Addr} {h : Heap} {p : Addr × Obj} (hp : p ∈ pinsAt fp h) : p.1 ∈ fp ∧ h.get? p.1 = some p.2 := by
  obtain ⟨b, hb, e⟩ := List.mem_filterMap.mp hp
  cases q : h.get? b with
  | none => rw [q] at e; cases e
  | some o =>
    rw [q] at e
    have e' : (b, o) = p := Option.some.inj e
    subst e'
    exact ⟨hb, q⟩
theorem Inv.pinned {pins : List (Addr × Obj)} {σ : St} {H : Hp} {s : Shared} {fp : List Addr} (I : Inv X pins σ H s) (hf : ∀ b ∈ fp, FpOk X pins H b) (ho : ∀ b ∈ fp, ∃ o, s.heap.get? b = some o ∧ ∀ v, o.data ≠ .cell v) : Inv X (pins ++ pinsAt fp s.heap) σ H s :=
  I.pins_of fun p hp => (List.mem_append.mp hp).elim (fun z => I.pin p (List.mem_append_right _ z)) fun z => by
    obtain ⟨hb, e⟩ := of_pinsAt z
    obtain ⟨f0, f1, f2, _⟩ := hf p.1 hb
    obtain ⟨o, e', d⟩ := ho p.1 hb
    rw [e] at e'; cases e'
    exact ⟨e, f0, f1, f2, d⟩
theorem Inv.unpinned {pins pl : List (Addr × Obj)} {σ : St} {H : Hp} {s : Shared} (I : Inv X (pins ++ pl) σ H s) : Inv X pins σ H s := I.pins_of fun p hp => I.pin p (List.mem_append_right _ (List.mem_append_left _ hp))
theorem ps_for {iter : Expr} {body : List Stmt} {wi : TI} {g : TG} {tb : TS} {pos : Pos} (hp : PassesOwn (model X.prog X.w) X.A X.env X.xe) (hc : X.calm = true) (hi : PI X tg iter wi) (hg : PG X tg g) (hb : PSs X body tb)
    (hs : ∀ x, foldedSetIterable iter X.env x = pure x := by intro _; rfl) : PS X (.For tg iter body [] pos) (tFor wi g tb) := by
  intro pins s σ H D I h
  refine wpAny_For (thn (hi pins s σ H _ I h) fun v s1 h1 => thn h1 fun itv s2 h2 => ?_) hs
  obtain ⟨it, fp, tn, J, H2, e, I2, T, st2, f2, W, ⟨m0, w0⟩, turn⟩ := h2
  subst e
  have stat : ∀ {H' : Hp}, (∀ b ∈ fp, H' b = none) → ∀ b ∈ fp, FpOk X pins H' b := fun hn b hb => ⟨hn b hb, (f2 b hb).2⟩
  refine codeAny_forLoop_any (fun n s' => ∃ i σ' H', Inv X pins σ' H' s' ∧ tn i s'.heap ∧ (∀ b ∈ fp, H' b = none) ∧ W i n σ' H') ?_ m0 ⟨0, σ, H2, I2, st2, fun b hb => (f2 b hb).1, w0⟩
  rintro n s3 ⟨i, σ3, H3, I3, st3, fr3, w3⟩
  rcases turn i n σ3 H3 w3 with ⟨stop, qn⟩ | ⟨go, N, hN, step⟩
  · refine wpAny_passesOwn hp (thn (T.done X rfl rfl rfl hc i pins s3 σ3 H3 X.xe I3 (stat fr3) st3 stop) fun r s4 ⟨hr, I4⟩ => ?_)
    subst hr
    exact wpAny_execs_nil ⟨σ3, H3, I4, qn⟩
  · refine wpAny_passesOwn hp (thn (T.item X rfl rfl rfl hc i pins s3 σ3 H3 X.xe I3 (stat fr3) st3 go) fun r s4 ⟨u, hr, h4⟩ => ?_)
    subst hr
    refine wpAny_passesOwn hp (thn h4 fun _ s5 ⟨x, H5, I5, r5, y5, st5, fr5⟩ => ?_)
    have I5' := I5.pinned (stat fr5) (T.obj _ _ st5)
    refine wpAny_passesOwn hp (thn (hg _ s5 σ3 H5 x u _ I5' r5 (step x H5 y5)) fun _ s6 ⟨σ6, H6, I6, q6⟩ => ?_)
    refine wpAny_passesOwn hp (thn (hb _ s6 σ6 H6 _ I6 q6) fun f s7 q7 => ?_)
    have again : ∀ {σ7 : St} {H7 : Hp}, Inv X (pins ++ pinsAt fp s5.heap) σ7 H7 s7 → N σ7 H7 → ∃ m, m < n ∧ ∃ i σ' H', Inv X pins σ' H' s7 ∧ tn i s7.heap ∧ (∀ b ∈ fp, H' b = none) ∧ W i m σ' H' := fun {σ7 H7} I7 n7 => by
      obtain ⟨m', hm, w7⟩ := hN σ7 H7 n7
      refine ⟨m', hm, i + 1, σ7, H7, I7.unpinned, T.keep _ _ _ st5 fun b hb o e => (I7.pin (b, o) (List.mem_append_right _ (List.mem_append_right _ (mem_pinsAt hb e)))).1, fun b hb => ?_, w7⟩
      obtain ⟨o, e, d⟩ := T.obj _ _ st5 b hb
      exact (I7.pin (b, o) (List.mem_append_right _ (List.mem_append_right _ (mem_pinsAt hb e)))).2.1
    cases f with
    | next => obtain ⟨σ7, H7, I7, n7⟩ := q7; exact again I7 n7
    | cont => obtain ⟨σ7, H7, I7, n7⟩ := q7; exact again I7 n7
    | brk => obtain ⟨σ7, H7, I7, q7⟩ := q7; exact ⟨σ7, H7, I7.unpinned, q7⟩
    | ret v => obtain ⟨x7, σ7, H7, I7, r7, q7⟩ := q7; exact ⟨x7, σ7, H7, I7.unpinned, r7, q7⟩
end

/-- over a list that the body leaves as it is -/
theorem for_list {K : PySem.W.Frag} {a : Addr} {xs : List V} {g : TG} {tb : TS} {D : Ends} {σ : St} {H : Hp} (Pv : Nat → St → Hp → Prop) (h0 : Pv 0 σ H) (hl : ∀ i σ H, i ≤ xs.length → Pv i σ H → SqL K H a xs)
    (hs : ∀ i x σ H, xs[i]? = some x → Pv i σ H → g x σ H fun σ2 H2 => tb { D with nx := Pv (i + 1), ct := Pv (i + 1), bk := D.nx } σ2 H2) (hd : ∀ σ H, Pv xs.length σ H → D.nx σ H) :
    ∃ W : Nat → Nat → St → Hp → Prop, (∃ m, W 0 m σ H) ∧ ∀ i m σ H, W i m σ H →
      ((Itl K a).stop i H ∧ D.nx σ H) ∨ ((Itl K a).go i H ∧ ∃ N : St → Hp → Prop, (∀ σ' H', N σ' H' → ∃ m', m' < m ∧ W (i + 1) m' σ' H') ∧ ∀ x H', (Itl K a).yld i H x H' → g x σ H' fun σ2 H2 => tb { D with nx := N, ct := N, bk := D.nx } σ2 H2) := by
  refine ⟨fun i m σ H => m = xs.length - i ∧ i ≤ xs.length ∧ Pv i σ H, ⟨xs.length, by simp, Nat.zero_le _, h0⟩, ?_⟩
  rintro i m σ H ⟨rfl, hi, p⟩
  have q := hl i σ H hi p
  by_cases hlt : i < xs.length
  · refine .inr ⟨⟨xs, xs[i], q, by simp [hlt]⟩, Pv (i + 1), fun σ' H' p' => ⟨xs.length - (i + 1), by omega, rfl, hlt, p'⟩, fun x H' y => ?_⟩
    obtain ⟨e, y⟩ := y
    subst e
    exact hs i x σ _ (y xs q) p
  · have e : i = xs.length := by omega
    subst e
    exact .inl ⟨⟨xs, q, Nat.le_refl _⟩, hd σ H p⟩
theorem for_tup {K : PySem.W.Frag} {a : Addr} {xs : List V} {g : TG} {tb : TS} {D : Ends} {σ : St} {H : Hp} (Pv : Nat → St → Hp → Prop) (h0 : Pv 0 σ H) (hl : ∀ i σ H, i ≤ xs.length → Pv i σ H → SqT K H a xs)
    (hs : ∀ i x σ H, xs[i]? = some x → Pv i σ H → g x σ H fun σ2 H2 => tb { D with nx := Pv (i + 1), ct := Pv (i + 1), bk := D.nx } σ2 H2) (hd : ∀ σ H, Pv xs.length σ H → D.nx σ H) :
    ∃ W : Nat → Nat → St → Hp → Prop, (∃ m, W 0 m σ H) ∧ ∀ i m σ H, W i m σ H →
      ((Itt K a).stop i H ∧ D.nx σ H) ∨ ((Itt K a).go i H ∧ ∃ N : St → Hp → Prop, (∀ σ' H', N σ' H' → ∃ m', m' < m ∧ W (i + 1) m' σ' H') ∧ ∀ x H', (Itt K a).yld i H x H' → g x σ H' fun σ2 H2 => tb { D with nx := N, ct := N, bk := D.nx } σ2 H2) := by
  refine ⟨fun i m σ H => m = xs.length - i ∧ i ≤ xs.length ∧ Pv i σ H, ⟨xs.length, by simp, Nat.zero_le _, h0⟩, ?_⟩
  rintro i m σ H ⟨rfl, hi, p⟩
  have q := hl i σ H hi p
  by_cases hlt : i < xs.length
  · refine .inr ⟨⟨xs, xs[i], q, by simp [hlt]⟩, Pv (i + 1), fun σ' H' p' => ⟨xs.length - (i + 1), by omega, rfl, hlt, p'⟩, fun x H' y => ?_⟩
    obtain ⟨e, y⟩ := y
    subst e
    exact hs i x σ _ (y xs q) p
  · have e : i = xs.length := by omega
    subst e
    exact .inl ⟨⟨xs, q, Nat.le_refl _⟩, hd σ H p⟩
theorem for_range {lo : Int} {n : Nat} {g : TG} {tb : TS} {D : Ends} {σ : St} {H : Hp} (Pv : Nat → St → Hp → Prop) (h0 : Pv 0 σ H)
    (hs : ∀ i σ H, i < n → Pv i σ H → g (.int (lo + i)) σ H fun σ2 H2 => tb { D with nx := Pv (i + 1), ct := Pv (i + 1), bk := D.nx } σ2 H2) (hd : ∀ σ H, Pv n σ H → D.nx σ H) :
    ∃ W : Nat → Nat → St → Hp → Prop, (∃ m, W 0 m σ H) ∧ ∀ i m σ H, W i m σ H →
      ((Itr lo n).stop i H ∧ D.nx σ H) ∨ ((Itr lo n).go i H ∧ ∃ N : St → Hp → Prop, (∀ σ' H', N σ' H' → ∃ m', m' < m ∧ W (i + 1) m' σ' H') ∧ ∀ x H', (Itr lo n).yld i H x H' → g x σ H' fun σ2 H2 => tb { D with nx := N, ct := N, bk := D.nx } σ2 H2) := by
  refine ⟨fun i m σ H => m = n - i ∧ i ≤ n ∧ Pv i σ H, ⟨n, by simp, Nat.zero_le _, h0⟩, ?_⟩
  rintro i m σ H ⟨rfl, hi, p⟩
  by_cases hlt : i < n
  · refine .inr ⟨hlt, Pv (i + 1), fun σ' H' p' => ⟨n - (i + 1), by omega, rfl, hlt, p'⟩, fun x H' y => ?_⟩
    obtain ⟨e, y⟩ := y
    subst e y
    exact hs i σ _ hlt p
  · have e : i = n := by omega
    subst e
    exact .inl ⟨Nat.le_refl _, hd σ H p⟩
end L2

namespace L2
open PySem PySem.Spec PyProof.Rows

abbrev R2 := V → V → Hp → VK → Prop
/-- a two-place operation on values: f is binaryOp op, inplaceOp op or compareOp op -/
def OpR (X : Cx) (f : Value → Value → Sem Value) (r : R2) : Prop :=
  ∀ (pins : List (Addr × Obj)) (s : Shared) (σ : St) (H : Hp) (x y : V) (v u : Value) (Q : VK), Inv X pins σ H s → RelV x v → RelV y u → r x y H Q →
    wpAny (model X.prog X.w) X.A (f v u) (EP X pins σ Q) X.xe s
/-- a one-place operation -/
def UnR (X : Cx) (f : Value → Sem Value) (r : V → Hp → VK → Prop) : Prop :=
  ∀ (pins : List (Addr × Obj)) (s : Shared) (σ : St) (H : Hp) (x : V) (v : Value) (Q : VK), Inv X pins σ H s → RelV x v → r x H Q →
    wpAny (model X.prog X.w) X.A (f v) (EP X pins σ Q) X.xe s
/-- a call of a value that is known (a builtin, a type) with values -/
def CallR (X : Cx) (f : Value) (r : List V → Hp → VK → Prop) : Prop :=
  ∀ (pins : List (Addr × Obj)) (s : Shared) (σ : St) (H : Hp) (xs : List V) (us : List Value) (Q : VK), Inv X pins σ H s → Vals xs us → r xs H Q →
    wpAny (model X.prog X.w) X.A (call f us) (EP X pins σ Q) X.xe s
/-- a value's truth -/
def TruR (X : Cx) (r : V → Hp → (Bool → Hp → Prop) → Prop) : Prop :=
  ∀ (pins : List (Addr × Obj)) (s : Shared) (σ : St) (H : Hp) (x : V) (v : Value) (Q : Bool → Hp → Prop), Inv X pins σ H s → RelV x v → r x H Q →
    wpAny (model X.prog X.w) X.A (truthy v) (TP X pins σ Q) X.xe s

def tOp (r : R2) (ta tb : TE) : TE := fun σ H Q => ta σ H fun x H1 => tb σ H1 fun y H2 => r x y H2 Q
def tUn (r : V → Hp → VK → Prop) (ta : TE) : TE := fun σ H Q => ta σ H fun x H1 => r x H1 Q
/-- ints in, under C, and a value out -/
def rI (C : Int → Int → Prop) (g : Int → Int → V) : R2 := fun x y H Q => ∃ i j, x = .int i ∧ y = .int j ∧ C i j ∧ Q (g i j) H
def rI0 (g : Int → Int → V) : R2 := fun x y H Q => ∃ i j, x = .int i ∧ y = .int j ∧ Q (g i j) H
def rU (g : Int → V) : V → Hp → VK → Prop := fun x H Q => ∃ i, x = .int i ∧ Q (g i) H

section
variable {X : Cx} {a b c : Expr} {ta tb tc : TE} {pos : Pos}

theorem binT (ha : PE X a ta) (hb : PE X b tb) {pins : List (Addr × Obj)} {s : Shared} {σ : St} {H : Hp} {R : V → V → Hp → Prop} (I : Inv X pins σ H s)
    (h : ta σ H fun x H1 => tb σ H1 fun y H2 => R x y H2) {Q : Value → Shared → Prop} {f : Value → Value → Sem Value}
    (hf : ∀ v u s2 x y H2, Inv X pins σ H2 s2 → RelV x v → RelV y u → R x y H2 → wpAny (model X.prog X.w) X.A (f v u) Q X.xe s2) :
    wpAny (model X.prog X.w) X.A (eval a X.env) (fun v s₁ => wpAny (model X.prog X.w) X.A (eval b X.env) (fun u s₂ => wpAny (model X.prog X.w) X.A (f v u) Q X.xe s₂) X.xe s₁) X.xe s := by
  refine thn (ha pins s σ H _ I h) fun v s1 ⟨x, H1, I1, r1, q1⟩ => ?_
  refine thn (hb pins s1 σ H1 _ I1 q1) fun u s2 ⟨y, H2, I2, r2, q2⟩ => ?_
  exact hf v u s2 x y H2 I2 r1 r2 q2

theorem pe_op {op : Operator} {r : R2} (ho : OpR X (binaryOp op) r) (ha : PE X a ta) (hb : PE X b tb) : PE X (.BinOp a op b pos) (tOp r ta tb) := by
  intro pins s σ H Q I h
  exact wpAny_BinOp (binT ha hb I h fun v u s2 x y H2 I2 rx ry q => ho pins s2 σ H2 x y v u Q I2 rx ry q)
theorem pe_un {op : UnaryOp} {r : V → Hp → VK → Prop} (ho : UnR X (unaryOp op) r) (ha : PE X a ta) : PE X (.UnaryOp op a pos) (tUn r ta) := by
  intro pins s σ H Q I h
  exact UnaryOp_ (thn (ha pins s σ H _ I h) fun v s1 ⟨x, H1, I1, r1, q1⟩ => ho pins s1 σ H1 x v Q I1 r1 q1)
theorem opI {f : Value → Value → Sem Value} {C : Int → Int → Prop} {g : Int → Int → Int}
    (rule : ∀ (i j : Int) (t u : Tok) (s : Shared) (Q : Value → Shared → Prop) (E : Value → Shared → Prop), C i j → Q (.int (g i j) s.toks) { s with toks := s.toks + 1 } → wpAny (model X.prog X.w) X.A (f (.int i t) (.int j u)) Q E s) :
    OpR X f (rI C fun i j => .int (g i j)) := by
  intro pins s σ H x y v u Q I rx ry h
  obtain ⟨i, j, rfl, rfl, hc, q⟩ := h
  obtain ⟨t, rfl⟩ := rx
  obtain ⟨t', rfl⟩ := ry
  exact rule i j t t' s _ _ hc ⟨.int (g i j), H, I.tok _, ⟨_, rfl⟩, q⟩
theorem opI0 {f : Value → Value → Sem Value} {g : Int → Int → Int}
    (rule : ∀ (i j : Int) (t u : Tok) (s : Shared) (Q : Value → Shared → Prop) (E : Value → Shared → Prop), Q (.int (g i j) s.toks) { s with toks := s.toks + 1 } → wpAny (model X.prog X.w) X.A (f (.int i t) (.int j u)) Q E s) :
    OpR X f (rI0 fun i j => .int (g i j)) := by
  intro pins s σ H x y v u Q I rx ry h
  obtain ⟨i, j, rfl, rfl, q⟩ := h
  obtain ⟨t, rfl⟩ := rx
  obtain ⟨t', rfl⟩ := ry
  exact rule i j t t' s _ _ ⟨.int (g i j), H, I.tok _, ⟨_, rfl⟩, q⟩
theorem opB0 {f : Value → Value → Sem Value} {g : Int → Int → Bool}
    (rule : ∀ (i j : Int) (t u : Tok) (s : Shared) (Q : Value → Shared → Prop) (E : Value → Shared → Prop), Q (.bool (g i j)) s → wpAny (model X.prog X.w) X.A (f (.int i t) (.int j u)) Q E s) :
    OpR X f (rI0 fun i j => .bl (g i j)) := by
  intro pins s σ H x y v u Q I rx ry h
  obtain ⟨i, j, rfl, rfl, q⟩ := h
  obtain ⟨t, rfl⟩ := rx
  obtain ⟨t', rfl⟩ := ry
  exact rule i j t t' s _ _ ⟨.bl (g i j), H, I, rfl, q⟩

def CPow (i j : Int) : Prop := 0 ≤ j ∧ j ≤ 1000000 ∧ i.natAbs < 2 ^ 64
def CMul (i j : Int) : Prop := (-(2 ^ 64) < i ∧ i < 2 ^ 64) ∨ (-(2 ^ 64) < j ∧ j < 2 ^ 64)
theorem CMul.ok {i j : Int} (h : CMul i j) : IntMulOk i j := by
  rcases h with ⟨h1, h2⟩ | ⟨h1, h2⟩
  · exact .of_left (intBits_le_64 h1 h2)
  · exact .of_right (intBits_le_64 h1 h2)
theorem op_add : OpR X (binaryOp .Add) (rI0 fun i j => .int (i + j)) := opI0 fun _ _ _ _ _ _ _ q => add_int q
theorem op_sub : OpR X (binaryOp .Sub) (rI0 fun i j => .int (i - j)) := opI0 fun _ _ _ _ _ _ _ q => sub_int q
theorem op_mul : OpR X (binaryOp .Mult) (rI CMul fun i j => .int (i * j)) := opI fun _ _ _ _ _ _ _ hc q => mul_int q hc.ok
/-- % by a positive divisor of any size -/
theorem op_mod : OpR X (binaryOp .Mod) (rI (fun _ j => 0 < j) fun i j => .int (i % j)) := opI fun i j _ _ _ _ _ hc q => by
  have h1 : (0 : Int) < j := hc
  exact mod_int' (by omega) (by rw [Int.fmod_eq_emod_of_nonneg i (by omega)]; exact q)
theorem op_pow : OpR X (binaryOp .Pow) (rI CPow fun i j => .int (i ^ j.toNat)) := opI fun _ _ _ _ _ _ _ hc q => pow_int_small hc.1 hc.2.1 hc.2.2 q
theorem unI {f : Value → Sem Value} {g : Int → Int}
    (rule : ∀ (i : Int) (t : Tok) (s : Shared) (Q : Value → Shared → Prop) (E : Value → Shared → Prop), Q (.int (g i) s.toks) { s with toks := s.toks + 1 } → wpAny (model X.prog X.w) X.A (f (.int i t)) Q E s) :
    UnR X f (rU fun i => .int (g i)) := by
  intro pins s σ H x v Q I rx h
  obtain ⟨i, rfl, q⟩ := h
  obtain ⟨t, rfl⟩ := rx
  exact rule i t s _ _ ⟨.int (g i), H, I.tok _, ⟨_, rfl⟩, q⟩
theorem un_neg : UnR X (unaryOp .USub) (rU fun i => .int (-i)) := unI fun _ _ _ _ _ q => neg_int q
end

/-- the scalars that == tells apart as data does -/
def scal : V → V → Bool
  | .non, .non => true | .non, .int _ => true | .int _, .non => true | .non, .bl _ => true | .bl _, .non => true | .non, .str _ => true | .str _, .non => true
  | .int _, .int _ => true | .bl _, .bl _ => true | .str _, .str _ => true | .byt _, .byt _ => true
  | .int _, .str _ => true | .str _, .int _ => true | .bl _, .str _ => true | .str _, .bl _ => true
  | _, _ => false
def rEq : R2 := fun x y H Q => scal x y = true ∧ Q (.bl (decide (x = y))) H
def rNe : R2 := fun x y H Q => scal x y = true ∧ Q (.bl (!decide (x = y))) H

theorem dec_int {i j : Int} : decide (V.int i = V.int j) = (i == j) := by
  rw [Bool.eq_iff_iff]
  simp
theorem dec_bl {i j : Bool} : decide (V.bl i = V.bl j) = (i == j) := by
  rw [Bool.eq_iff_iff]
  simp
theorem dec_str {i j : Str} : decide (V.str i = V.str j) = (i == j) := by
  rw [Bool.eq_iff_iff]
  simp
theorem dec_byt {i j : Array UInt8} : decide (V.byt i = V.byt j) = (i.toList == j.toList) := by
  rw [Bool.eq_iff_iff]
  cases i
  cases j
  simp

section
variable {X : Cx} {a b c : Expr} {ta tb tc : TE} {pos : Pos}
theorem fin_bl {pins : List (Addr × Obj)} {σ : St} {H : Hp} {s : Shared} {Q : VK} {k k' : Bool} (I : Inv X pins σ H s) (q : Q (.bl k) H) (e : k = k') : EP X pins σ Q (.bool k') s := by
  subst e
  exact ⟨.bl k, H, I, rfl, q⟩
theorem op_eq : OpR X (compareOp .Eq) rEq := by
  intro pins s σ H x y v u Q I rx ry h
  obtain ⟨hs, q⟩ := h
  cases x with
  | non =>
    cases rx
    cases y with
    | non => cases ry; exact PySem.EqNone.eq_none_none (fin_bl I q (by simp))
    | bl j => cases ry; exact PySem.EqNone.eq_none_bool (fin_bl I q (by simp))
    | int j => obtain ⟨t', rfl⟩ := ry; exact PySem.EqNone.eq_none_int (fin_bl I q (by simp))
    | str j => obtain ⟨t', rfl⟩ := ry; exact PySem.EqNone.eq_none_str (fin_bl I q (by simp))
    | _ => exact absurd (show false = true from hs) Bool.false_ne_true
  | bl i =>
    cases rx
    cases y with
    | non => cases ry; exact PySem.EqNone.eq_bool_none (fin_bl I q (by simp))
    | bl j => cases ry; exact eq_bool (fin_bl I q dec_bl)
    | str j => obtain ⟨t', rfl⟩ := ry; exact PySem.EqMixed.eq_bool_str (fin_bl I q (by simp))
    | _ => exact absurd (show false = true from hs) Bool.false_ne_true
  | int i =>
    obtain ⟨t, rfl⟩ := rx
    cases y with
    | non => cases ry; exact PySem.EqNone.eq_int_none (fin_bl I q (by simp))
    | int j => obtain ⟨t', rfl⟩ := ry; exact eq_int (fin_bl I q dec_int)
    | str j => obtain ⟨t', rfl⟩ := ry; exact PySem.EqMixed.eq_int_str (fin_bl I q (by simp))
    | _ => exact absurd (show false = true from hs) Bool.false_ne_true
  | str i =>
    obtain ⟨t, rfl⟩ := rx
    cases y with
    | non => cases ry; exact PySem.EqNone.eq_str_none (fin_bl I q (by simp))
    | bl j => cases ry; exact PySem.EqMixed.eq_str_bool (fin_bl I q (by simp))
    | int j => obtain ⟨t', rfl⟩ := ry; exact PySem.EqMixed.eq_str_int (fin_bl I q (by simp))
    | str j => obtain ⟨t', rfl⟩ := ry; exact eq_str (fin_bl I q dec_str)
    | _ => exact absurd (show false = true from hs) Bool.false_ne_true
  | byt i =>
    obtain ⟨t, rfl⟩ := rx
    cases y with
    | byt j => obtain ⟨t', rfl⟩ := ry; exact PySem.W.eq_bytes (fin_bl I q dec_byt)
    | _ => exact absurd (show false = true from hs) Bool.false_ne_true
  | _ => cases y <;> exact absurd (show false = true from hs) Bool.false_ne_true
theorem op_ne : OpR X (compareOp .NotEq) rNe := by
  intro pins s σ H x y v u Q I rx ry h
  obtain ⟨hs, q⟩ := h
  cases x with
  | non =>
    cases rx
    cases y with
    | non => cases ry; exact PySem.EqNone.ne_none_none (fin_bl I q (by simp))
    | bl j => cases ry; exact PySem.EqNone.ne_none_bool (fin_bl I q (by simp))
    | int j => obtain ⟨t', rfl⟩ := ry; exact PySem.EqNone.ne_none_int (fin_bl I q (by simp))
    | str j => obtain ⟨t', rfl⟩ := ry; exact PySem.EqNone.ne_none_str (fin_bl I q (by simp))
    | _ => exact absurd (show false = true from hs) Bool.false_ne_true
  | bl i =>
    cases rx
    cases y with
    | non => cases ry; exact PySem.EqNone.ne_bool_none (fin_bl I q (by simp))
    | bl j => cases ry; exact ne_bool (fin_bl I q (congrArg not dec_bl))
    | str j => obtain ⟨t', rfl⟩ := ry; exact PySem.EqMixed.ne_bool_str (fin_bl I q (by simp))
    | _ => exact absurd (show false = true from hs) Bool.false_ne_true
  | int i =>
    obtain ⟨t, rfl⟩ := rx
    cases y with
    | non => cases ry; exact PySem.EqNone.ne_int_none (fin_bl I q (by simp))
    | int j => obtain ⟨t', rfl⟩ := ry; exact ne_int (fin_bl I q (congrArg not dec_int))
    | str j => obtain ⟨t', rfl⟩ := ry; exact PySem.EqMixed.ne_int_str (fin_bl I q (by simp))
    | _ => exact absurd (show false = true from hs) Bool.false_ne_true
  | str i =>
    obtain ⟨t, rfl⟩ := rx
    cases y with
    | non => cases ry; exact PySem.EqNone.ne_str_none (fin_bl I q (by simp))
    | bl j => cases ry; exact PySem.EqMixed.ne_str_bool (fin_bl I q (by simp))
    | int j => obtain ⟨t', rfl⟩ := ry; exact PySem.EqMixed.ne_str_int (fin_bl I q (by simp))
    | str j => obtain ⟨t', rfl⟩ := ry; exact ne_str (fin_bl I q (congrArg not dec_str))
    | _ => exact absurd (show false = true from hs) Bool.false_ne_true
  | byt i =>
    obtain ⟨t, rfl⟩ := rx
    cases y with
    | byt j => obtain ⟨t', rfl⟩ := ry; exact PySem.W.ne_bytes (fin_bl I q (congrArg not dec_byt))
    | _ => exact absurd (show false = true from hs) Bool.false_ne_true
  | _ => cases y <;> exact absurd (show false = true from hs) Bool.false_ne_true

theorem op_lt : OpR X (compareOp .Lt) (rI0 fun i j => .bl (decide (i < j))) := opB0 fun _ _ _ _ _ _ _ q => lt_int q
theorem op_le : OpR X (compareOp .LtE) (rI0 fun i j => .bl (decide (i ≤ j))) := opB0 fun _ _ _ _ _ _ _ q => le_int q
theorem op_gt : OpR X (compareOp .Gt) (rI0 fun i j => .bl (decide (j < i))) := opB0 fun _ _ _ _ _ _ _ q => gt_int q
theorem op_ge : OpR X (compareOp .GtE) (rI0 fun i j => .bl (decide (j ≤ i))) := opB0 fun _ _ _ _ _ _ _ q => ge_int q
/-- the one string within the other -/
theorem op_in_str : OpR X (compareOp .In) (fun x y H Q => ∃ i j, x = .str i ∧ y = .str j ∧ Q (.bl (!(Builtin.Str.occurrences j i 0 j.length 1).isEmpty)) H) := by
  intro pins s σ H x y v u Q I rx ry h
  obtain ⟨i, j, rfl, rfl, q⟩ := h
  obtain ⟨t, rfl⟩ := rx
  obtain ⟨t', rfl⟩ := ry
  exact in_str (fin_bl I q rfl)

theorem nomark (b : Expr) {op : CmpOp} (h : op ≠ .In := by decide) (h2 : op ≠ .NotIn := by decide) : behindInMarks op b = false := by
  have e1 : (op == CmpOp.In) = false := by cases op <;> first | rfl | exact absurd rfl h
  have e2 : (op == CmpOp.NotIn) = false := by cases op <;> first | rfl | exact absurd rfl h2
  cases b <;> simp [behindInMarks, e1, e2]
/-- a comparison as a value; hm: nomark b, or (for in, not in) by with_unfolding_all rfl -/
theorem pe_cmpR {op : CmpOp} {r : R2} (ho : OpR X (compareOp op) r) (ha : PE X a ta) (hb : PE X b tb) (hm : behindInMarks op b = false) : PE X (.Compare a [op] [b] pos) (tOp r ta tb) := by
  intro pins s σ H Q I h
  exact wpAny_Compare1 (binT ha hb I h fun v u s2 x y H2 I2 rx ry q => ho pins s2 σ H2 x y v u Q I2 rx ry q) hm
/-- a reading of a value as a test -/
def tTest (t : TE) : TT := fun σ H Q => t σ H fun x H' => ∃ k, x = .bl k ∧ Q k H'
theorem pt_cmpR {op : CmpOp} {r : R2} (ho : OpR X (compareOp op) r) (ha : PE X a ta) (hb : PE X b tb) (hm : behindInMarks op b = false) : PT X (.Compare a [op] [b] pos) (tTest (tOp r ta tb)) := by
  intro pins s σ H Q I h
  refine wpAny_isTrue_Compare1 (thn (ha pins s σ H _ I h) fun v s1 ⟨x, H1, I1, r1, q1⟩ => thn (hb pins s1 σ H1 _ I1 q1) fun u s2 ⟨y, H2, I2, r2, q2⟩ =>
    thn (ho pins s2 σ H2 x y v u _ I2 r1 r2 q2) fun c s3 ⟨z, H3, I3, r3, k, e, q3⟩ => ?_) hm
  subst e
  cases r3
  exact wpAny_truthy_bool ⟨H3, I3, q3⟩
/-- a op1 b op2 c -/
def tChain (r r' : R2) (ta tb tc : TE) : TE := fun σ H Q => ta σ H fun x H1 => tb σ H1 fun y H2 => r x y H2 fun z H3 => ∃ k, z = .bl k ∧
  (if k = true then tc σ H3 fun w' H4 => r' y w' H4 Q else Q (.bl false) H3)
theorem pt_chain {op op' : CmpOp} {r r' : R2} (ho : OpR X (compareOp op) r) (ho' : OpR X (compareOp op') r') (ha : PE X a ta) (hb : PE X b tb) (hc : PE X c tc)
    (hm : lastMarks [op, op'] [b, c] = false := by with_unfolding_all rfl) : PT X (.Compare a [op, op'] [b, c] pos) (tTest (tChain r r' ta tb tc)) := by
  intro pins s σ H Q I h
  refine isTrue_chain (thn (ha pins s σ H _ I h) fun v s1 ⟨x, H1, I1, r1, q1⟩ => test_link (thn (hb pins s1 σ H1 _ I1 q1) fun u s2 ⟨y, H2, I2, r2, q2⟩ =>
    thn (ho pins s2 σ H2 x y v u _ I2 r1 r2 q2) fun d s3 ⟨z, H3, I3, r3, k, e, q3⟩ => ?_)) hm
  subst e
  cases r3
  refine wpAny_truthy_bool ?_
  cases k with
  | false =>
    obtain ⟨k', e', q'⟩ := q3
    cases e'
    exact ite_ff ⟨H3, I3, q'⟩
  | true =>
    refine ite_tt (test_last (thn (hc pins s3 σ H3 _ I3 q3) fun w' s4 ⟨z', H4, I4, r4, q4⟩ => thn (ho' pins s4 σ H4 y z' u w' _ I4 r2 r4 q4) fun d' s5 ⟨z2, H5, I5, r5, k2, e2, q5⟩ => ?_))
    subst e2
    cases r5
    exact wpAny_truthy_bool ⟨H5, I5, q5⟩

/-- a value's truth by the abstract heap -/
def TruV (K : PySem.W.Frag) (x : V) (H : Hp) (k : Bool) : Prop :=
  match x with
  | .non => k = false
  | .bl b => k = b
  | .int i => k = (i != 0)
  | .str y => y.length ≤ sizeLine ∧ k = ((y.length : Int) != 0)
  | .byt y => y.size ≤ sizeLine ∧ k = ((y.size : Int) != 0)
  | .ref p => (∃ xs, SqL K H p xs ∧ k = !xs.isEmpty) ∨ (∃ xs, SqT K H p xs ∧ k = !xs.isEmpty) ∨ ∃ kvs, H p = some (.dK kvs) ∧ k = !kvs.isEmpty
  | _ => False
theorem isEmpty_kv {κ : Type} {kvs : List (κ × V)} {vs : List (κ × Value)} (r : KV kvs vs) : (!vs.isEmpty) = !kvs.isEmpty := by
  cases r <;> rfl
theorem isEmpty_of {xs : List V} {its : List Value} (r : Vals xs its) : (!its.toArray.isEmpty) = !xs.isEmpty := by
  cases r <;> simp
theorem line63 : (sizeLine : Nat) < 2 ^ 63 := by rw [sizeLine_eq]; decide
theorem tru_ok : TruR X (fun x H Q => ∃ k, TruV X.K x H k ∧ Q k H) := by
  intro pins s σ H x v Q I rx h
  obtain ⟨k, e, q⟩ := h
  have hl := line63
  have hs : sizeLine = 16777216 := sizeLine_eq
  cases x with
  | non =>
    cases rx
    have e' : k = false := e
    subst e'
    exact truthy_none ⟨H, I, q⟩
  | bl b =>
    cases rx
    have e' : k = b := e
    subst e'
    exact wpAny_truthy_bool ⟨H, I, q⟩
  | int i =>
    obtain ⟨t, rfl⟩ := rx
    have e' : k = (i != 0) := e
    subst e'
    exact PySem.P.truthy_int ⟨H, I, q⟩
  | str y =>
    obtain ⟨t, rfl⟩ := rx
    obtain ⟨hy, e'⟩ : y.length ≤ sizeLine ∧ k = ((y.length : Int) != 0) := e
    subst e'
    exact PySem.P.truthy_str (by omega) ⟨H, I.tok _, q⟩
  | byt y =>
    obtain ⟨t, rfl⟩ := rx
    obtain ⟨hy, e'⟩ : y.size ≤ sizeLine ∧ k = ((y.size : Int) != 0) := e
    subst e'
    exact PySem.W.truthy_bytes (by omega) ⟨H, I.tok _, q⟩
  | ref p =>
    cases rx
    have e' : (∃ xs, SqL X.K H p xs ∧ k = !xs.isEmpty) ∨ (∃ xs, SqT X.K H p xs ∧ k = !xs.isEmpty) ∨ ∃ kvs, H p = some (.dK kvs) ∧ k = !kvs.isEmpty := e
    rcases e' with ⟨xs, hx, e'⟩ | ⟨xs, hx, e'⟩ | ⟨kvs, hx, e'⟩
    · subst e'
      obtain ⟨its, r, pl, hz⟩ := I.list hx
      have hlen := r.length
      exact wpAny_truthy_list pl.isList (by simp only [List.size_toArray]; omega) ⟨H, I.tok _, by rw [isEmpty_of r]; exact q⟩
    · subst e'
      obtain ⟨its, r, pl, hz⟩ := I.tuple hx
      have hlen := r.length
      exact truthy_tuple pl (by simp only [List.size_toArray]; omega) ⟨H, I.tok _, by rw [isEmpty_of r]; exact q⟩
    · subst e'
      obtain ⟨hz, hS, vs, r, m⟩ : kvs.length ≤ sizeLine ∧ (p == sysModules) = false ∧ ∃ vs, KV kvs vs ∧ s.heap.DictOf (mixKind X.prog X.w) p vs := I.hok p _ hx
      have hlen : kvs.length = vs.length := Paired.length r
      exact wpAny_truthy_dict hS m (by omega) ⟨H, I.tok _, by rw [isEmpty_kv r]; exact q⟩
  | _ => exact (show False from e).elim
/-- any expression whose test is its value's truth (a name, a call, a subscript, a field ..: he by fun _ => rfl) -/
theorem pt_truth (ha : PE X a ta) (he : ∀ whole, isTrue a X.env whole = (do let v ← whole; standAt a.pos; holding [v] (truthy v))) :
    PT X a (fun σ H Q => ta σ H fun x H' => ∃ k, TruV X.K x H' k ∧ Q k H') := by
  intro pins s σ H Q I h
  exact isTrue_plain (thn (ha pins s σ H _ I h) fun v s1 ⟨x, H1, I1, r1, q1⟩ => tru_ok pins s1 σ H1 x v Q I1 r1 q1) (he _)

theorem op_add_str : OpR X (binaryOp .Add) (fun x y H Q => ∃ i j, x = .str i ∧ y = .str j ∧ i.length + j.length ≤ sizeLine ∧ Q (.str (i ++ j)) H) := by
  intro pins s σ H x y v u Q I rx ry h
  obtain ⟨i, j, rfl, rfl, hz, q⟩ := h
  obtain ⟨t, rfl⟩ := rx
  obtain ⟨t', rfl⟩ := ry
  exact add_str (fun t' tk => ⟨.str (i ++ j), H, I.tok _, ⟨_, rfl⟩, q⟩) hz
theorem vals1 {x : V} {us : List Value} (r : Vals [x] us) : ∃ u, us = [u] ∧ RelV x u := by
  cases r with
  | cons r1 r2 => cases r2; exact ⟨_, rfl, r1⟩
theorem call_abs : CallR X (.builtin "abs") (fun xs H Q => ∃ i, xs = [.int i] ∧ Q (.int (if i < 0 then -i else i)) H) := by
  intro pins s σ H xs us Q I r h
  obtain ⟨i, rfl, q⟩ := h
  obtain ⟨u, rfl, t, rfl⟩ := vals1 r
  exact call_abs_int fun u tk => ⟨.int (if i < 0 then -i else i), H, I.tok _, ⟨_, rfl⟩, q⟩
theorem call_int1 : CallR X (.type "int") (fun xs H Q => (∃ i, xs = [.int i] ∧ Q (.int i) H) ∨ ∃ k, xs = [.bl k] ∧ Q (.int (if k then 1 else 0)) H) := by
  intro pins s σ H xs us Q I r h
  rcases h with ⟨i, rfl, q⟩ | ⟨k, rfl, q⟩
  · obtain ⟨u, rfl, t, rfl⟩ := vals1 r
    exact call_int_int ⟨.int i, H, I, ⟨_, rfl⟩, q⟩
  · obtain ⟨u, rfl, r1⟩ := vals1 r
    cases r1
    exact call_int_bool ⟨.int (if k then 1 else 0), H, I.tok _, ⟨_, rfl⟩, q⟩
/-- len of a str, a bytes, a list, a tuple -/
def LenV (K : PySem.W.Frag) (x : V) (H : Hp) (n : Nat) : Prop :=
  match x with
  | .str y => y.length ≤ sizeLine ∧ n = y.length
  | .byt y => y.size ≤ sizeLine ∧ n = y.size
  | .ref p => (∃ xs, SqL K H p xs ∧ n = xs.length) ∨ ∃ xs, SqT K H p xs ∧ n = xs.length
  | _ => False
theorem call_len : CallR X (.builtin "len") (fun xs H Q => ∃ x n, xs = [x] ∧ LenV X.K x H n ∧ Q (.int n) H) := by
  intro pins s σ H xs us Q I r h
  obtain ⟨x, n, rfl, e, q⟩ := h
  obtain ⟨u, rfl, rx⟩ := vals1 r
  have hl := line63
  have hs : sizeLine = 16777216 := sizeLine_eq
  cases x with
  | str y =>
    obtain ⟨t, rfl⟩ := rx
    obtain ⟨hy, e'⟩ : y.length ≤ sizeLine ∧ n = y.length := e
    subst e'
    exact len_str (by omega) ⟨.int _, H, I.tok _, ⟨_, rfl⟩, q⟩
  | byt y =>
    obtain ⟨t, rfl⟩ := rx
    obtain ⟨hy, e'⟩ : y.size ≤ sizeLine ∧ n = y.size := e
    subst e'
    exact PySem.W.len_bytes (by omega) ⟨.int _, H, I.tok _, ⟨_, rfl⟩, q⟩
  | ref p =>
    cases rx
    have e' : (∃ xs, SqL X.K H p xs ∧ n = xs.length) ∨ ∃ xs, SqT X.K H p xs ∧ n = xs.length := e
    rcases e' with ⟨xs, hx, e'⟩ | ⟨xs, hx, e'⟩
    · subst e'
      obtain ⟨its, r', pl, hz⟩ := I.list hx
      have hlen := r'.length
      exact Calls.call_len_list pl.isList (by simp only [List.size_toArray]; omega) ⟨.int xs.length, H, I.tok _, ⟨_, by simp only [List.size_toArray]; rw [hlen]⟩, q⟩
    · subst e'
      obtain ⟨its, r', pl, hz⟩ := I.tuple hx
      have hlen := r'.length
      exact len_tuple pl (by simp only [List.size_toArray]; omega) ⟨.int xs.length, H, I.tok _, ⟨_, by simp only [List.size_toArray]; rw [hlen]⟩, q⟩
  | _ => exact (show False from e).elim
end
end L2

namespace L2
open PySem PySem.Spec PyProof.Rows

structure ObjM (h : Heap) (x dx C : Addr) (mA : Str → Option Value) : Prop where
  obj : h.get? x = some (PySem.W.instObj C dx)
  ns : h.Ns1 dx mA
  ne : dx ≠ x

theorem lookIn_ns {h : Heap} {dx : Addr} {mA : Str → Option Value} (n : h.Ns1 dx mA) : ∃ od, h.get? dx = some od ∧ ∀ name, PySem.W.lookIn name od = some (mA name) := by
  obtain ⟨o, es, ep, ho, hd, hk, _, hm⟩ := n
  refine ⟨o, ho, fun name => ?_⟩
  have e := hm name
  unfold nsFind findBy at e
  rw [← Array.find?_toList] at e
  unfold PySem.W.lookIn
  rw [hd]
  dsimp only
  split
  · rename_i y q
    rw [q] at e
    exact congrArg some e
  · rename_i q
    rw [q] at e
    have a : es.toList.any (·.refKey) = false := by
      rw [List.any_eq_false]
      intro y hy
      obtain ⟨z, t, hkey⟩ := hk y (Array.mem_toList_iff.mp hy)
      simp [DictEntry.refKey, hkey]
    have a' : ¬ es.toList.any (·.refKey) = true := by rw [a]; exact Bool.false_ne_true
    rw [if_neg a']
    exact congrArg some e

theorem ObjM.look {h : Heap} {x dx C : Addr} {mA : Str → Option Value} (I : ObjM h x dx C mA) : ∃ od, PySem.W.InstAt h x (PySem.W.instObj C dx) C (some od) ∧ ∀ name, PySem.W.lookIn name od = some (mA name) :=
  let ⟨od, ho, hl⟩ := lookIn_ns I.ns
  ⟨od, ⟨I.obj, rfl, rfl, ho⟩, hl⟩

section
variable {prog : Program} {w : World} {A : Around} {E : Value → Shared → Prop} {s : Shared} {K : PySem.W.Frag} {x dx C f : Addr} {mA : Str → Option Value} {name : Str} {v : Value}

end

def putF (f : Str) (v : V) : List (Str × V) → List (Str × V)
  | [] => [(f, v)]
  | (g, x) :: r => if g = f then (g, v) :: r else (g, x) :: putF f v r
theorem RelO.some_of {v : V} {o : Option Value} (r : RelO (some v) o) : ∃ u, o = some u ∧ RelV v u := by
  cases o with
  | none => exact (show False from r).elim
  | some u => exact ⟨u, rfl, r⟩
section
variable {P : Program} {w : World} {H H' : Hp} {h h' : Heap} {a C dx : Addr} {fs fs' : List (Str × V)}
theorem ins_get (hok : HOk P w H h) (e : H a = some (.ins C dx fs)) : ∃ mA, ObjM h a dx C mA ∧ (∀ f, RelO (fs.lookup f) (mA f)) ∧ PySem.Within mA (fs.map (·.1)) ∧ fs.length ≤ 1000 ∧ H dx = some (.own a) := by
  obtain ⟨d, z, ne, ob, mA, n, r, q⟩ := (show ObjOk P w H h a (.ins C dx fs) from hok a _ e)
  exact ⟨mA, ⟨ob, n, ne⟩, r, q, z, d⟩
end

structure Cls (K : PySem.W.Frag) (C : Addr) : Prop where
  pg : PySem.W.plainGet K C Str.empty = true
  hd : PySem.W.hasDictIn K C = true
  po : PySem.W.plainOver K C = true
  sa : PySem.W.findIn K (.ref C) "__setattr__" = some (some (.builtin "object.__setattr__"))
theorem Cls.get {K : PySem.W.Frag} {C : Addr} (c : Cls K C) (f : Str) : PySem.W.plainGet K C f = true := c.pg
/-- no class of it has the name -/
def NoAttr (K : PySem.W.Frag) (C : Addr) (f : Str) : Prop := PySem.W.findIn K (.ref C) f = some none
section
variable {X : Cx} {pins : List (Addr × Obj)} {σ : St} {H : Hp} {s : Shared} {a C dx : Addr} {fs : List (Str × V)} {f : Str} {v : V} {A : Around} {E : Value → Shared → Prop}

end

/-- e.f, an attribute of the instance -/
def tFld (K : PySem.W.Frag) (ta : TE) (f : Str) : TE := fun σ H Q => ta σ H fun x H1 => ∃ a C dx fs v, x = .ref a ∧ H1 a = some (.ins C dx fs) ∧ Cls K C ∧ NoAttr K C f ∧ fs.lookup f = some v ∧ Q v H1
/-- e.f = value -/
def sFld (K : PySem.W.Frag) (ta tv : TE) (f : Str) : TS := fun D σ H => tv σ H fun y H1 => ta σ H1 fun x H2 => ∃ a C dx fs, x = .ref a ∧ H2 a = some (.ins C dx fs) ∧ Cls K C ∧ NoAttr K C f ∧ fs.length < 1000 ∧
  D.nx σ (upd H2 a (.ins C dx (putF f y fs)))
section
variable {X : Cx} {o e value : Expr} {f : Str} {pos pos' tpos : Pos} {ta tv : TE}
end

section
variable {X : Cx} {pins : List (Addr × Obj)} {σ : St} {H : Hp} {s : Shared} {A : Around} {E : Value → Shared → Prop} {Q : Value → Shared → Prop} {c : Value} {b : Bool}
/-- the type of a value, as the fragment's deciders take it; for an instance its class -/
inductive TyOf (K : PySem.W.Frag) (H : Hp) : V → Value → Prop where
  | non : TyOf K H .non (.type "NoneType")
  | bl (x : Bool) : TyOf K H (.bl x) (.type "bool")
  | int (i : Int) : TyOf K H (.int i) (.type "int")
  | str (x : Str) : TyOf K H (.str x) (.type "str")
  | flt (x : UInt64) : TyOf K H (.flt x) (.type "float")
  | lst {a : Addr} {xs : List V} (e : H a = some (.lst xs)) : TyOf K H (.ref a) (.type "list")
  | frz {a : Addr} {o : Obj} {xs : List V} (e : H a = some (.frz o (.lst xs))) : TyOf K H (.ref a) (.type "list")
  | tup {a : Addr} {xs : List V} (e : H a = some (.tup xs)) : TyOf K H (.ref a) (.type "tuple")
  | dK {a : Addr} {kvs : List (Key × V)} (e : H a = some (.dK kvs)) : TyOf K H (.ref a) (.type "dict")
  | dT {a : Addr} {kvs : List (List Key × V)} (e : H a = some (.dT kvs)) : TyOf K H (.ref a) (.type "dict")
  | ins {a C dx : Addr} {fs : List (Str × V)} (e : H a = some (.ins C dx fs)) (cl : Cls K C) (ha : PySem.W.findIn K (.ref C) "__class__" = some (some (.builtin "object.__class__")))
      (hn : PySem.W.specialIn K (.builtin "object.__class__") "__get__" = some (some (.builtin "getset_descriptor.__get__"))) (htk : PySem.W.takesIn K (.builtin "object.__class__") = some true)
      (hm : PySem.W.mroIn K C (.type "object") = some true) : TyOf K H (.ref a) (.ref C)
/-- isinstance(x, c) for one class c, a built-in or an own one: kitOne's answer -/
theorem isinst_ok {x : V} {u t : Value} (I : Inv X pins σ H s) (rx : RelV x u) (ty : TyOf X.K H x t) (e : PySem.W.kitOne X.K t c = some b) (h : ∀ tk, Q (.bool b) { s with toks := tk }) :
    wpAny (model X.prog X.w) A (call (.builtin "isinstance") [u, c]) Q E s := by
  cases ty with
  | non => cases (show u = Value.none from rx); exact PySem.W.kia_one PySem.W.kitx_none I.kIn True.intro e (fun z => nomatch z) h
  | bl y => cases (show u = Value.bool y from rx); exact PySem.W.kia_one PySem.W.kitx_bool I.kIn True.intro e (fun z => nomatch z) h
  | int i => obtain ⟨t, q⟩ := (show ∃ t, u = Value.int i t from rx); cases q; exact PySem.W.kia_one PySem.W.kitx_int I.kIn True.intro e (fun z => nomatch z) h
  | str y => obtain ⟨t, q⟩ := (show ∃ t, u = Value.str y t from rx); cases q; exact PySem.W.kia_one PySem.W.kitx_str I.kIn True.intro e (fun z => nomatch z) h
  | flt y => obtain ⟨t, q⟩ := (show ∃ t, u = Value.float y t from rx); cases q; exact PySem.W.kia_one PySem.W.kitx_float I.kIn True.intro e (fun z => nomatch z) h
  | @lst a xs ea =>
    cases (show u = Value.ref a from rx)
    obtain ⟨_, _, n, _, h1⟩ := (show ObjOk X.prog X.w H s.heap a (.lst xs) from I.hok a _ ea)
    exact PySem.W.kia_one PySem.W.kitx_list I.kIn ⟨_, h1, rfl⟩ e (fun z => nomatch z) h
  | @frz a ob xs ea =>
    cases (show u = Value.ref a from rx)
    obtain ⟨_, _, _, n, _, h1⟩ := (show ObjOk X.prog X.w H s.heap a (.frz ob (.lst xs)) from I.hok a _ ea)
    exact PySem.W.kia_one PySem.W.kitx_list I.kIn ⟨_, h1, rfl⟩ e (fun z => nomatch z) h
  | @tup a xs ea =>
    cases (show u = Value.ref a from rx)
    obtain ⟨_, _, _, p⟩ := (show ObjOk X.prog X.w H s.heap a (.tup xs) from I.hok a _ ea)
    obtain ⟨o, h1, h2, _⟩ := p
    exact PySem.W.kia_one PySem.W.kitx_tuple I.kIn ⟨o, h1, h2⟩ e (fun z => nomatch z) h
  | @dK a kvs ea =>
    cases (show u = Value.ref a from rx)
    obtain ⟨_, _, vs, _, p⟩ := (show ObjOk X.prog X.w H s.heap a (.dK kvs) from I.hok a _ ea)
    obtain ⟨o, es, ep, h1, h2, _⟩ := p
    exact PySem.W.kia_one PySem.W.kitx_dict I.kIn ⟨o, h1, h2.1⟩ e (fun z => nomatch z) h
  | @dT a kvs ea =>
    cases (show u = Value.ref a from rx)
    obtain ⟨_, _, xs, _, o, es, ep, h1, h2, _⟩ := (show ObjOk X.prog X.w H s.heap a (.dT kvs) from I.hok a _ ea)
    exact PySem.W.kia_one PySem.W.kitx_dict I.kIn ⟨o, h1, h2.1⟩ e (fun z => nomatch z) h
  | @ins a C dx fs ea cl ha hn htk hm =>
    cases (show u = Value.ref a from rx)
    obtain ⟨mA, O, _⟩ := ins_get I.hok ea
    obtain ⟨od, J, _⟩ := O.look
    exact PySem.W.kia_one (PySem.W.kitx_own (cl.get _) cl.hd ha hn htk hm) I.kIn J e (fun z => nomatch z) h
end
end L2

namespace L2
open PySem PySem.Spec PyProof.Rows

structure Room (k : Nat) (A : Around) : Prop where
  hd : A.handled = none
  dp : A.depth + 3 * k + 5 < recursionLimit
  un : A.units + 16 * k + 200 < cLine
theorem Room.mono {j k : Nat} {A : Around} (r : Room k A) (h : j ≤ k) : Room j A := ⟨r.hd, by have := r.dp; omega, by have := r.un; omega⟩
theorem Room.deeper {k : Nat} {A : Around} (r : Room (k + 1) A) (env : Env) : Room k (A.deeper env) :=
  ⟨r.hd, by have := r.dp; show A.depth + 1 + 3 * k + 5 < _; omega, by have := r.un; show A.units + 3 + 16 * k + 200 < _; omega⟩
theorem Room.depth {k : Nat} {A : Around} (r : Room k A) : A.depth < recursionLimit := by have := r.dp; omega
theorem Room.units {k : Nat} {A : Around} (r : Room k A) : A.units + 64 < cLine := by have := r.un; omega
def tNil : TA := fun _ H Q => Q [] H
def tCons (ta : TE) (tr : TA) : TA := fun σ H Q => ta σ H fun x H1 => tr σ H1 fun xs H2 => Q (x :: xs) H2
section
variable {X : Cx} {e : Expr} {es : List Expr} {te : TE} {t : TA} {pos : Pos}
theorem pa_nil : PA X [] tNil := fun _ _ _ _ H Q I h => Calls.spliced_nil ⟨[], H, I, .nil, h⟩
theorem pa_cons (ha : PE X e te) (hr : PA X es t) (hs : starEach (e :: es) X.env = (false, eval e X.env) :: starEach es X.env := by rfl) : PA X (e :: es) (tCons te t) := by
  intro pos pins s σ H Q I h
  rw [hs]
  show wpAny _ _ (spliced ((false, eval e X.env) :: backTo pos (starEach es X.env))) _ _ s
  refine Calls.spliced_cons (thn (ha pins s σ H _ I h) fun u s1 ⟨x, H1, I1, r1, q1⟩ => ?_)
  exact thn (hr pos pins s1 σ H1 _ I1 q1) fun us s2 ⟨xs, H2, I2, r2, q2⟩ => ⟨x :: xs, H2, I2, .cons r1 r2, q2⟩

/-- a tuple, a list of written items -/
def tTup (t : TA) : TE := fun σ H Q => t σ H fun xs H1 => xs.length ≤ sizeLine ∧ ∀ p, H1 p = none → Q (.ref p) (upd H1 p (.tup xs))
def tLst (t : TA) : TE := fun σ H Q => t σ H fun xs H1 => xs.length ≤ sizeLine ∧ ∀ p, H1 p = none → Q (.ref p) (upd H1 p (.lst xs))
theorem pe_tup {x1} (h : PA X es t) : PE X (.Tuple es x1 pos) (tTup t) := by
  intro pins s σ H Q I hq
  refine wpAny_Tuple_spliced (thn (h pos pins s σ H _ I hq) fun us s1 ⟨xs, H1, I1, r, z, q⟩ => ⟨by rw [← r.length]; exact z, ?_⟩)
  have hf : H1 s1.heap.objs.size = none := I1.hok.fresh (Nat.le_refl _)
  refine ⟨.ref s1.heap.objs.size, upd H1 s1.heap.objs.size (.tup xs), I1.laid (t' := s1.toks) (fun b u e => Heap.get?_push_of_some _ e) (Nat.le_refl _) ?_, rfl, q _ hf⟩
  exact ⟨z, us, r, ⟨_, Heap.get?_push_size _ rfl, rfl, _, rfl⟩⟩
theorem pe_lst (h : PA X es t) : PE X (.List es pos) (tLst t) := by
  intro pins s σ H Q I hq
  refine wpAny_List_spliced (thn (h pos pins s σ H _ I hq) fun us s1 ⟨xs, H1, I1, r, z, q⟩ => ⟨by rw [← r.length]; exact z, ?_⟩)
  have hf : H1 s1.heap.objs.size = none := I1.hok.fresh (Nat.le_refl _)
  refine ⟨.ref s1.heap.objs.size, upd H1 s1.heap.objs.size (.lst xs), I1.laid (t' := s1.toks) (fun b u e => Heap.get?_push_of_some _ e) (Nat.le_refl _) ?_, rfl, q _ hf⟩
  exact ⟨z, us, 0, r, Heap.get?_push_size _ rfl⟩
end

/-- a def's promise: the bound arguments in the parameters' order, the heap, the wanted end, the wanted exception -/
abbrev Sp := List V → Hp → VK → XK → Prop
/-- how an exception lies behind a call (file 08 gives it): the callers' frames, abstract heap and state ahead of the call, the wish, the exception, the state -/
abbrev CXT := List Env → Hp → Shared → XK → Value → Shared → Prop

/-- the state at a call -/
structure Env0 (P : Program) (w : World) (K : PySem.W.Frag) (mg : Str → Option Value) (base : Heap) (A : Around) (outer : List Env) (s : Shared) (H : Hp) : Prop where
  frames : A.frames = some outer
  mod : Mod K mg base
  bs : ∀ b o, base.get? b = some o → s.heap.get? b = some o ∧ H b = none
  bsz : base.objs.size ≤ s.heap.objs.size
  funs : s.heap.FunFrames base outer
  frf : ∀ b ∈ frs outer, H b = none
  hok : HOk P w H s.heap
  bare : AllBare s.gens
/-- a call's end -/
def CE (outer : List Env) (P : Program) (w : World) (H : Hp) (s : Shared) (Q : VK) (u : Value) (s' : Shared) : Prop :=
  ∃ v H', s'.os = s.os ∧ AllBare s'.gens ∧ Un (frs outer) [] H H' s.heap s'.heap ∧ HOk P w H' s'.heap ∧ RelV v u ∧ Q v H'
def CR (CX : CXT) (outer : List Env) (P : Program) (w : World) (H : Hp) (s : Shared) (Q : VK) (E : XK) (r : Result) (s' : Shared) : Prop :=
  match r with
  | .ok (.ret u) => CE outer P w H s Q u s'
  | .ok _ => False
  | .error e => CX outer H s E e s'
structure FnOk (P : Program) (w : World) (K : PySem.W.Frag) (mg : Str → Option Value) (base : Heap) (CX : CXT) (k : Nat) (f : Addr) (fd : FuncData) (ps : List Str) (sp : Sp) : Prop where
  len : ∀ vs H Q E, sp vs H Q E → vs.length = ps.length
  run : ∀ (A : Around) (outer : List Env) (s : Shared) (H : Hp) (args : Args) (us : List Value) (vs : List V) (Q : VK) (E : XK), Room k A → Env0 P w K mg base A outer s H → BindsTo s fd args (ps.zip us) → Vals vs us → sp vs H Q E →
    codeAny (model P w) A (.call (.ref f) args) (CR CX outer P w H s Q E) s
section
variable {X : Cx} {pins : List (Addr × Obj)} {σ : St} {H : Hp} {s s' : Shared}
/-- from a body: what a callee wants -/
theorem Inv.env0 (I : Inv X pins σ H s) : Env0 X.prog X.w X.K X.mg X.base X.A X.stack s H :=
  ⟨I.ok.frames, I.ok.mod, I.bs, Nat.le_trans I.ok.bsz I.sz, I.stack, I.stkFree, I.hok, I.bare⟩
/-- behind a call -/
theorem Inv.after {Q : VK} {u : Value} (I : Inv X pins σ H s) (h : CE X.stack X.prog X.w H s Q u s') : EP X pins σ Q u s' := by
  obtain ⟨v, H', os, bare, un, hok, r, q⟩ := h
  obtain ⟨hh, g, d, t, os'⟩ := s'
  obtain rfl : os' = s.os := os
  exact ⟨v, H', I.call (h' := hh) (g' := g) (d' := d) (t' := t) (ch := []) un hok bare (fun b z => absurd z (by simp)), r, q⟩
end

/-- f(..): the written arguments, then the defaults dvs; E: what is wanted of an exception -/
def tCall (sp : Sp) (dvs : List V) (E : XK) (t : TA) : TE := fun σ H Q => t σ H fun vs H1 => sp (vs ++ dvs) H1 Q E
/-- o.m(..) of an instance of the class at C -/
def tMeth (C : Addr) (m : Str) (sp : Sp) (dvs : List V) (E : XK) (ta : TE) (t : TA) : TE := fun σ H Q => ta σ H fun x H1 => ∃ a dx fs, x = .ref a ∧ H1 a = some (.ins C dx fs) ∧ fs.lookup m = none ∧
  t σ H1 fun vs H2 => sp (x :: (vs ++ dvs)) H2 Q E
/-- C(..): a new instance and its dict, then __init__ -/
def tMake (C : Addr) (sp : Sp) (dvs : List V) (E : XK) (t : TA) : TE := fun σ H Q => t σ H fun vs H1 => ∀ x dx, H1 x = none → H1 dx = none → dx ≠ x →
  sp (.ref x :: (vs ++ dvs)) (upd (upd H1 dx (.own x)) x (.ins C dx [])) (fun v H2 => v = .non ∧ Q (.ref x) H2) E

/-- how the parameters are bound: us the positional arguments, kw the keywords' values by name, ds the defaults that fill up -/
def Binds (K : PySem.W.Frag) (fd : FuncData) (ps : List Str) (ds : List Value) : Prop :=
  ∀ (s : Shared) (us : List Value), K.In s.heap → (us ++ ds).length = ps.length → BindsTo s fd ⟨us, []⟩ (ps.zip (us ++ ds))
/-- every parameter is given -/
theorem Binds.all {K : PySem.W.Frag} {fd : FuncData} {ps : List Str} (h : ∀ us : List Value, us.length = ps.length → bindArgs fd ⟨us, []⟩ = pure (ps.zip us)) : Binds K fd ps [] := fun s us _ hl => by
  rw [List.append_nil] at hl ⊢
  exact .of_eq (h us hl)

/-- an exception of a callee reaches what this body wants of exceptions -/
def Passes (CX : CXT) (X : Cx) (E : XK) : Prop := ∀ (pins : List (Addr × Obj)) (σ : St) (H : Hp) (s : Shared) (e : Value) (s' : Shared), Inv X pins σ H s → CX X.stack H s E e s' → X.xe e s'

section
variable {X : Cx} {CX : CXT} {k : Nat} {f C : Addr} {fd : FuncData} {ps : List Str} {sp : Sp} {dvs : List V} {ds : List Value} {E : XK} {x m : Str} {p pos apos : Pos} {e o : Expr} {es : List Expr} {ta : TE} {t : TA}

/-- the callee runs -/
theorem run_fn {pins : List (Addr × Obj)} {σ : St} {H : Hp} {s : Shared} {Q : VK} {us : List Value} {vs : List V} (F : FnOk X.prog X.w X.K X.mg X.base CX k f fd ps sp) (hr : Room k X.A) (hb : Binds X.K fd ps ds) (hd : Vals dvs ds) (hx : Passes CX X E)
    (I : Inv X pins σ H s) (r : Vals vs us) (h : sp (vs ++ dvs) H Q E) : wpAny (model X.prog X.w) X.A (call (.ref f) us) (EP X pins σ Q) X.xe s := by
  have r2 : Vals (vs ++ dvs) (us ++ ds) := r.append hd
  have hl : (us ++ ds).length = ps.length := by rw [← r2.length]; exact F.len _ _ _ _ h
  refine wpAny_call (codeAny_mono (F.run X.A X.stack s H ⟨us, []⟩ (us ++ ds) (vs ++ dvs) Q E hr I.env0 (hb s us I.kIn hl) r2 h) fun r s' hq => ?_)
  cases r with
  | error e => exact hx pins σ H s e s' I hq
  | ok fl =>
    cases fl with
    | ret u => exact I.after hq
    | next => exact False.elim hq
    | brk => exact False.elim hq
    | cont => exact False.elim hq

theorem pe_call (F : FnOk X.prog X.w X.K X.mg X.base CX k f fd ps sp) (hr : Room k X.A) (hg : Gl X x) (hm : X.mg x = some (.ref f)) (hk : PySem.W.keepIn X.K (.ref f) = true) (hb : Binds X.K fd ps ds) (hd : Vals dvs ds) (hx : Passes CX X E)
    (ha : PA X (e :: es) t) (hdb : (x == ("__debug__" : Str)) = false := by decide) (he : starEach (e :: es) X.env = (false, eval e X.env) :: starEach es X.env := by rfl) (hpl : (backTo pos (starEach es X.env)).any (·.1) = false := by rfl) :
    PE X (.Call (.Name x p) (e :: es) [] pos) (tCall sp dvs E t) := by
  intro pins s σ H Q I h
  refine wpAny_Call_Name_kw (ld_glob I hg hm ?_ hdb)
  refine PySem.W.callWith_K (h₀ := X.base) I.ok.mod.kin hk (thn (ha pos pins s σ H _ I h) fun us s1 ⟨vs, H1, I1, r, q⟩ => ⟨I1.kIn, ?_⟩) he hpl
  exact run_fn F hr hb hd hx I1 r q
theorem pe_call0 (F : FnOk X.prog X.w X.K X.mg X.base CX k f fd ps sp) (hr : Room k X.A) (hg : Gl X x) (hm : X.mg x = some (.ref f)) (hk : PySem.W.keepIn X.K (.ref f) = true) (hb : Binds X.K fd ps ds) (hd : Vals dvs ds) (hx : Passes CX X E)
    (hdb : (x == ("__debug__" : Str)) = false := by decide) : PE X (.Call (.Name x p) [] [] pos) (tCall sp dvs E tNil) := by
  intro pins s σ H Q I h
  refine wpAny_Call_Name_kw (ld_glob I hg hm ?_ hdb)
  exact PySem.W.callWith_K0 I.kIn hk (run_fn (us := []) F hr hb hd hx I .nil h)

end

/-- the values of the keywords, from the left -/
def PK (X : Cx) (kws : List Keyword) (t : TA) : Prop :=
  ∀ (pos : Pos) (pins : List (Addr × Obj)) (s : Shared) (σ : St) (H : Hp) (Q : List V → Hp → Prop), Inv X pins σ H s → t σ H Q → wpAny (model X.prog X.w) X.A (evalAll ((backToKw pos (keywordEach kws X.env)).map (·.2))) (AP X pins σ Q) X.xe s
section
variable {X : Cx} {CX : CXT} {k : Nat} {f C : Addr} {fd : FuncData} {ps ks : List Str} {sp : Sp} {E : XK} {x m : Str} {p pos apos kpos : Pos} {e o : Expr} {es : List Expr} {kws : List Keyword} {te ta : TE} {t tk : TA} {nm : Option Str}
variable {g : List Value → List Value → List Value} {gV : List V → List V → List V}
end

/-- names: the parameters first -/
structure FnScope (N P : List Str) (sc : Scope) : Prop where
  kind : sc.kind = .function
  co : sc.isCoroutine = false
  gen : sc.isGenerator = false
  nd : N.Nodup
  pre : N.take P.length = P
  par : ∀ x ∈ P, sc.names.lookup x = some .local ∨ sc.names.lookup x = some .cell
  nofree : ∀ y ∈ sc.names, y.2 ≠ .free

theorem bindL_out {kindOf : Str → Option NameKind} {x : Str} : ∀ {binds : List (Str × Value)} {m : Str → Option Value}, (∀ v, (x, v) ∉ binds) → bindL kindOf binds m x = m x
  | [], _, _ => rfl
  | (n, v) :: r, m, h => by
    unfold bindL
    rw [bindL_out fun w hw => h w (List.mem_cons_of_mem _ hw)]
    split
    · have : x ≠ n := by rintro rfl; exact h v List.mem_cons_self
      simp [this]
    · rfl
theorem bindC_out {kindOf : Str → Option NameKind} {x : Str} : ∀ {binds : List (Str × Value)} {m : Str → Option Value}, (∀ v, (x, v) ∉ binds) → bindC kindOf binds m x = m x
  | [], _, _ => rfl
  | (n, v) :: r, m, h => by
    unfold bindC
    rw [bindC_out fun w hw => h w (List.mem_cons_of_mem _ hw)]
    split
    · rfl
    · have : x ≠ n := by rintro rfl; exact h v List.mem_cons_self
      simp [this]
theorem bindL_get {kindOf : Str → Option NameKind} {x : Str} {v : Value} : ∀ {P : List Str} {vs : List Value} {i : Nat} {m : Str → Option Value}, P.Nodup → P[i]? = some x → vs[i]? = some v → kindOf x = some .local →
    bindL kindOf (P.zip vs) m x = some v
  | [], _, _, _, _, h, _, _ => by simp at h
  | _ :: _, [], _, _, _, _, h, _ => by simp at h
  | p :: P, w :: vs, 0, m, nd, h1, h2, hk => by
    simp at h1 h2; subst h1; subst h2
    show bindL kindOf ((p, w) :: P.zip vs) m p = _
    unfold bindL
    rw [bindL_out fun v hv => (List.nodup_cons.mp nd).1 (List.of_mem_zip hv).1, if_pos hk]
    simp
  | p :: P, w :: vs, i + 1, m, nd, h1, h2, hk => by
    show bindL kindOf ((p, w) :: P.zip vs) m x = _
    unfold bindL
    exact bindL_get (i := i) (List.nodup_cons.mp nd).2 (by simpa using h1) (by simpa using h2) hk
theorem bindC_get {kindOf : Str → Option NameKind} {x : Str} {v : Value} : ∀ {P : List Str} {vs : List Value} {i : Nat} {m : Str → Option Value}, P.Nodup → P[i]? = some x → vs[i]? = some v → kindOf x ≠ some .local →
    bindC kindOf (P.zip vs) m x = some v
  | [], _, _, _, _, h, _, _ => by simp at h
  | _ :: _, [], _, _, _, _, h, _ => by simp at h
  | p :: P, w :: vs, 0, m, nd, h1, h2, hk => by
    simp at h1 h2; subst h1; subst h2
    show bindC kindOf ((p, w) :: P.zip vs) m p = _
    unfold bindC
    rw [bindC_out fun v hv => (List.nodup_cons.mp nd).1 (List.of_mem_zip hv).1, if_neg hk]
    simp
  | p :: P, w :: vs, i + 1, m, nd, h1, h2, hk => by
    show bindC kindOf ((p, w) :: P.zip vs) m x = _
    unfold bindC
    exact bindC_get (i := i) (List.nodup_cons.mp nd).2 (by simpa using h1) (by simpa using h2) hk

/-- the names' values at the entry -/
def start (N : List Str) (vs : List V) : St := vs.map some ++ List.replicate (N.length - vs.length) none

/-- the context of a def's body, at its entry; an exception leaves the frame, then lies as CX says -/
def cxOf (CX : CXT) (P : Program) (w : World) (K : PySem.W.Frag) (mg : Str → Option Value) (base : Heap) (N : List Str) (qual : Str) (scope : Scope) (f : Addr) (cd : Value) (A : Around) (outer : List Env) (s : Shared) (H : Hp) (E : XK) : Cx where
  prog := P
  w := w
  K := K
  mg := mg
  base := base
  A := A.deeper (envOfC qual scope s.heap.objs.size f cd)
  N := N
  s₀ := s
  H₀ := H
  env := envOfC qual scope s.heap.objs.size f cd
  outer := outer
  stack := envOfC qual scope s.heap.objs.size f cd :: outer
  ex := []
  calm := true
  fn := fun _ => true
  pn := []
  xe := fun e s' => wpAny (model P w) (A.deeper (envOfC qual scope s.heap.objs.size f cd)) (leaving (envOfC qual scope s.heap.objs.size f cd) e) (fun _ s'' => CX outer H s E e s'') (fun e' s'' => CX outer H s E e' s'') s'

theorem cell_has {sc : Scope} {n : Nat} {x : Str} (h : sc.names.lookup x = some .cell) : ∃ c, (cellsFrom n sc.names []).lookup x = some c := by
  have q := PySem.W.cellsFrom_some sc.names n [] (.inl h)
  exact Option.isSome_iff_exists.mp q

theorem inv_start {CX : CXT} {P : Program} {w : World} {K : PySem.W.Frag} {mg : Str → Option Value} {base : Heap} {N ps : List Str} {qual : Str} {scope : Scope} {f : Addr} {cd : Value} {A : Around} {outer : List Env} {s s1 : Shared} {H : Hp} {E : XK} {us : List Value} {vs : List V}
    (S : FnScope N ps scope) (hd : A.handled = none) (e0 : Env0 P w K mg base A outer s H) (hl : vs.length = ps.length) (r : Vals vs us)
    (x : InCallC s s.heap.objs.size (bindL (envOfC qual scope s.heap.objs.size f cd).kindOf (ps.zip us) fun _ => none) (cellsFrom (s.heap.objs.size + 1) scope.names []) (bindC (envOfC qual scope s.heap.objs.size f cd).kindOf (ps.zip us) fun _ => none) s1) :
    Inv (cxOf CX P w K mg base N qual scope f cd A outer s H E) [] (start N vs) H s1 := by
  have hpl : ps.length ≤ N.length := by have := congrArg List.length S.pre; rw [List.length_take] at this; omega
  obtain ⟨h1, tk, rfl, hk⟩ := x.done
  have noA : ∀ b : Addr, b ∉ (cxOf CX P w K mg base N qual scope f cd A outer s H E).ex := fun b z => absurd (show b ∈ ([] : List Addr) from z) (by simp)
  refine ⟨⟨e0.mod, S.kind, rfl, rfl, Nat.le_refl _, fun y z c h1 h2 => ?_, fun y hy => ?_, fun y c _ h => ?_, fun _ => hd, Around.frames_deeper e0.frames, .inr ⟨rfl, rfl⟩, fun b z => absurd z (noA b), e0.bs, e0.bsz, fun b _ _ => noA b, fun b z => absurd z (noA b), e0.funs, e0.frf⟩,
    rfl, e0.bare, Un.kept hk, ⟨_, x.toInCall.ns, fun i y v h1 h2 h3 => ?_⟩, fun y c h => ⟨_, x.cell y c h⟩, e0.hok.fresh (Nat.le_refl _), fun y c h => ?_, fun p hp => absurd (show p ∈ ([] : List (Addr × Obj)) from hp) (by simp), e0.hok.kept hk, ?_⟩
  · exact name_of_addr x.apart (PySem.mem_of_lookup h1) (PySem.mem_of_lookup h2)
  · have hy : scope.names.lookup y = some .cell ∨ scope.names.lookup y = some .free := hy
    rcases hy with hy | hy
    · exact cell_has hy
    · exact absurd rfl (S.nofree _ (PySem.mem_of_lookup hy))
  · exact Nat.le_of_lt (x.above y c (PySem.mem_of_lookup h))
  · have hi : i < vs.length := by
      unfold start at h2
      by_cases hi : i < vs.length
      · exact hi
      · rw [List.getElem?_append_right (by simpa using hi)] at h2
        rw [List.getElem?_replicate] at h2
        split at h2 <;> cases h2
    have ha : vs[i]? = some v := by
      unfold start at h2
      rw [List.getElem?_append_left (by simpa using hi), List.getElem?_map] at h2
      cases e : vs[i]? with
      | none => rw [e] at h2; cases h2
      | some a => rw [e] at h2; cases h2; rfl
    obtain ⟨u, hu, rv⟩ := r.get ha
    have hp : ps[i]? = some y := by
      rw [← S.pre, List.getElem?_take_of_lt (by omega)]; exact h1
    have ndP : ps.Nodup := by rw [← S.pre]; exact S.nd.sublist (List.take_sublist _ _)
    refine ⟨u, rv, ?_⟩
    rcases S.par y (List.mem_of_getElem? hp) with k | k
    · exact .inl ⟨k, bindL_get ndP hp hu k⟩
    · obtain ⟨c, e⟩ := cell_has (n := s.heap.objs.size + 1) k
      refine .inr ⟨.inl k, c, e, ?_⟩
      have q := x.cell y c e
      rw [bindC_get ndP hp hu (by show scope.names.lookup y ≠ _; rw [k]; decide)] at q
      exact q
  · exact e0.hok.fresh (Nat.le_of_lt (x.above y c (PySem.mem_of_lookup h)))
  · unfold start
    show _ = N.length
    rw [List.length_append, List.length_map, List.length_replicate]
    omega

/-- THE RULE: a def (or a method) of the text, by its body. The body's reading t is chosen for each entry; it is run at the parameters' values -/
theorem fn_of {CX : CXT} {P : Program} {w : World} {K : PySem.W.Frag} {mg : Str → Option Value} {base : Heap} {k : Nat} {f : Addr} {name qual : Str} {params : Arguments} {body : List Stmt} {scope : Scope} {dV kV doc pm cdv ct oc : Value} {an od : Option Addr}
    {osl : Array (Option Value)} {N ps : List Str} {sp : Sp} (lk : K.lookup f = some ⟨oc, od, .func (PySem.W.fnOf name qual params body scope dV kV doc pm an cdv ct), osl⟩) (hcd : PySem.W.codeIn K cdv qual = true) (S : FnScope N ps scope)
    (len : ∀ vs H Q E, sp vs H Q E → vs.length = ps.length)
    (hbody : ∀ (A : Around) (outer : List Env) (s : Shared) (H : Hp) (vs : List V) (Q : VK) (E : XK), Room k (A.deeper (envOfC qual scope s.heap.objs.size f cdv)) → sp vs H Q E →
      ∃ t, PSs (cxOf CX P w K mg base N qual scope f cdv A outer s H E) body t ∧ t { nx := fun _ H' => Q .non H', rt := Q } (start N vs) H) :
    FnOk P w K mg base CX (k + 1) f (PySem.W.fnOf name qual params body scope dV kV doc pm an cdv ct) ps sp := by
  refine ⟨len, fun A outer s H args us vs Q E hr e0 hb r hsp => ?_⟩
  have hl := len _ _ _ _ hsp
  have KX : K.In s.heap := e0.mod.kin.keeps fun b o e => (e0.bs b o e).1
  have lim : s.heap.NoLimit := e0.mod.nolimit.keeps fun b o e => (e0.bs b o e).1
  have hkind : ∀ y ∈ ps.zip us, scope.names.lookup y.1 = some .local ∨ (scope.names.lookup y.1 = some .cell ∧ ((cellsFrom (s.heap.objs.size + 1) scope.names []).lookup y.1).isSome = true) := fun ⟨n, v⟩ hy => by
    rcases S.par n (List.of_mem_zip hy).1 with q | q
    · exact .inl q
    · exact .inr ⟨q, PySem.W.cellsFrom_some _ _ _ (.inl q)⟩
  refine codeAny_call_function hr.depth (KX _ _ lk) rfl S.co S.gen rfl (PySem.W.codeRec_of KX hcd) (hb _ _ _ _ ?_)
  refine wpAny_newFunctionEnv_cells S.kind hkind fun env he s1 x => ?_
  subst he
  refine ⟨lim.keeps x.toInCall.keep, codeAny_func ?_⟩
  obtain ⟨t, ht, hq⟩ := hbody A outer s H vs Q E (hr.deeper _) hsp
  have I : Inv (cxOf CX P w K mg base N qual scope f cdv A outer s H E) [] (start N vs) H s1 := inv_start S hr.hd e0 hl r x
  refine wpAny_mono (ht [] s1 (start N vs) H _ I hq) (fun fl s' hs => ?_) fun e s' hs => hs
  have fin : ∀ {σ' : St} {H' : Hp} {v : V} {u : Value}, Inv (cxOf CX P w K mg base N qual scope f cdv A outer s H E) [] σ' H' s' → RelV v u → Q v H' → CE outer P w H s Q u s' :=
    fun {σ' H' v u} J rv q => ⟨v, H', J.os, J.bare, J.base, J.hok, rv, q⟩
  cases fl with
  | ret u =>
    obtain ⟨v, σ', H', J, rv, q⟩ := hs
    exact fin J rv q
  | next =>
    obtain ⟨σ', H', J, q⟩ := hs
    exact fin (v := V.non) (u := Value.none) J rfl q
  | brk =>
    obtain ⟨_, _, _, q⟩ := hs
    exact False.elim q
  | cont =>
    obtain ⟨_, _, _, q⟩ := hs
    exact False.elim q
end L2

namespace L2
open PySem PySem.Spec PyProof.Rows
section
variable {X : Cx} {x : Str} {p pos : Pos} {e : Expr} {es : List Expr} {t : TA} {id T : String} {r : List V → Hp → VK → Prop}

def tCB (r : List V → Hp → VK → Prop) (t : TA) : TE := fun σ H Q => t σ H fun vs H1 => r vs H1 Q
/-- f(e, ..), f a built-in function -/
theorem pe_callB (hc : CallR X (.builtin id) r) (hg : Gl X x) (hm : X.mg x = none) (hv : bootBuiltins x = some (.builtin id)) (ha : PA X (e :: es) t) (hn : x ≠ "__name__" := by decide) (hdb : (x == ("__debug__" : Str)) = false := by decide)
    (he : starEach (e :: es) X.env = (false, eval e X.env) :: starEach es X.env := by rfl) (hpl : (backTo pos (starEach es X.env)).any (·.1) = false := by rfl) : PE X (.Call (.Name x p) (e :: es) [] pos) (tCB r t) := by
  intro pins s σ H Q I h
  refine wpAny_Call_Name_kw (ld_blt I hg hm hv ?_ hn hdb)
  exact PyProof.Rows.callWith_builtin1 (thn (ha pos pins s σ H _ I h) fun us s1 ⟨vs, H1, I1, r1, q1⟩ => hc pins s1 σ H1 vs us Q I1 r1 q1) he hpl
/-- T(e, ..), T a built-in type -/
theorem pe_callTy (hc : CallR X (.type T) r) (hg : Gl X x) (hm : X.mg x = none) (hv : bootBuiltins x = some (.type T)) (ha : PA X (e :: es) t) (hn : x ≠ "__name__" := by decide) (hdb : (x == ("__debug__" : Str)) = false := by decide)
    (he : starEach (e :: es) X.env = (false, eval e X.env) :: starEach es X.env := by rfl) (hpl : (backTo pos (starEach es X.env)).any (·.1) = false := by rfl) : PE X (.Call (.Name x p) (e :: es) [] pos) (tCB r t) := by
  intro pins s σ H Q I h
  refine wpAny_Call_Name_kw (ld_blt I hg hm hv ?_ hn hdb)
  exact PyProof.Rows.callWith_type1 (thn (ha pos pins s σ H _ I h) fun us s1 ⟨vs, H1, I1, r1, q1⟩ => hc pins s1 σ H1 vs us Q I1 r1 q1) he hpl
end
end L2

namespace HT
open PySem PyProof.Rows

section
open PySem.SeqAt
open PySem.AutoSeq1 (wpAny_loadPart')
open PySem.MeetsSeq PySem.MeetsSeq2 PySem.MeetsSeq3

end

section
variable {prog : Program} {w : World} {A : Around} {E : Value → Shared → Prop} {s : Shared}

/-- t + u, t not empty -/
theorem cat_tup {t b : Addr} {vs ws : List Value} {Q : Value → Shared → Prop} (ht : IsTup s.heap t vs.toArray) (hb : IsTup s.heap b ws.toArray) (hv : vs ≠ [])
    (h1 : ws = [] → Q (.ref t) s) (h2 : ws ≠ [] → Q (.ref s.heap.objs.size) { s with heap := s.heap.push { cls := .type "tuple", data := .seq (vs ++ ws).toArray } })
    (hsz : vs.length + ws.length ≤ sizeLine) : wpAny (model prog w) A (binaryOp .Add (.ref t) (.ref b)) Q E s := by
  obtain ⟨⟨cls, dd, data, sl⟩, ho, hc, n, hd⟩ := id ht
  obtain ⟨⟨cls2, dd2, data2, sl2⟩, ho2, hc2, n2, hd2⟩ := id hb
  simp only at hc hd hc2 hd2
  subst hc hd hc2 hd2
  have e : vs.toArray ++ ws.toArray = (vs ++ ws).toArray := by simp
  by_cases hw : ws = []
  · exact concat_meets ⟨_, ho, rfl⟩ ⟨_, ho2, rfl⟩ noFill_tuple_add seq_tuple_add PySem.F.slot_tuple_add PySem.F.entry_tuple_add (PySem.F.args_tuple_add_2 _ _)
      (tuple_addW1 t b vs.toArray ws.toArray n n2 dd dd2 sl sl2 (by simpa using hv) (by simp [hw])) ⟨ho, ho2, h1 hw⟩
  · refine concat_meets ⟨_, ho, rfl⟩ ⟨_, ho2, rfl⟩ noFill_tuple_add seq_tuple_add PySem.F.slot_tuple_add PySem.F.entry_tuple_add (PySem.F.args_tuple_add_2 _ _)
      (tuple_addW2 t b vs.toArray ws.toArray n n2 dd dd2 sl sl2 (by simpa using hv) (by simpa using hw) (by rw [List.size_toArray, List.size_toArray]; exact hsz)) ⟨ho, ho2, ?_⟩
    rw [e]
    exact h2 hw

/-- a slice's bound as a place among n (d where it is left out) -/
def sIx (n d : Nat) : Option Int → Nat
  | none => d
  | some v => if v < 0 then (v + (n : Int)).toNat else min v.toNat n
theorem sIx_none (n d : Nat) : sIx n d none = d := rfl
theorem sIx_nat (n d k : Nat) : sIx n d (some (k : Int)) = min k n := by
  show (if (k : Int) < 0 then ((k : Int) + (n : Int)).toNat else min (k : Int).toNat n) = min k n
  rw [if_neg (by omega), Int.toNat_natCast]
theorem sIx_le (n d : Nat) (hd : d ≤ n) (o : Option Int) : sIx n d o ≤ n := by
  cases o with
  | none => exact hd
  | some v =>
    show (if v < 0 then (v + (n : Int)).toNat else min v.toNat n) ≤ n
    by_cases hv : v < 0
    · rw [if_pos hv]; omega
    · rw [if_neg hv]; exact Nat.min_le_right _ _
theorem clip_eq (v : Int) (n d : Nat) : (if v < 0 then max (v + (n : Int)) 0 else min v (n : Int)) = ((sIx n d (some v) : Nat) : Int) := by
  show (if v < 0 then max (v + (n : Int)) 0 else min v (n : Int)) = (((if v < 0 then (v + (n : Int)).toNat else min v.toNat n) : Nat) : Int)
  by_cases hv : v < 0
  · simp only [if_pos hv]; omega
  · simp only [if_neg hv]; omega
theorem adjust_gen (lo hi : Option Int) (n : Nat) : Builtin.Slice.sliceAdjust lo hi 1 (n : Int) = (((sIx n 0 lo : Nat) : Int), ((sIx n n hi : Nat) : Int)) := by
  have h1 : ¬ ((1 : Int) < 0) := by omega
  unfold Builtin.Slice.sliceAdjust
  simp only [h1, if_false]
  refine Prod.ext ?_ ?_
  · cases lo with
    | none => rfl
    | some v => exact clip_eq v n 0
  · cases hi with
    | none => rfl
    | some v => exact clip_eq v n n
theorem places_gen (i j : Nat) : Builtin.Slice.slicePlaces (i : Int) (j : Int) 1 = j - i := by
  unfold Builtin.Slice.slicePlaces
  have h1 : (1 : Int) > 0 := by omega
  simp only [h1, if_true, Int.ediv_one]
  split <;> omega
theorem slicePart_ {v : Value} {o : Option Int} {Q : Option Int → Shared → Prop} (p : IsPart v o) (h : Q o s) : wpAny (model prog w) A (Builtin.Slice.slicePartIndex v) Q E s := by
  cases p with
  | none => exact slicePart_none h
  | int i t => exact slicePart_int h
theorem sliceApplied_gen {sl : Addr} {vl vu : Value} {lo hi : Option Int} {n : Nat} {Q : Int × Int × Nat → Shared → Prop} (hs : s.heap.IsSliceOf sl vl vu .none) (pl : IsPart vl lo) (pu : IsPart vu hi)
    (h : Q (((sIx n 0 lo : Nat) : Int), 1, sIx n n hi - sIx n 0 lo) s) : wpAny (model prog w) A (Builtin.Slice.sliceApplied (.ref sl) (pure (n : Int))) Q E s := by
  obtain ⟨os, hos, hcs, hds⟩ := id hs
  unfold Builtin.Slice.sliceApplied Builtin.Slice.sliceFields
  refine wpAny_bind (wpAny_bind (wpAny_field hos hds (x := vl) rfl (wpAny_bind (wpAny_field hos hds (x := vu) rfl (wpAny_bind (wpAny_field hos hds (x := .none) rfl (wpAny_pure ?_)))))))
  refine wpAny_bind (slicePart_none ?_)
  show wpAny _ _ (if ((1 : Int) == 0) = true then _ else _) _ _ s
  rw [if_neg (by decide)]
  refine wpAny_bind (slicePart_ pl (wpAny_bind (slicePart_ pu (wpAny_bind (wpAny_pure ?_)))))
  show wpAny _ _ (match Builtin.Slice.sliceAdjust lo hi 1 (n : Int) with | (lo, hi) => pure (lo, (1 : Int), Builtin.Slice.slicePlaces lo hi 1)) _ _ s
  rw [adjust_gen lo hi n]
  show wpAny _ _ (pure (((sIx n 0 lo : Nat) : Int), (1 : Int), Builtin.Slice.slicePlaces ((sIx n 0 lo : Nat) : Int) ((sIx n n hi : Nat) : Int) 1)) _ _ s
  rw [places_gen]
  exact wpAny_pure h
theorem pick_gen (xs : Array Value) (i k : Nat) : ((List.range k).filterMap fun (m : Nat) => xs[((i : Int) + (m : Int) * 1).toNat]?).toArray = ((xs.toList.drop i).take k).toArray := by
  have e : (fun (m : Nat) => xs[((i : Int) + (m : Int) * 1).toNat]?) = fun m => xs[i + m]? := by
    funext m
    have : ((i : Int) + (m : Int) * 1).toNat = i + m := by omega
    rw [this]
  rw [e]
  have := pick_run xs i k
  rw [List.filterMap_map] at this
  have e2 : ((fun x => xs[x]?) ∘ fun x => i + x) = fun m => xs[i + m]? := rfl
  rw [e2] at this
  rw [this]

theorem getItem_tuple_cut {t sl : Addr} {items : Array Value} {vl vu : Value} {lo hi : Option Int} {Q : Value → Shared → Prop} (ht : IsTup s.heap t items) (hs : s.heap.IsSliceOf sl vl vu .none) (pl : IsPart vl lo) (pu : IsPart vu hi)
    (hw : ¬ (sIx items.size 0 lo = 0 ∧ sIx items.size items.size hi = items.size))
    (h : Q (.ref s.heap.objs.size) { s with heap := s.heap.push { cls := .type "tuple", data := .seq ((items.toList.drop (sIx items.size 0 lo)).take (sIx items.size items.size hi - sIx items.size 0 lo)).toArray } })
    (hsz : items.size ≤ sizeLine) : wpAny (model prog w) A (getItem (.ref t) (.ref sl)) Q E s := by
  have htake : sizeOk (.seq ((items.toList.drop (sIx items.size 0 lo)).take (sIx items.size items.size hi - sIx items.size 0 lo)).toArray) := by
    show ((items.toList.drop (sIx items.size 0 lo)).take (sIx items.size items.size hi - sIx items.size 0 lo)).toArray.size ≤ sizeLine
    rw [List.size_toArray, List.length_take, List.length_drop, Array.length_toList]
    omega
  have hj : sIx items.size items.size hi ≤ items.size := sIx_le _ _ (Nat.le_refl _) hi
  obtain ⟨os, hos, hcs, hds⟩ := id hs
  have hTs : s.TypeIs (.ref sl) "slice" := ⟨os, hos, hcs⟩
  unfold getItem
  try with_reducible refine wpAny_holding ?_
  first | refine wpAny_bind (wpAny_pure ?_) | skip
  refine wpAny_bind (wpAny_sequenceKey ht.typeIs (by decide) ?_)
  refine wpAny_bind (wpAny_callSpecial?_slot (name := Str.ofString "__getitem__") ht.typeIs PyProof.Rows.slot_tuple_getitem
    (wpAny_call_entry PyProof.Rows.slot_tuple_getitem ht.typeIs entry_tuple_getitem ?_ (args_tuple_getitem _ _)))
  show wpAny _ _ (Builtin.Tuple.tupleItemsOf (.ref t) >>= _) _ _ s
  refine wpAny_bind (tupleItemsOf_ ht ?_)
  refine wpAny_bind (wpAny_typeOf hTs ?_)
  rw [if_pos (by decide)]
  refine wpAny_bind (sliceApplied_gen hs pl pu ?_)
  have hno : ¬ ((((sIx items.size 0 lo : Nat) : Int) == 0 && (1 : Int) == 1 && (sIx items.size items.size hi - sIx items.size 0 lo) == items.size) = true) := by
    intro q
    rw [Bool.and_eq_true, Bool.and_eq_true] at q
    have q1 : ((sIx items.size 0 lo : Nat) : Int) = 0 := eq_of_beq q.1.1
    have q2 : sIx items.size items.size hi - sIx items.size 0 lo = items.size := eq_of_beq q.2
    exact hw ⟨by omega, by omega⟩
  show wpAny _ _ (if (((sIx items.size 0 lo : Nat) : Int) == 0 && (1 : Int) == 1 && (sIx items.size items.size hi - sIx items.size 0 lo) == items.size) = true then _ else _) _ _ s
  rw [if_neg hno, pick_gen]
  first
    | exact wpAny_bind (m := Builtin.Tuple.tupleExact _) (wpAny_newObj_type (wpAny_pure ⟨_, rfl, wpAny_pure h⟩) htake)
    | exact wpAny_bind (m := Builtin.Tuple.tupleExact _) (wpAny_newObj_type (wpAny_bind (wpAny_pure (wpAny_pure ⟨_, rfl, wpAny_pure h⟩))) htake)
    | exact wpAny_bind (wpAny_bind (m := Builtin.Tuple.tupleExact _) (wpAny_newObj_type (wpAny_pure (wpAny_pure ⟨_, rfl, wpAny_pure h⟩)) htake))
    | exact wpAny_bind (wpAny_bind (m := Builtin.Tuple.tupleExact _) (wpAny_newObj_type (wpAny_pure ⟨_, rfl, wpAny_pure h⟩) htake))
end
end HT

namespace L2
open PySem PySem.Spec PyProof.Rows

abbrev TO := St → Hp → (Option Int → Hp → Prop) → Prop
/-- a slice's part (left out, or an int) -/
def PO (X : Cx) (e : Option Expr) (t : TO) : Prop :=
  ∀ (pins : List (Addr × Obj)) (s : Shared) (σ : St) (H : Hp) (Q : Option Int → Hp → Prop), Inv X pins σ H s → t σ H Q →
    wpAny (model X.prog X.w) X.A (evalPart e X.env) (fun u s' => ∃ o H', Inv X pins σ H' s' ∧ IsPart u o ∧ Q o H') X.xe s
def tNoPart : TO := fun _ H Q => Q none H
def tPart (t : TE) : TO := fun σ H Q => t σ H fun x H1 => ∃ i, x = .int i ∧ Q (some i) H1

section
variable {X : Cx} {e : Expr} {te : TE} {lo hi : Option Expr} {tl th : TO} {pos p2 : Pos}

theorem po_none : PO X none tNoPart := by
  intro pins s σ H Q I h
  rw [evalPart_none]
  exact wpAny_pure ⟨none, H, I, .none, h⟩
theorem po_some (h : PE X e te) : PO X (some e) (tPart te) := by
  intro pins s σ H Q I hw
  rw [evalPart_some]
  refine thn (h pins s σ H _ I hw) fun u s1 ⟨x, H1, I1, r1, q1⟩ => ?_
  obtain ⟨i, rfl, q⟩ := q1
  obtain ⟨t, rfl⟩ := r1
  exact ⟨some i, H1, I1, .int i t, q⟩

/-- what a slice of a value is, by values: the slice object stands at sl -/
def SlR (X : Cx) (r : V → Option Int → Option Int → Hp → VK → Prop) : Prop :=
  ∀ (pins : List (Addr × Obj)) (s : Shared) (σ : St) (H : Hp) (x : V) (v vl vu : Value) (lo hi : Option Int) (sl : Addr) (Q : VK), Inv X pins σ H s → RelV x v → s.heap.IsSliceOf sl vl vu .none → IsPart vl lo → IsPart vu hi → r x lo hi H Q →
    ∃ T id, typeLookup (.type T) "__getitem__" = pure (some (.builtin id)) ∧ s.TypeIs v T ∧ wpAny (model X.prog X.w) X.A (getItem v (.ref sl)) (EP X pins σ Q) X.xe s
def tSl (r : V → Option Int → Option Int → Hp → VK → Prop) (te : TE) (tl th : TO) : TE := fun σ H Q => te σ H fun x H1 => tl σ H1 fun l H2 => th σ H2 fun u H3 => r x l u H3 Q
/-- a[lo:hi], any a -/
theorem pe_slice {r : V → Option Int → Option Int → Hp → VK → Prop} (hr : SlR X r) (he : PE X e te) (hl : PO X lo tl) (hu : PO X hi th) : PE X (.Subscript e (.Slice lo hi none p2) pos) (tSl r te tl th) := by
  intro pins s σ H Q I h
  refine Subscript_ (thn (he pins s σ H _ I h) fun v s1 ⟨x, H1, I1, r1, q1⟩ => ?_)
  refine wpAny_Slice (thn (hl pins s1 σ H1 _ I1 q1) fun vl s2 ⟨l, H2, I2, pl, q2⟩ => thn (hu pins s2 σ H2 _ I2 q2) fun vu s3 ⟨u, H3, I3, pu, q3⟩ => ?_)
  rw [evalPart_none]
  refine wpAny_pure ?_
  have I4 : Inv X pins σ H3 { s3 with heap := s3.heap.push { cls := .type "slice", data := .fields #[vl, vu, .none] } } := I3.kept (t' := s3.toks) fun b ob q => Heap.get?_push_of_some _ q
  obtain ⟨T, id, hT, ht, hg⟩ := hr pins { s3 with heap := s3.heap.push { cls := .type "slice", data := .fields #[vl, vu, .none] } } σ H3 x v vl vu l u s3.heap.objs.size Q I4 r1 (Heap.IsSliceOf.new ..) pl pu q3
  show wpAny (model X.prog X.w) X.A (subscriptTail e (.Slice lo hi none p2) v (.ref s3.heap.objs.size)) (EP X pins σ Q) X.xe { s3 with heap := s3.heap.push { cls := .type "slice", data := .fields #[vl, vu, .none] } }
  exact tail_any (ops := [.ref s3.heap.objs.size, v]) ht hT hg (by with_unfolding_all rfl)

/-- the items of xs[lo:hi] -/
def cutV (xs : List V) (lo hi : Option Int) : List V := (xs.drop (HT.sIx xs.length 0 lo)).take (HT.sIx xs.length xs.length hi - HT.sIx xs.length 0 lo)
theorem cutV_length (xs : List V) (lo hi : Option Int) : (cutV xs lo hi).length ≤ xs.length := by
  unfold cutV
  rw [List.length_take, List.length_drop]
  omega
/-- t[lo:hi], not the whole of it (the whole would be t itself) -/
def rSlT (K : PySem.W.Frag) : V → Option Int → Option Int → Hp → VK → Prop := fun x lo hi H Q => ∃ a xs, x = .ref a ∧ SqT K H a xs ∧
  ¬ (HT.sIx xs.length 0 lo = 0 ∧ HT.sIx xs.length xs.length hi = xs.length) ∧ ∀ p, H p = none → Q (.ref p) (upd H p (.tup (cutV xs lo hi)))
theorem sl_tup : SlR X (rSlT X.K) := by
  intro pins s σ H x v vl vu lo hi sl Q I rx hs pl pu h
  obtain ⟨a, xs, rfl, hx, hw, q⟩ := h
  cases rx
  obtain ⟨its, r, ht, hz⟩ := I.tuple hx
  have hlen : its.toArray.size = xs.length := by rw [List.size_toArray]; exact r.length.symm
  refine ⟨"tuple", _, PyProof.Rows.slot_tuple_getitem.lookup, ht.typeIs, ?_⟩
  refine HT.getItem_tuple_cut ht hs pl pu (by rw [hlen]; exact hw) ?_ (by rw [hlen]; exact hz)
  rw [hlen]
  refine ⟨.ref s.heap.objs.size, _, I.laid (t' := s.toks) (o := .tup (cutV xs lo hi)) (fun b ob q => Heap.get?_push_of_some _ q) (Nat.le_refl _) ?_, rfl, q _ (I.hok.fresh (Nat.le_refl _))⟩
  exact ⟨Nat.le_trans (cutV_length xs lo hi) hz, _, (r.drop (HT.sIx xs.length 0 lo)).take (HT.sIx xs.length xs.length hi - HT.sIx xs.length 0 lo), IsTup.new _ _⟩

/-- t + u, t not empty: u empty gives t itself -/
def rCatT (K : PySem.W.Frag) : R2 := fun x y H Q => ∃ a b xs ys, x = .ref a ∧ y = .ref b ∧ SqT K H a xs ∧ SqT K H b ys ∧ xs ≠ [] ∧ xs.length + ys.length ≤ sizeLine ∧
  (ys = [] → Q (.ref a) H) ∧ (ys ≠ [] → ∀ p, H p = none → Q (.ref p) (upd H p (.tup (xs ++ ys))))
theorem Vals.nil_iff {xs : List V} {us : List Value} (r : Vals xs us) : us = [] ↔ xs = [] := by
  cases r with
  | nil => simp
  | cons _ _ => simp
theorem op_catT : OpR X (binaryOp .Add) (rCatT X.K) := by
  intro pins s σ H x y v u Q I rx ry h
  obtain ⟨a, b, xs, ys, rfl, rfl, ha, hb, hx, hz, q1, q2⟩ := h
  cases rx
  cases ry
  obtain ⟨its, r1, p1, _⟩ := I.tuple ha
  obtain ⟨its2, r2, p2, _⟩ := I.tuple hb
  refine HT.cat_tup p1 p2 (fun z => hx (r1.nil_iff.mp z)) (fun z => ⟨.ref a, H, I, rfl, q1 (r2.nil_iff.mp z)⟩) (fun z => ?_) (by rw [← r1.length, ← r2.length]; exact hz)
  refine ⟨.ref s.heap.objs.size, _, I.laid (t' := s.toks) (o := .tup (xs ++ ys)) (fun b ob q => Heap.get?_push_of_some _ q) (Nat.le_refl _) ?_, rfl, q2 (fun w => z (r2.nil_iff.mpr w)) _ (I.hok.fresh (Nat.le_refl _))⟩
  exact ⟨by rw [List.length_append]; exact hz, _, r1.append r2, IsTup.new _ _⟩
end
end L2

namespace L2
open PySem PySem.Spec PyProof.Rows

/-- the place that an index of any sign means -/
def ixN (n : Nat) (i : Int) : Option Nat := if 0 ≤ i then (if i < n then some i.toNat else none) else if -(n : Int) ≤ i then some (i + n).toNat else none
def atI {α : Type} (xs : List α) (i : Int) : Option α := (ixN xs.length i).bind fun j => xs[j]?
theorem ixN_seq {n : Nat} {i : Int} {j : Nat} (h : ixN n i = some j) : seqIndex? i n = some j ∧ j < n ∧ -(n : Int) ≤ i ∧ i < n := by
  unfold ixN at h
  by_cases h0 : 0 ≤ i
  · rw [if_pos h0] at h
    by_cases h1 : i < n
    · rw [if_pos h1] at h
      have e : i.toNat = j := Option.some.inj h
      exact ⟨by rw [seqIndex_of h0 h1, e], by omega, by omega, h1⟩
    · rw [if_neg h1] at h; cases h
  · rw [if_neg h0] at h
    by_cases h1 : -(n : Int) ≤ i
    · rw [if_pos h1] at h
      have e : (i + n).toNat = j := Option.some.inj h
      exact ⟨by rw [seqIndex_neg (by omega) h1, e], by omega, h1, by omega⟩
    · rw [if_neg h1] at h; cases h
theorem atI_get {α : Type} {xs : List α} {i : Int} {v : α} (h : atI xs i = some v) : ∃ j, seqIndex? i xs.length = some j ∧ xs[j]? = some v ∧ j < xs.length ∧ -(xs.length : Int) ≤ i ∧ i < xs.length := by
  unfold atI at h
  cases e : ixN xs.length i with
  | none => rw [e] at h; cases h
  | some j =>
    rw [e] at h
    obtain ⟨h1, h2, h3, h4⟩ := ixN_seq e
    exact ⟨j, h1, h, h2, h3, h4⟩
theorem atI_nat {α : Type} {xs : List α} {j : Nat} {v : α} (h : xs[j]? = some v) : atI xs (j : Int) = some v := by
  have hj : j < xs.length := (List.getElem?_eq_some_iff.mp h).1
  have e : ixN xs.length (j : Int) = some j := by
    unfold ixN
    rw [if_pos (by omega), if_pos (by omega)]; simp
  unfold atI; rw [e]; exact h
theorem atI_last {α : Type} (xs : List α) (v : α) : atI (xs ++ [v]) (-1) = some v := by
  have hl : (xs ++ [v]).length = xs.length + 1 := by simp
  have e : ixN (xs ++ [v]).length (-1) = some xs.length := by
    unfold ixN
    rw [hl, if_neg (by decide), if_pos (by omega)]
    congr 1
    omega
  unfold atI
  rw [e]
  show (xs ++ [v])[xs.length]? = some v
  simp

/-- what stands as an index of a plain subscript -/
def PlainIx (b : Expr) : Prop := ∀ o i, subscripted b false o i = operate [o, i] (getItem o i)
/-- a subscript by values -/
def IxR (X : Cx) (r : R2) : Prop :=
  ∀ (value slice : Expr) (pins : List (Addr × Obj)) (s : Shared) (σ : St) (H : Hp) (x y : V) (v u : Value) (Q : VK), Inv X pins σ H s → RelV x v → RelV y u → r x y H Q →
    subscripted slice false v u = operate [v, u] (getItem v u) → wpAny (model X.prog X.w) X.A (subscriptTail value slice v u) (EP X pins σ Q) X.xe s
/-- a call of a builtin's method by values: the receiver, the arguments -/
def MtR (X : Cx) (id : String) (r : V → List V → Hp → VK → Prop) : Prop :=
  ∀ (pins : List (Addr × Obj)) (s : Shared) (σ : St) (H : Hp) (x : V) (xs : List V) (v : Value) (us : List Value) (Q : VK), Inv X pins σ H s → RelV x v → Vals xs us → r x xs H Q →
    wpAny (model X.prog X.w) X.A (call (.builtin id) (v :: us)) (EP X pins σ Q) X.xe s
section
variable {X : Cx} {a b : Expr} {ta tb : TE} {pos : Pos}
/-- a[b] -/
theorem pe_ix {r : R2} (hr : IxR X r) (ha : PE X a ta) (hb : PE X b tb) (hs : PlainIx b) : PE X (.Subscript a b pos) (tOp r ta tb) := by
  intro pins s σ H Q I h
  exact Subscript_ (binT ha hb I h fun v u s2 x y H2 I2 rx ry q => hr a b pins s2 σ H2 x y v u Q I2 rx ry q (hs _ _))

def rIxL (K : PySem.W.Frag) : R2 := fun x y H Q => ∃ p xs i v, x = .ref p ∧ y = .int i ∧ SqL K H p xs ∧ atI xs i = some v ∧ Q v H
def rIxT (K : PySem.W.Frag) : R2 := fun x y H Q => ∃ p xs i v, x = .ref p ∧ y = .int i ∧ SqT K H p xs ∧ atI xs i = some v ∧ Q v H
def rIxS : R2 := fun x y H Q => ∃ z i c, x = .str z ∧ y = .int i ∧ z.length ≤ sizeLine ∧ atI z.cps.toList i = some c ∧ Q (.str ⟨#[c]⟩) H
theorem ix_list : IxR X (rIxL X.K) := by
  intro value slice pins s σ H x y v u Q I rx ry h hs
  obtain ⟨p, xs, i, z, rfl, rfl, hq, he, q⟩ := h
  cases rx
  obtain ⟨t, rfl⟩ := ry
  obtain ⟨its, r, pl, hz⟩ := I.list hq
  obtain ⟨j, h1, h2, h3, h4, h5⟩ := atI_get he
  obtain ⟨w, ew, rw'⟩ := r.get h2
  have hl := r.length
  have hn := line63
  have fin : EP X pins σ Q w s := ⟨z, H, I, rw', q⟩
  by_cases h0 : 0 ≤ i
  · have hj : i.toNat = j := by
      rw [seqIndex_of h0 h5] at h1
      exact Option.some.inj h1
    exact item_listR pl.isList h0 (by omega) (by rw [hj]; simpa using ew) fin hs
  · have hj : (i + (its.toArray.size : Int)).toNat = j := by
      rw [seqIndex_neg (by omega) h4] at h1
      rw [List.size_toArray, ← hl]
      exact Option.some.inj h1
    exact subscriptTail_builtinR (x := w) pl.isList.typeIs slot_list_getitem.lookup
      (wpAny_getItem_list_neg (Q := fun r s' => r = w ∧ EP X pins σ Q r s') pl.isList (by omega) (by rw [List.size_toArray] <;> omega) (by omega) (by rw [hj]; simpa using ew) ⟨rfl, fin⟩) hs
theorem ix_tup : IxR X (rIxT X.K) := by
  intro value slice pins s σ H x y v u Q I rx ry h hs
  obtain ⟨p, xs, i, z, rfl, rfl, hq, he, q⟩ := h
  cases rx
  obtain ⟨t, rfl⟩ := ry
  obtain ⟨its, r, pl, hz⟩ := I.tuple hq
  obtain ⟨j, h1, h2, h3, h4, h5⟩ := atI_get he
  obtain ⟨w, ew, rw'⟩ := r.get h2
  have hl := r.length
  have hn := line63
  have fin : EP X pins σ Q w s := ⟨z, H, I, rw', q⟩
  exact subscriptTail_builtinR (x := w) pl.typeIs slot_tuple_getitem.lookup
    (getItem_tuple (j := j) (Q := fun r s' => r = w ∧ EP X pins σ Q r s') pl (by omega) (by omega) (by rw [List.size_toArray, ← hl]; exact h1) (by simpa using ew) ⟨rfl, fin⟩) hs
theorem ix_str : IxR X rIxS := by
  intro value slice pins s σ H x y v u Q I rx ry h hs
  obtain ⟨z, i, c, rfl, rfl, hz, he, q⟩ := h
  obtain ⟨t, rfl⟩ := rx
  obtain ⟨t', rfl⟩ := ry
  obtain ⟨j, h1, h2, h3, h4, h5⟩ := atI_get he
  have hl : z.cps.toList.length = z.length := by simp [Str.length]
  rw [hl] at h1 h4 h5
  have hn := line63
  exact tail_any (typeIs_str s z t) slot_str_getitem.lookup (getItem_str (c := c) (by
    have e1 : decide (i < -(2 ^ 63 : Int)) = false := decide_eq_false (by omega)
    have e2 : decide (i ≥ 2 ^ 63) = false := decide_eq_false (by omega)
    rw [e1, e2, Bool.or_false]) (by rw [h1]; simpa using h2) ⟨.str ⟨#[c]⟩, H, I.tok _, ⟨_, rfl⟩, q⟩) hs
/-- the list's object behind a store -/
theorem mapSeq_set (its : List Value) (n j : Nat) (u : Value) : Obj.mapSeq (·.setIfInBounds j u) { cls := .type "list", data := .seq its.toArray n } = { cls := .type "list", data := .seq (its.set j u).toArray n } := by
  simp [Obj.mapSeq]
theorem Inv.lst {pins : List (Addr × Obj)} {σ : St} {H : Hp} {s : Shared} {p : Addr} {xs : List V} (I : Inv X pins σ H s) (h : H p = some (.lst xs)) :
    ∃ (its : List Value) (n : Nat), Vals xs its ∧ s.heap.get? p = some { cls := .type "list", data := .seq its.toArray n } ∧ xs.length ≤ sizeLine := by
  obtain ⟨z, its, n, r, e⟩ := I.hok p _ h
  exact ⟨its, n, r, e, z⟩
/-- the list at p is written by an update of its object -/
theorem Inv.lstUpd {pins : List (Addr × Obj)} {σ : St} {H : Hp} {s : Shared} {p : Addr} {xs ys : List V} {its its' : List Value} {n n' : Nat} {f : Obj → Obj} (I : Inv X pins σ H s) (h : H p = some (.lst xs))
    (ho : s.heap.get? p = some { cls := .type "list", data := .seq its.toArray n }) (hf : f { cls := .type "list", data := .seq its.toArray n } = { cls := .type "list", data := .seq its'.toArray n' }) (r : Vals ys its') (hz : ys.length ≤ sizeLine) (t : Nat) :
    Inv X pins σ (upd H p (.lst ys)) { s with heap := s.heap.update p f, toks := t } := by
  have e : (s.heap.update p f).get? p = some { cls := .type "list", data := .seq its'.toArray n' } := by
    rw [Heap.get?_update_self f ho (by rw [hf] <;> rfl), hf]
  refine I.write (x := p) (e := p) (by rw [h]; trivial) (.inl rfl) (fun b u hb q => (Heap.get?_update_other _ _ (Ne.symm hb)).trans q) ⟨_, e⟩ ?_
  exact ⟨hz, its', n', r, e⟩
def rSetL : V → V → V → Hp → (Hp → Prop) → Prop := fun o i v H Q => ∃ p xs k j, o = .ref p ∧ i = .int k ∧ H p = some (.lst xs) ∧ ixN xs.length k = some j ∧ Q (upd H p (.lst (xs.set j v)))
theorem set_list : PSet X rSetL := by
  intro pins s σ H o i v ov iv u Q I ro ri rv h
  obtain ⟨p, xs, k, j, rfl, rfl, hp, hj, q⟩ := h
  cases ro
  obtain ⟨t, rfl⟩ := ri
  obtain ⟨its, n, r, ho, hz⟩ := I.lst hp
  obtain ⟨h1, h2, h3, h4⟩ := ixN_seq hj
  have hl := r.length
  have hn := line63
  have I' : Inv X pins σ (upd H p (.lst (xs.set j v))) { s with heap := s.heap.update p (Obj.mapSeq (·.setIfInBounds j u)) } :=
    I.lstUpd hp ho (mapSeq_set its n j u) (r.set rv j) (by rw [List.length_set]; exact hz) s.toks
  by_cases h0 : 0 ≤ k
  · have hk : k.toNat = j := by
      rw [seqIndex_of h0 h4] at h1
      exact Option.some.inj h1
    exact PySem.W.ki_setAt ho h0 (by omega) (by rw [List.size_toArray, ← hl]; exact h4) (by rw [hk]; exact ⟨_, I', q⟩)
  · have hk : (k + (its.toArray.size : Int)).toNat = j := by
      rw [seqIndex_neg (by omega) h3] at h1
      rw [List.size_toArray, ← hl]
      exact Option.some.inj h1
    exact PySem.W.ki_setBack ho (by omega) (by rw [List.size_toArray, ← hl]; exact h3) (by omega) (by rw [hk]; exact ⟨_, I', q⟩)

theorem slice_bounds (lo hi : Option Int) (n : Nat) : (sliceBounds lo hi none n).1 = ((HT.sIx n 0 lo : Nat) : Int) ∧ (sliceBounds lo hi none n).2.1 = ((HT.sIx n n hi : Nat) : Int) ∧ (sliceBounds lo hi none n).2.2 = 1 := by
  refine ⟨?_, ?_, rfl⟩
  · cases lo with
    | none => simp [sliceBounds, HT.sIx]
    | some i =>
      simp only [sliceBounds, HT.sIx, Option.getD_none, show (1 : Int) > 0 by decide, if_true]
      by_cases h : i < 0
      · simp only [h, if_true] <;> omega
      · simp only [h, if_false] <;> omega
  · cases hi with
    | none => simp [sliceBounds, HT.sIx]
    | some i =>
      simp only [sliceBounds, HT.sIx, Option.getD_none, show (1 : Int) > 0 by decide, if_true]
      by_cases h : i < 0
      · simp only [h, if_true] <;> omega
      · simp only [h, if_false] <;> omega
theorem slicePick_cut (its : List Value) (lo hi : Option Int) : slicePick its.toArray lo hi none = ((its.drop (HT.sIx its.length 0 lo)).take (HT.sIx its.length its.length hi - HT.sIx its.length 0 lo)).toArray := by
  obtain ⟨h1, h2, h3⟩ := slice_bounds lo hi its.toArray.size
  unfold slicePick
  rw [h1, h2, h3]
  simp only [sliceRange_one, pick_run, List.size_toArray] <;> rfl
/-- xs[lo:hi] of a list: a new list -/
def rSlL (K : PySem.W.Frag) : V → Option Int → Option Int → Hp → VK → Prop := fun x lo hi H Q => ∃ a xs, x = .ref a ∧ SqL K H a xs ∧ ∀ p, H p = none → Q (.ref p) (upd H p (.lst (cutV xs lo hi)))
theorem sl_list : SlR X (rSlL X.K) := by
  intro pins s σ H x v vl vu lo hi sl Q I rx hs pl pu h
  obtain ⟨a, xs, rfl, hx, q⟩ := h
  cases rx
  obtain ⟨its, r, ht, hz⟩ := I.list hx
  have hlen := r.length
  refine ⟨"list", _, slot_list_getitem.lookup, ht.isList.typeIs, ?_⟩
  refine wpAny_getItem_list_slice ht.isList hs pl pu .none (by simp) ?_ (by rw [List.size_toArray] <;> omega)
  rw [slicePick_cut, ← hlen]
  refine ⟨.ref s.heap.objs.size, _, I.laid (t' := s.toks) (o := .lst (cutV xs lo hi)) (fun b ob q => Heap.get?_push_of_some _ q) (Nat.le_refl _) ?_, rfl, q _ (I.hok.fresh (Nat.le_refl _))⟩
  exact ⟨Nat.le_trans (cutV_length xs lo hi) hz, _, 0, (r.drop (HT.sIx xs.length 0 lo)).take (HT.sIx xs.length xs.length hi - HT.sIx xs.length 0 lo), Heap.get?_push_size _ rfl⟩

def flatV : V → Bool
  | .non => true
  | .bl _ => true
  | .int _ => true
  | .str _ => true
  | _ => false
/-- == of flat values -/
def eqV : V → V → Bool
  | .non, .non => true
  | .bl a, .bl b => a == b
  | .bl a, .int b => (if a then 1 else 0) == b
  | .int a, .bl b => a == (if b then 1 else 0)
  | .int a, .int b => a == b
  | .str a, .str b => a == b
  | _, _ => false
theorem eqAt_V {A : Around} {s : Shared} {y x : V} {u v : Value} (ry : RelV y u) (rx : RelV x v) (fy : flatV y = true) (fx : flatV x = true) : SeqAt.EqAt A s u v (eqV y x) := by
  cases y with
  | non =>
    cases ry
    cases x with
    | non => cases rx; exact SeqAt.EqAt.same _
    | bl b => cases rx; exact SeqAt.EqAt.none_bool b
    | int b => obtain ⟨t, rfl⟩ := rx; exact SeqAt.EqAt.none_int b t
    | str b => obtain ⟨t, rfl⟩ := rx; exact SeqAt.EqAt.none_str b t
    | _ => exact absurd (show false = true from fx) Bool.false_ne_true
  | bl a =>
    cases ry
    cases x with
    | non => cases rx; exact SeqAt.EqAt.bool_none a
    | bl b => cases rx; exact SeqAt.EqAt.bool_bool a b
    | int b => obtain ⟨t, rfl⟩ := rx; exact SeqAt.EqAt.bool_int a b t
    | str b => obtain ⟨t, rfl⟩ := rx; exact SeqAt.EqAt.bool_str a b t
    | _ => exact absurd (show false = true from fx) Bool.false_ne_true
  | int a =>
    obtain ⟨t', rfl⟩ := ry
    cases x with
    | non => cases rx; exact SeqAt.EqAt.int_none a t'
    | bl b => cases rx; exact SeqAt.EqAt.int_bool a t' b
    | int b => obtain ⟨t, rfl⟩ := rx; exact SeqAt.EqAt.int_int a t' b t
    | str b => obtain ⟨t, rfl⟩ := rx; exact SeqAt.EqAt.int_str a t' b t
    | _ => exact absurd (show false = true from fx) Bool.false_ne_true
  | str a =>
    obtain ⟨t', rfl⟩ := ry
    cases x with
    | non => cases rx; exact SeqAt.EqAt.str_none a t'
    | bl b => cases rx; exact SeqAt.EqAt.str_bool a t' b
    | int b => obtain ⟨t, rfl⟩ := rx; exact SeqAt.EqAt.str_int a t' b t
    | str b => obtain ⟨t, rfl⟩ := rx; exact SeqAt.EqAt.str_str a t' b t
    | _ => exact absurd (show false = true from fx) Bool.false_ne_true
  | _ => exact absurd (show false = true from fy) Bool.false_ne_true
/-- the items' answers, read off the values (a value's own answer does not lean on its token) -/
def eqU (x : V) (u : Value) : Bool := match u with
  | .none => eqV .non x
  | .bool b => eqV (.bl b) x
  | .int i _ => eqV (.int i) x
  | .str z _ => eqV (.str z) x
  | _ => false
theorem eqU_of {x y : V} {u : Value} (r : RelV y u) (f : flatV y = true) : eqU x u = eqV y x := by
  cases y with
  | non => cases r; rfl
  | bl b => cases r; rfl
  | int i => obtain ⟨t, rfl⟩ := r; rfl
  | str z => obtain ⟨t, rfl⟩ := r; rfl
  | _ => exact absurd (show false = true from f) Bool.false_ne_true
theorem any_eqU {x : V} : ∀ {xs : List V} {us : List Value}, Vals xs us → xs.all flatV = true → us.any (eqU x) = xs.any fun y => eqV y x
  | _, _, .nil, _ => rfl
  | y :: xs, u :: us, .cons r t, f => by
    rw [List.all_cons, Bool.and_eq_true] at f
    rw [List.any_cons, List.any_cons, eqU_of r f.1, any_eqU t f.2]
theorem mem_eqAt {A : Around} {s : Shared} {x : V} {v : Value} (rx : RelV x v) (fx : flatV x = true) : ∀ {xs : List V} {us : List Value}, Vals xs us → xs.all flatV = true → ∀ u ∈ us, SeqAt.EqAt A s u v (eqU x u)
  | _, _, .nil, _ => fun u hu => by cases hu
  | y :: xs, u :: us, .cons r t, f => fun u' hu => by
    rw [List.all_cons, Bool.and_eq_true] at f
    rcases List.mem_cons.mp hu with rfl | hu
    · rw [eqU_of r f.1]; exact eqAt_V r rx f.1 fx
    · exact mem_eqAt rx fx t f.2 u' hu
def inV (x : V) (xs : List V) : Bool := xs.any fun y => eqV y x
/-- x in a list or tuple of flat items -/
def rIn (K : PySem.W.Frag) (neg : Bool) : R2 := fun x y H Q => ∃ p xs, y = .ref p ∧ (SqL K H p xs ∨ SqT K H p xs) ∧ flatV x = true ∧ xs.all flatV = true ∧ Q (.bl (if neg then !inV x xs else inV x xs)) H
theorem op_in_seq : OpR X (compareOp .In) (rIn X.K false) := by
  intro pins s σ H x y v u Q I rx ry h
  obtain ⟨p, xs, rfl, hq, fx, fs, q⟩ := h
  cases ry
  rcases hq with hq | hq
  · obtain ⟨its, r, pl, hz⟩ := I.list hq
    refine SeqAt.in_listAt (eqU x) pl.isList (fun w hw => mem_eqAt rx fx r fs w (by simpa using hw)) ⟨.bl _, H, I, rfl, ?_⟩
    rw [show its.toArray.any (eqU x) = its.any (eqU x) by simp, any_eqU r fs]
    exact q
  · obtain ⟨its, r, pl, hz⟩ := I.tuple hq
    refine SeqAt.in_tupleAt (eqU x) pl (fun w hw => mem_eqAt rx fx r fs w (by simpa using hw)) ⟨.bl _, H, I, rfl, ?_⟩
    rw [show its.toArray.any (eqU x) = its.any (eqU x) by simp, any_eqU r fs]
    exact q
theorem op_notIn_seq : OpR X (compareOp .NotIn) (rIn X.K true) := by
  intro pins s σ H x y v u Q I rx ry h
  obtain ⟨p, xs, rfl, hq, fx, fs, q⟩ := h
  cases ry
  rcases hq with hq | hq
  · obtain ⟨its, r, pl, hz⟩ := I.list hq
    refine SeqAt.notIn_listAt (eqU x) pl.isList (fun w hw => mem_eqAt rx fx r fs w (by simpa using hw)) ⟨.bl _, H, I, rfl, ?_⟩
    rw [show its.toArray.any (eqU x) = its.any (eqU x) by simp, any_eqU r fs]
    exact q
  · obtain ⟨its, r, pl, hz⟩ := I.tuple hq
    refine SeqAt.notIn_tupleAt (eqU x) pl (fun w hw => mem_eqAt rx fx r fs w (by simpa using hw)) ⟨.bl _, H, I, rfl, ?_⟩
    rw [show its.toArray.any (eqU x) = its.any (eqU x) by simp, any_eqU r fs]
    exact q
theorem call_list_of : CallR X (.type "list") (fun xs H Q => ∃ p ys, xs = [.ref p] ∧ (SqL X.K H p ys ∨ SqT X.K H p ys) ∧ ∀ l, H l = none → Q (.ref l) (upd H l (.lst ys))) := by
  intro pins s σ H xs us Q I r h
  obtain ⟨p, ys, rfl, hq, q⟩ := h
  obtain ⟨u, rfl, rx⟩ := vals1 r
  cases rx
  have fin : ∀ (its : List Value), Vals ys its → ys.length ≤ sizeLine → ∀ (h' : Heap) (c' : Nat), (∀ b o', s.heap.get? b = some o' → h'.get? b = some o') →
      h'.get? s.heap.objs.size = some { cls := .type "list", dict := none, data := .seq its.toArray c', slots := #[] } → EP X pins σ Q (.ref s.heap.objs.size) { s with heap := h' } := fun its r' hz h' c' kp e =>
    ⟨.ref s.heap.objs.size, _, I.laid (t' := s.toks) kp (Nat.le_refl _) (show ObjOk X.prog X.w _ h' _ (.lst ys) from ⟨hz, its, c', r', e⟩), rfl, q _ (I.hok.fresh (Nat.le_refl _))⟩
  rcases hq with hq | hq
  · obtain ⟨its, r', pl, hz⟩ := I.list hq
    have hlen := r'.length
    obtain ⟨o, ho, hc, n, hd⟩ := pl.isList
    exact call_list_seq p (.inl rfl) ho hc hd (fun h' c' kp e => fin its r' hz h' c' kp e) (by simp only [List.size_toArray] <;> omega)
  · obtain ⟨its, r', pl, hz⟩ := I.tuple hq
    have hlen := r'.length
    obtain ⟨o, ho, hc, n, hd⟩ := pl
    exact call_list_seq p (.inr rfl) ho hc hd (fun h' c' kp e => fin its r' hz h' c' kp e) (by simp only [List.size_toArray] <;> omega)
theorem call_tuple_of : CallR X (.type "tuple") (fun xs H Q => ∃ p ys, xs = [.ref p] ∧ ((SqL X.K H p ys ∧ ∀ l, H l = none → Q (.ref l) (upd H l (.tup ys))) ∨ (SqT X.K H p ys ∧ Q (.ref p) H))) := by
  intro pins s σ H xs us Q I r h
  obtain ⟨p, ys, rfl, h⟩ := h
  obtain ⟨u, rfl, rx⟩ := vals1 r
  cases rx
  rcases h with ⟨hq, q⟩ | ⟨hq, q⟩
  · obtain ⟨its, r', pl, hz⟩ := I.list hq
    have hlen := r'.length
    refine call_tuple_list pl.isList (fun h' kp => ?_) (by simp only [List.size_toArray] <;> omega)
    have I1 : Inv X pins σ H { s with heap := h' } := I.kept (t' := s.toks) kp
    have I2 : Inv X pins σ (upd H h'.objs.size (.tup ys)) { s with heap := h'.push { cls := .type "tuple", data := .seq its.toArray } } :=
      I1.laid (t' := s.toks) (fun b o e => Heap.get?_push_of_some _ e) (Nat.le_refl _) (show ObjOk X.prog X.w _ _ _ (.tup ys) from ⟨hz, its, r', IsTup.new _ _⟩)
    exact ⟨.ref h'.objs.size, _, I2, rfl, q _ (I1.hok.fresh (Nat.le_refl _))⟩
  · obtain ⟨its, r', pl, hz⟩ := I.tuple hq
    exact call_tuple_same pl ⟨.ref p, H, I, rfl, q⟩

/-- the value is of that builtin type -/
def tyV (K : PySem.W.Frag) (T : String) (x : V) (H : Hp) : Prop := match x with
  | .str _ => T = "str"
  | .int _ => T = "int"
  | .ref p => (T = "list" ∧ ∃ xs, SqL K H p xs) ∨ (T = "tuple" ∧ ∃ o, K.lookup p = some o ∧ o.cls = .type "tuple" ∧ o.dict = none) ∨
      (T = "dict" ∧ ((∃ kvs, H p = some (.dK kvs)) ∨ ∃ kvs, H p = some (.dT kvs))) ∨ (T = "set" ∧ ∃ S n, H p = some (.set S n))
  | _ => False
theorem tyV_is {pins : List (Addr × Obj)} {σ : St} {H : Hp} {s : Shared} {T : String} {x : V} {v : Value} (I : Inv X pins σ H s) (r : RelV x v) (ty : tyV X.K T x H) :
    s.TypeIs v T ∧ ∀ a, v = .ref a → ∃ ob, s.heap.get? a = some ob ∧ ob.dict = none := by
  cases x with
  | str z =>
    obtain ⟨t, rfl⟩ := r
    cases (show T = "str" from ty)
    exact ⟨typeIs_str s z t, fun _ e => nomatch e⟩
  | int i =>
    obtain ⟨t, rfl⟩ := r
    cases (show T = "int" from ty)
    exact ⟨typeIs_int s i t, fun _ e => nomatch e⟩
  | ref p =>
    cases r
    rcases ty with ⟨rfl, xs, hq⟩ | ⟨rfl, o, hk, hc, hd⟩ | ⟨rfl, hk⟩ | ⟨rfl, S, n, hk⟩
    · obtain ⟨its, _, pl, _⟩ := I.list hq
      refine ⟨pl.isList.typeIs, fun a e => ?_⟩
      cases e
      obtain ⟨o, n, e, c, hd, _⟩ := pl
      exact ⟨o, e, hd⟩
    · refine ⟨⟨o, I.kIn p o hk, hc⟩, fun a e => ?_⟩
      cases e
      exact ⟨o, I.kIn _ o hk, hd⟩
    · have z : ∃ o, s.heap.get? p = some o ∧ o.ExactDict := by
        rcases hk with ⟨kvs, hk⟩ | ⟨kvs, hk⟩
        · obtain ⟨_, _, _, _, o, _, _, e, ex, _⟩ := I.hok p _ hk
          exact ⟨o, e, ex⟩
        · obtain ⟨_, _, _, _, o, _, _, e, ex, _⟩ := I.hok p _ hk
          exact ⟨o, e, ex⟩
      obtain ⟨o, e, ex⟩ := z
      refine ⟨⟨o, e, ex.1⟩, fun a e2 => ?_⟩
      cases e2
      exact ⟨o, e, ex.2.1⟩
    · obtain ⟨o, _, _, _, e, ex, _⟩ := I.hok p _ hk
      refine ⟨⟨o, e, ex.1⟩, fun a e2 => ?_⟩
      cases e2
      exact ⟨o, e, ex.2.1⟩
  | _ => exact False.elim ty
def tBM (K : PySem.W.Frag) (T : String) (r : V → List V → Hp → VK → Prop) (to : TE) (t : TA) : TE := fun σ H Q => to σ H fun x H1 => tyV K T x H1 ∧ t σ H1 fun xs H2 => r x xs H2 Q
variable {o e : Expr} {es : List Expr} {to : TE} {t : TA} {name : Str} {apos cpos : Pos} {T id : String} {r : V → List V → Hp → VK → Prop}
theorem pe_bm (pa : PlainAttrs T) (slot : Slot T name id) (hty : typeOf (.builtin id) = pure (.type "method_descriptor")) (hm : MtR X id r) (ho : PE X o to) (ha : PA X (e :: es) t)
    (hbase : attributeBase o name X.env (eval o X.env) = eval o X.env := by rfl)
    (hfew : ((backTo cpos (starEach (e :: es) X.env)).all (fun x => !x.1) && (backToKw cpos (keywordEach [] X.env)).all (fun x => x.1.isSome)
      && decide ((e :: es).length + ([] : List Keyword).length + (if ([] : List Keyword).isEmpty then 0 else 1) < 30)) = true := by rfl)
    (hline : (apos.endLine == cpos.line) = true := by rfl) (hs : starEach (e :: es) X.env = (false, eval e X.env) :: starEach es X.env := by rfl) (hplain : (backTo cpos (starEach es X.env)).any (·.1) = false := by rfl) :
    PE X (.Call (.Attribute o name apos) (e :: es) [] cpos) (tBM X.K T r to t) := by
  intro pins s σ H Q I h
  refine wpAny_Call_method_late hbase hfew hline rfl (thn (ho pins s σ H _ I h) fun v s1 ⟨x, H1, I1, r1, ty, q1⟩ => ?_)
  obtain ⟨h1, h2⟩ := tyV_is I1 r1 ty
  refine ⟨T, id, pa, slot, hty, h1, h2, ?_⟩
  have hA := ha cpos pins s1 σ H1 _ I1 q1
  rw [hs] at hA ⊢
  refine Calls.callWith_builtin (by show (false || (backTo cpos (starEach es X.env)).any (·.1)) = false; rw [hplain] <;> rfl) (Calls.evalArgs_plain ?_)
  exact thn hA fun us s2 ⟨vs, H2, I2, r2, q2⟩ => hm pins s2 σ H2 x vs v us Q I2 r1 r2 q2
/- xs.append(e), list.index on a module's tuple .. are MtR facts of 06m -/
end
end L2

namespace L2
open PySem PySem.Spec PyProof.Rows

def MtM (X : Cx) (id : String) (r : V → List V → Hp → VK → Prop) : Prop :=
  ∀ (pins : List (Addr × Obj)) (s : Shared) (σ : St) (H : Hp) (x : V) (xs : List V) (v : Value) (us : List Value) (Q : VK), Inv X pins σ H s → RelV x v → Vals xs us → r x xs H Q →
    wpAny (model X.prog X.w) X.A (call (.builtin id) (v :: us)) (EP X pins σ Q) X.xe s

theorem Vals.one : ∀ {x : V} {us : List Value}, Vals [x] us → ∃ u, us = [u] ∧ RelV x u
  | _, _, .cons r .nil => ⟨_, rfl, r⟩
theorem Vals.two : ∀ {x y : V} {us : List Value}, Vals [x, y] us → ∃ u v, us = [u, v] ∧ RelV x u ∧ RelV y v
  | _, _, _, .cons r (.cons q .nil) => ⟨_, _, rfl, r, q⟩
section
variable {X : Cx} {pins : List (Addr × Obj)} {σ : St} {H : Hp} {s : Shared} {l b : Addr} {xs ys zs : List V}

theorem Inv.lset {its its' : List Value} {n : Nat} {f : Array Value → Array Value} {t' : Nat} (I : Inv X pins σ H s) (hH : H l = some (.lst xs))
    (e : s.heap.get? l = some { cls := .type "list", data := .seq its.toArray n }) (hf : f its.toArray = its'.toArray) (hv : Vals ys its') (hz : ys.length ≤ sizeLine) :
    Inv X pins σ (upd H l (.lst ys)) { s with heap := s.heap.update l (Obj.mapSeq f), toks := t' } := by
  have q := PySem.IsL.update e f
  rw [hf] at q
  refine I.write (x := l) (e := l) (by rw [hH]; exact trivial) (.inl rfl) (fun b' u hb hu => (Heap.get?_update_other s.heap (Obj.mapSeq f) (Ne.symm hb)).trans hu) ⟨_, q⟩ ?_
  exact ⟨hz, its', _, hv, q⟩
theorem Inv.lnew {its : List Value} {t' : Nat} (I : Inv X pins σ H s) (hv : Vals ys its) (hz : ys.length ≤ sizeLine) :
    Inv X pins σ (upd H s.heap.objs.size (.lst ys)) { s with heap := s.heap.push { cls := .type "list", data := .seq its.toArray }, toks := t' } :=
  I.laid (fun _ _ q => Heap.get?_push_of_some _ q) (Nat.le_refl _) ⟨hz, its, 0, hv, Heap.get?_push_size _ rfl⟩
theorem Inv.fresh (I : Inv X pins σ H s) : H s.heap.objs.size = none := I.hok.fresh (Nat.le_refl _)
theorem Inv.lstM (I : Inv X pins σ H s) (hH : H l = some (.lst xs)) : xs.length ≤ sizeLine ∧ ∃ (its : List Value) (n : Nat), Vals xs its ∧ xs.length = its.length ∧ s.heap.get? l = some { cls := .type "list", data := .seq its.toArray n } := by
  obtain ⟨z, its, n, r, e⟩ := I.hok l _ hH
  exact ⟨z, its, n, r, r.length, e⟩

theorem notLongL {n : Nat} (h : n ≤ sizeLine) : Builtin.List.listTooLong n = false := by
  unfold Builtin.List.listTooLong
  exact decide_eq_false (by omega)
end

section
variable {X : Cx}

def rAppend : V → List V → Hp → VK → Prop := fun x vs H Q => ∃ l xs y, x = .ref l ∧ vs = [y] ∧ H l = some (.lst xs) ∧ xs.length < sizeLine ∧ Q .non (upd H l (.lst (xs ++ [y])))
theorem mt_append : MtM X "list.append" rAppend := by
  intro pins s σ H x vs v us Q I rx rv h
  obtain ⟨l, xs, y, rfl, rfl, hH, hz, q⟩ := h
  cases rx
  obtain ⟨u, rfl, ru⟩ := rv.one
  obtain ⟨z, its, n, r, hl, e⟩ := I.lstM hH
  refine call_meets F.slot_list_append ⟨_, e, rfl⟩ F.entry_list_append (F.args_list_append_2 _ _) (PySem.list_append l its.toArray n u (by rw [List.size_toArray]; omega)) ⟨e, ?_⟩
  refine ⟨.non, _, I.lset (its' := its ++ [u]) hH e (by simp) (r.append (.cons ru .nil)) ?_, rfl, q⟩
  rw [List.length_append, List.length_singleton]
  omega

def rExtend : V → List V → Hp → VK → Prop := fun x vs H Q => ∃ l b xs zs, x = .ref l ∧ vs = [.ref b] ∧ H l = some (.lst xs) ∧ H b = some (.lst zs) ∧ xs.length + zs.length ≤ sizeLine ∧ Q .non (upd H l (.lst (xs ++ zs)))
theorem mt_extend : MtM X "list.extend" rExtend := by
  intro pins s σ H x vs v us Q I rx rv h
  obtain ⟨l, b, xs, zs, rfl, rfl, hH, hB, hz, q⟩ := h
  cases rx
  obtain ⟨u, rfl, ru⟩ := rv.one
  cases ru
  obtain ⟨z, its, n, r, hl, e⟩ := I.lstM hH
  obtain ⟨z2, its2, n2, r2, hl2, e2⟩ := I.lstM hB
  have hsz : its.toArray.size + its2.toArray.size ≤ sizeLine := by rw [List.size_toArray, List.size_toArray]; omega
  have hlong : ¬ (!its.toArray.isEmpty && Builtin.List.listTooLong (its.toArray.size + its2.toArray.size)) = true := by
    rw [notLongL hsz, Bool.and_false]
    exact Bool.false_ne_true
  refine call_meets F.slot_list_extend ⟨_, e, rfl⟩ F.entry_list_extend (F.args_list_extend_2 _ _)
    (AutoSeq1.list_extend_list_list_0 l its.toArray n b its2.toArray n2 hlong (by rw [List.size_toArray]; omega) (by omega)) ⟨e, e2, ?_⟩
  refine ⟨.non, _, I.lset (its' := its ++ its2) hH e (by simp) (r.append r2) ?_, rfl, q⟩
  rw [List.length_append]
  omega

def rCat : R2 := fun x y H Q => ∃ l b xs zs, x = .ref l ∧ y = .ref b ∧ H l = some (.lst xs) ∧ H b = some (.lst zs) ∧ xs.length + zs.length ≤ sizeLine ∧ ∀ p, H p = none → Q (.ref p) (upd H p (.lst (xs ++ zs)))
theorem op_cat : OpR X (binaryOp .Add) rCat := by
  intro pins s σ H x y v u Q I rx ry h
  obtain ⟨l, b, xs, zs, rfl, rfl, hH, hB, hz, q⟩ := h
  cases rx
  cases ry
  obtain ⟨z, its, n, r, hl, e⟩ := I.lstM hH
  obtain ⟨z2, its2, n2, r2, hl2, e2⟩ := I.lstM hB
  refine PySem.P.add_list e e2 ?_ (by rw [List.size_toArray, List.size_toArray]; omega)
  have ea : its.toArray ++ its2.toArray = (its ++ its2).toArray := by simp
  rw [ea]
  exact ⟨.ref _, _, I.lnew (t' := s.toks) (r.append r2) (by rw [List.length_append]; omega), rfl, q _ I.fresh⟩
end

section
variable {prog : Program} {w : World} {A : Around} {E : Value → Shared → Prop} {s : Shared}
end

section
variable {X : Cx}
end
end L2

namespace L2
open PySem PySem.Spec PyProof.Rows

section
variable {κ : Type} [DecidableEq κ]
def valV (kvs : List (κ × V)) (k : κ) : Option V := (kvs.find? fun kv => decide (kv.1 = k)).map (·.2)
/-- in its place, or at the end -/
def putK (kvs : List (κ × V)) (k : κ) (v : V) : List (κ × V) :=
  if (kvs.any fun kv => decide (kv.1 = k)) = true then kvs.map (fun kv => if kv.1 = k then (kv.1, v) else kv) else kvs ++ [(k, v)]
theorem valV_pos {p : κ × V} {r : List (κ × V)} {k : κ} (e : p.1 = k) : valV (p :: r) k = some p.2 := by simp [valV, List.find?_cons, e]
theorem valV_neg {p : κ × V} {r : List (κ × V)} {k : κ} (e : ¬ p.1 = k) : valV (p :: r) k = valV r k := by simp [valV, List.find?_cons, e]
theorem length_putK (kvs : List (κ × V)) (k : κ) (v : V) : (putK kvs k v).length ≤ kvs.length + 1 := by
  unfold putK
  split
  · rw [List.length_map]; omega
  · rw [List.length_append, List.length_cons, List.length_nil]; omega
theorem RelO.getD {o : Option V} {u : Option Value} {d : V} {d' : Value} (r : RelO o u) (rd : RelV d d') : RelV (o.getD d) (u.getD d') := by
  cases o with
  | none => cases u with
    | none => exact rd
    | some _ => exact (show False from r).elim
  | some _ => cases u with
    | none => exact (show False from r).elim
    | some _ => exact r

/-- raw tables of the same keys -/
theorem KV.val {kvs : List (κ × V)} {vs : List (κ × Value)} (r : KV kvs vs) (k : κ) : RelO (valV kvs k) (valueAt vs k) := by
  unfold KV at r
  induction r with
  | nil => exact True.intro
  | @cons p q ps qs h t ih =>
    obtain ⟨h1, h2⟩ := h
    by_cases e : p.1 = k
    · have e' : q.1 = k := h1.symm.trans e
      have b : valueAt (q :: qs) k = some q.2 := by simp [valueAt, List.find?_cons, e']
      rw [valV_pos e, b]; exact h2
    · have e' : ¬ q.1 = k := fun z => e (h1.trans z)
      have b : valueAt (q :: qs) k = valueAt qs k := by simp [valueAt, List.find?_cons, e']
      rw [valV_neg e, b]; exact ih
theorem KV.any {kvs : List (κ × V)} {vs : List (κ × Value)} (r : KV kvs vs) (k : κ) : (kvs.any fun kv => decide (kv.1 = k)) = vs.any fun kv => decide (kv.1 = k) := by
  unfold KV at r
  induction r with
  | nil => rfl
  | cons h t ih => rw [List.any_cons, List.any_cons, ih, h.1]
theorem KV.repl {kvs : List (κ × V)} {vs : List (κ × Value)} (r : KV kvs vs) (k : κ) {y : V} {u : Value} (ry : RelV y u) :
    KV (kvs.map fun kv => if kv.1 = k then (kv.1, y) else kv) (vs.map fun kv => if kv.1 = k then (kv.1, u) else kv) := by
  unfold KV at r ⊢
  induction r with
  | nil => exact .nil
  | @cons p q ps qs h t ih =>
    rw [List.map_cons, List.map_cons]
    refine .cons ?_ ih
    obtain ⟨h1, h2⟩ := h
    by_cases e : p.1 = k
    · rw [if_pos e, if_pos (h1.symm.trans e)]; exact ⟨h1, ry⟩
    · rw [if_neg e, if_neg (fun z => e (h1.trans z))]; exact ⟨h1, h2⟩
theorem KV.put {kvs : List (κ × V)} {vs : List (κ × Value)} (r : KV kvs vs) (k : κ) {y : V} {u : Value} (ry : RelV y u) : KV (putK kvs k y) (stored vs k u) := by
  unfold putK stored
  rw [r.any k]
  by_cases e : (vs.any fun kv => decide (kv.1 = k)) = true
  · rw [if_pos e, if_pos e]; exact r.repl k ry
  · rw [if_neg e, if_neg e]; exact Paired.snoc r ⟨rfl, ry⟩
theorem KV.length {kvs : List (κ × V)} {vs : List (κ × Value)} (r : KV kvs vs) : kvs.length = vs.length := Paired.length r
end


theorem kV_is {P : Program} {w : World} {k : Key} {u : Value} (r : RelV (kV k) u) : (mixKind P w).is k u = true := by
  cases k with
  | inl i => obtain ⟨t, e⟩ := (show ∃ t, u = Value.int i t from r); subst e; exact mixKind_int P w i t
  | inr x => obtain ⟨t, e⟩ := (show ∃ t, u = Value.str x t from r); subst e; exact mixKind_str P w x t
theorem items_are {P : Program} {w : World} : ∀ {ks : List Key} {us : List Value}, Vals (ks.map kV) us → ItemsAre (mixKind P w) ks us
  | [], _, r => by rw [List.map_nil] at r; cases r; exact .nil
  | k :: ks, _, r => by
    rw [List.map_cons] at r
    cases r with
    | cons h t => exact .cons (kV_is h) (items_are t)

/-- raw entries of a dict with tuple keys -/
abbrev KT (H : Hp) : List (List Key × V) → List (List Key × Addr × Value) → Prop := Paired fun p q => p.1 = q.1 ∧ H q.2.1 = some (.tup (p.1.map kV)) ∧ RelV p.2 q.2.2
theorem KT.val {H : Hp} {kvs : List (List Key × V)} {xs : List (List Key × Addr × Value)} (r : KT H kvs xs) (k : List Key) : RelO (valV kvs k) ((atKey xs k).map (·.2)) := by
  induction r with
  | nil => exact True.intro
  | @cons p q ps qs h t ih =>
    obtain ⟨h1, _, h2⟩ := h
    by_cases e : p.1 = k
    · have e' : q.1 = k := h1.symm.trans e
      have b : atKey (q :: qs) k = some q.2 := by simp [atKey, List.find?_cons, e']
      rw [valV_pos e, b]; exact h2
    · have e' : ¬ q.1 = k := fun z => e (h1.trans z)
      have b : atKey (q :: qs) k = atKey qs k := by simp [atKey, List.find?_cons, e']
      rw [valV_neg e, b]; exact ih
section
variable {P : Program} {w : World} {H : Hp} {h : Heap} {a : Addr}
theorem rd_of {u : HO} (ok : HOk P w H h) (e : Rd H a u) : ObjOk P w H h a u := e.ok ok
theorem dk_rd {kvs : List (Key × V)} (ok : HOk P w H h) (e : Rd H a (.dK kvs)) : kvs.length ≤ sizeLine ∧ (a == sysModules) = false ∧ ∃ vs, KV kvs vs ∧ h.DictOf (mixKind P w) a vs :=
  show ObjOk P w H h a (.dK kvs) from rd_of ok e
theorem dk_of {kvs : List (Key × V)} (ok : HOk P w H h) (e : H a = some (.dK kvs)) : kvs.length ≤ sizeLine ∧ (a == sysModules) = false ∧ ∃ vs, KV kvs vs ∧ h.DictOf (mixKind P w) a vs := dk_rd ok (.inl e)
/-- a tracked tuple of ints and texts is a key -/
theorem key_of {ks : List Key} (ok : HOk P w H h) (e : H a = some (.tup (ks.map kV))) : (tupleKind (mixKind P w)).is h ks a := by
  obtain ⟨_, its, r, o, h1, h2, n, h3⟩ := (show ObjOk P w H h a (.tup (ks.map kV)) from ok a _ e)
  exact ⟨o, its.toArray, n, h1, h2, h3, by simpa using items_are r⟩
theorem dt_rd {kvs : List (List Key × V)} (ok : HOk P w H h) (e : Rd H a (.dT kvs)) : kvs.length ≤ sizeLine ∧ (a == sysModules) = false ∧
    ∃ xs, KT H kvs xs ∧ h.DictOfH (tupleKind (mixKind P w)) a xs := by
  obtain ⟨z, y, xs, r, o, es, ep, h1, h2, h3, h4, h5⟩ := (show ObjOk P w H h a (.dT kvs) from rd_of ok e)
  refine ⟨z, y, xs, r, o, es, ep, h1, h2, h3, h4, fun x hx => ?_, h5⟩
  have all : ∀ {l : List (List Key × V)} {m : List (List Key × Addr × Value)}, KT H l m → ∀ x ∈ m, (tupleKind (mixKind P w)).is h x.1 x.2.1 := by
    intro l m q
    induction q with
    | nil => intro x hx; exact nomatch hx
    | @cons p q ps qs hq t ih =>
      intro x hx
      rcases List.mem_cons.mp hx with e | hx
      · subst e
        exact key_of ok (by rw [← hq.1]; exact hq.2.1)
      · exact ih x hx
  exact all r x hx
end

/-- what the dict at a holds at the key y -/
def DGet (H : Hp) (a : Addr) (y : V) (r : Option V) : Prop :=
  (∃ kvs k, Rd H a (.dK kvs) ∧ y = kV k ∧ r = valV kvs k) ∨ ∃ kvs k b, Rd H a (.dT kvs) ∧ y = .ref b ∧ H b = some (.tup (k.map kV)) ∧ r = valV kvs k
/-- the heap behind a[y] = v -/
def DPut (H : Hp) (a : Addr) (y v : V) (H' : Hp) : Prop :=
  (∃ kvs k, H a = some (.dK kvs) ∧ y = kV k ∧ kvs.length < sizeLine ∧ H' = upd H a (.dK (putK kvs k v))) ∨
  ∃ kvs k b, H a = some (.dT kvs) ∧ y = .ref b ∧ H b = some (.tup (k.map kV)) ∧ kvs.length < sizeLine ∧ H' = upd H a (.dT (putK kvs k v))
theorem DGet.k {H : Hp} {a : Addr} {kvs : List (Key × V)} {k : Key} (e : H a = some (.dK kvs)) : DGet H a (kV k) (valV kvs k) := .inl ⟨kvs, k, .inl e, rfl, rfl⟩
section
variable {X : Cx} {pins : List (Addr × Obj)} {σ : St} {H : Hp} {s : Shared} {a : Addr} {y v : V} {u r : Value} {o : Option V} {A : Around} {E : Value → Shared → Prop}

theorem Inv.big (I : Inv X pins σ H s) : sysModules < s.heap.objs.size := by
  have h : mainGlobals < s.heap.objs.size := (I.mod.glob.keeps I.bk).lt
  exact Nat.lt_trans (by decide) h

/-- d[y], there -/
theorem d_getItem {Q : Value → Shared → Prop} (hu : A.units + 1 < cLine) (I : Inv X pins σ H s) (g : DGet H a y (some v)) (ry : RelV y u) (h : ∀ w' s', Inv X pins σ H s' → RelV v w' → Q w' s') :
    wpAny (model X.prog X.w) A (getItem (.ref a) u) Q E s := by
  rcases g with ⟨kvs, k, e, ey, l⟩ | ⟨kvs, k, b, e, ey, eb, l⟩
  · subst ey
    obtain ⟨z, hd, vs, rel, dd⟩ := dk_rd I.hok e
    obtain ⟨w', hw, rw'⟩ := RelO.some_of (v := v) (o := valueAt vs k) (by rw [l]; exact rel.val k)
    exact wpAny_getItem_of (kV_is ry) dd.mapOf hw (h w' _ (I.tok _) rw')
  · subst ey
    cases (show u = Value.ref b from ry)
    obtain ⟨z, hd, xs, rel, dd⟩ := dt_rd I.hok e
    obtain ⟨w', hw, rw'⟩ := RelO.some_of (v := v) (o := (atKey xs k).map (·.2)) (by rw [l]; exact rel.val k)
    obtain ⟨p, hp, hp2⟩ := Option.map_eq_some_iff.mp hw
    refine wpAny_getItem_heap (tupleKind_room_in1 hu) (key_of I.hok eb) dd hp ?_
    rw [hp2]
    exact h w' _ (I.tok _) rw'
/-- a dict's object is replaced -/
theorem d_write {h' : Heap} {t' : Nat} {ob : HO} (I : Inv X pins σ H s) (mu : Mut (H a)) (hs : Heap.SameBut a s.heap h') (he : ∃ q, h'.get? a = some q) (new : ObjOk X.prog X.w (upd H a ob) h' a ob) :
    Inv X pins σ (upd H a ob) { s with heap := h', toks := t' } :=
  I.write (x := a) (e := a) mu (.inl rfl) (fun b q hb z => (hs.2 b hb).trans z) he new
theorem dk_new {P : Program} {w : World} {H' : Hp} {h' : Heap} {kvs : List (Key × V)} {vs : List (Key × Value)} (z : kvs.length ≤ sizeLine) (hd : (a == sysModules) = false) (rel : KV kvs vs) (dd : h'.DictOf (mixKind P w) a vs) :
    ObjOk P w H' h' a (.dK kvs) := ⟨z, hd, vs, rel, dd⟩
end

section
variable {X : Cx} {pins : List (Addr × Obj)} {σ : St} {H : Hp} {s : Shared} {a : Addr} {kvs : List (Key × V)} {k : Key} {u : Value} {A : Around} {E : Value → Shared → Prop}
end


/-- the element of a subscription, not a slice -/
def NoSl (i : Expr) : Prop := ∀ ov iv, subscripted i false ov iv = operate [ov, iv] (getItem ov iv)
theorem subD_of {prog : Program} {w : World} {A : Around} {E : Value → Shared → Prop} {s : Shared} {env : Env} {value slice : Expr} {pos : Pos} {T id : String} {Q : Value → Shared → Prop}
    (hl : typeLookup (.type T) "__getitem__" = pure (some (.builtin id))) (hs : NoSl slice)
    (h : wpAny (model prog w) A (eval value env) (fun o s₁ => wpAny (model prog w) A (eval slice env) (fun i s₂ => s₂.TypeIs o T ∧ wpAny (model prog w) A (getItem o i) Q E s₂) E s₁) E s) :
    wpAny (model prog w) A (eval (.Subscript value slice pos) env) Q E s := by
  refine Subscript_ (wpAny_mono h (fun o s₁ h₁ => wpAny_mono h₁ (fun i s₂ h₂ => ?_) fun _ _ x => x) fun _ _ x => x)
  obtain ⟨hT, h₂⟩ := h₂
  unfold subscriptTail
  refine wpAny_bind ?_
  rw [getitemInPython_of_ne hT.not_modules]
  refine wpAny_bind (wpAny_specialOf hT hl ?_)
  have fin : wpAny (model prog w) A (subscripted slice false o i) (fun r s₃ => wpAny (model prog w) A (letTemporaryGo value o r >>= fun _ => pure r) Q E s₃) E s₂ := by
    rw [hs o i]
    exact wpAny_operating (wpAny_mono h₂ (fun r s₃ h₃ => wpAny_bind (wpAny_letTemporaryGo (wpAny_pure h₃))) fun _ _ x => x)
  first
    | exact wpAny_pure (wpAny_bind fin)
    | exact wpAny_bind (wpAny_pure (wpAny_bind fin))
    | exact wpAny_bind fin

theorem dict_typeIs {X : Cx} {pins : List (Addr × Obj)} {σ : St} {H : Hp} {s : Shared} {a : Addr} {y : V} {o : Option V} (I : Inv X pins σ H s) (g : DGet H a y o) : s.TypeIs (.ref a) "dict" := by
  rcases g with ⟨kvs, k, e, _, _⟩ | ⟨kvs, k, b, e, _, _, _⟩
  · obtain ⟨_, _, vs, _, dd⟩ := dk_rd I.hok e
    exact dd.typeIs
  · obtain ⟨_, _, xs, _, dd⟩ := dt_rd I.hok e
    exact dd.typeIs
section
variable {X : Cx} {o i e value : Expr} {pos pos' tpos : Pos} {td ty tv : TE}
end


theorem dk_empty {P : Program} {w : World} {H : Hp} (h : Heap) (hb : sysModules < h.objs.size) : ObjOk P w H (h.push { cls := .type "dict", data := .dict #[] }) h.objs.size (.dK []) :=
  ⟨Nat.zero_le _, beq_eq_false_iff_ne.mpr (Ne.symm (Nat.ne_of_lt hb)), [], .nil, Heap.DictOf.new h⟩
/-- {}, to be a dict of the kind that is wanted -/
def tDNewK : TE := fun _ H Q => ∀ p, H p = none → Q (.ref p) (upd H p (.dK []))
section
variable {X : Cx} {pos : Pos}
end

/-- the pairs of a display, from the left -/
def tPairs : List (TE × TE) → St → Hp → (List (V × V) → Hp → Prop) → Prop
  | [], _, H, Q => Q [] H
  | (tk, tv) :: r, σ, H, Q => tk σ H fun x H1 => tv σ H1 fun y H2 => tPairs r σ H2 fun ps H3 => Q ((x, y) :: ps) H3
abbrev VV : List (V × V) → List (Value × Value) → Prop := Paired fun p q => RelV p.1 q.1 ∧ RelV p.2 q.2
def PPs (X : Cx) (pos : Pos) (keys : List (Option Expr)) (values : List Expr) (trs : List (TE × TE)) : Prop :=
  ∀ (pins : List (Addr × Obj)) (s : Shared) (σ : St) (H : Hp) (Q : List (V × V) → Hp → Prop), Inv X pins σ H s → tPairs trs σ H Q →
    wpAny (model X.prog X.w) X.A (evalPairs (pairTrees keys values X.env pos)) (fun vs s' => ∃ ps H', Inv X pins σ H' s' ∧ VV ps vs ∧ Q ps H') X.xe s
theorem pps_nil {X : Cx} {pos : Pos} : PPs X pos [] [] [] := fun pins s σ H Q I h => pairTrees_nil_walk ⟨[], H, I, .nil, h⟩
theorem pps_cons {X : Cx} {pos : Pos} {k v : Expr} {ks : List (Option Expr)} {vs : List Expr} {tk tv : TE} {trs : List (TE × TE)} (hk : PE X k tk) (hv : PE X v tv) (hr : PPs X pos ks vs trs) :
    PPs X pos (some k :: ks) (v :: vs) ((tk, tv) :: trs) := fun pins s σ H Q I h =>
  pairTrees_cons_walk (thn (hk pins s σ H _ I h) fun u s1 ⟨x, H1, I1, rx, q1⟩ => thn (hv pins s1 σ H1 _ I1 q1) fun w2 s2 ⟨y, H2, I2, ry, q2⟩ =>
    thn (hr pins s2 σ H2 _ I2 q2) fun ws s3 ⟨ps, H3, I3, rel, q3⟩ => ⟨(x, y) :: ps, H3, I3, .cons ⟨rx, ry⟩ rel, q3⟩)

def mergeK (kvs more : List (Key × V)) : List (Key × V) := more.foldl (fun acc kv => putK acc kv.1 kv.2) kvs
theorem KV.merge : ∀ {more : List (Key × V)} {rs : List (Key × Value)} {kvs : List (Key × V)} {vs : List (Key × Value)}, KV more rs → KV kvs vs → KV (mergeK kvs more) (merged vs rs) := by
  intro more rs kvs vs r
  unfold KV at r
  induction r generalizing kvs vs with
  | nil => intro q; exact q
  | @cons p q ps qs h t ih =>
    intro r0
    have e : KV (putK kvs p.1 p.2) (stored vs q.1 q.2) := by
      have := r0.put p.1 h.2
      rw [← h.1]; exact this
    exact ih e
theorem length_mergeK : ∀ (more kvs : List (Key × V)), (mergeK kvs more).length ≤ kvs.length + more.length
  | [], kvs => by show kvs.length ≤ kvs.length + 0; omega
  | p :: r, kvs => by
    have h1 := length_mergeK r (putK kvs p.1 p.2)
    have h2 := length_putK kvs p.1 p.2
    show (mergeK (putK kvs p.1 p.2) r).length ≤ _
    rw [List.length_cons]; omega
theorem carries_of {P : Program} {w : World} : ∀ {kvs : List (Key × V)} {ws : List (Value × Value)}, VV (kvs.map fun kv => (kV kv.1, kv.2)) ws → ∃ rs, Carries (mixKind P w) ws rs ∧ KV kvs rs
  | [], _, r => by rw [List.map_nil] at r; cases r; exact ⟨[], True.intro, .nil⟩
  | p :: kvs, _, r => by
    rw [List.map_cons] at r
    cases r with
    | @cons a b as bs h t =>
      obtain ⟨rs, c, q⟩ := carries_of (P := P) (w := w) t
      obtain ⟨b1, b2⟩ := b
      exact ⟨(p.1, b2) :: rs, ⟨kV_is h.1, rfl, c⟩, .cons ⟨rfl, h.2⟩ q⟩
/-- {k: v, ..} with keys ints and texts; the new dict stands empty while the pairs are made -/
def tDisp (trs : List (TE × TE)) : TE := fun σ H Q => ∀ p, H p = none → tPairs trs σ (upd H p (.dK [])) fun ps H2 => H2 p = some (.dK []) ∧ ∃ kvs : List (Key × V), ps = kvs.map (fun kv => (kV kv.1, kv.2)) ∧ kvs.length ≤ 15 ∧ Q (.ref p) (upd H2 p (.dK (mergeK [] kvs)))
theorem pe_disp {X : Cx} {pos : Pos} {keys : List (Option Expr)} {values : List Expr} {trs : List (TE × TE)} (h : PPs X pos keys values trs) (hall : keys.all (·.isSome) = true) (hl : keys.length = values.length) (h0 : keys ≠ [])
    (h15 : keys.length ≤ 15) : PE X (.Dict keys values pos) (tDisp trs) := by
  intro pins s σ H Q I q
  have hn := I.hok.fresh (Nat.le_refl s.heap.objs.size)
  have I1 := I.laid (a := s.heap.objs.size) (o := .dK []) (h' := s.heap.push { cls := .type "dict", data := .dict #[] }) (t' := s.toks) (fun _ _ q => Heap.get?_push_of_some _ q) (Nat.le_refl _) (dk_empty s.heap I.big)
  refine wpAny_Dict_walk (knd := mixKind X.prog X.w) hall hl h0 h15 (thn (h pins _ σ _ _ I1 (q _ hn)) fun ws s2 ⟨ps, H2, I2, rel, e, kvs, ep, lk, q2⟩ => ?_)
  subst ep
  obtain ⟨rs, c, rk⟩ := carries_of (P := X.prog) (w := X.w) rel
  obtain ⟨z, hd, vs0, r0, dd⟩ := dk_of I2.hok e
  cases r0
  refine ⟨rs, c, dd, fun h' dd' hs => ⟨.ref s.heap.objs.size, _, ?_, rfl, q2⟩⟩
  have hz : (mergeK [] kvs).length ≤ sizeLine := by
    have h1 := length_mergeK kvs []
    rw [List.length_nil] at h1
    rw [sizeLine_eq]; omega
  have he : ∃ q, h'.get? s.heap.objs.size = some q := let ⟨q, _, _, hq, _⟩ := dd'; ⟨q, hq⟩
  exact d_write I2 (by rw [e]; exact True.intro) hs he (dk_new hz hd (rk.merge .nil) dd')


/-- a method call o.m(e) of a built-in, with one argument: what must be seen of the text -/
structure M1 (X : Cx) (o : Expr) (m : Str) (apos : Pos) (e : Expr) (cpos : Pos) : Prop where
  base : attributeBase o m X.env (eval o X.env) = eval o X.env
  few : ((backTo cpos (starEach [e] X.env)).all (fun x => !x.1) && (backToKw cpos (keywordEach [] X.env)).all (fun x => x.1.isSome)
    && decide (([e] : List Expr).length + ([] : List Keyword).length + (if ([] : List Keyword).isEmpty then 0 else 1) < 30)) = true
  line : (apos.endLine == cpos.line) = true
  trees : backTo cpos (starEach [e] X.env) = [(false, eval e X.env)]
/-- a is a dict, whatever its keys -/
def IsD (H : Hp) (a : Addr) : Prop := (∃ kvs, Rd H a (.dK kvs)) ∨ ∃ kvs, Rd H a (.dT kvs)
theorem isD_at {X : Cx} {pins : List (Addr × Obj)} {σ : St} {H : Hp} {s : Shared} {a : Addr} (I : Inv X pins σ H s) (d : IsD H a) :
    s.TypeIs (.ref a) "dict" ∧ (∀ b, Value.ref a = .ref b → ∃ ob, s.heap.get? b = some ob ∧ ob.dict = none) ∧ (a == sysModules) = false := by
  rcases d with ⟨kvs, e⟩ | ⟨kvs, e⟩
  · obtain ⟨_, hd, vs, _, dd⟩ := dk_rd I.hok e
    refine ⟨dd.typeIs, fun b q => ?_, hd⟩
    cases q
    obtain ⟨ob, _, _, h1, h2, _⟩ := dd
    exact ⟨ob, h1, h2.2.1⟩
  · obtain ⟨_, hd, xs, _, dd⟩ := dt_rd I.hok e
    refine ⟨dd.typeIs, fun b q => ?_, hd⟩
    cases q
    obtain ⟨ob, _, _, h1, h2, _⟩ := dd
    exact ⟨ob, h1, h2.2.1⟩

section
variable {X : Cx} {pins : List (Addr × Obj)} {σ : St} {H : Hp} {s : Shared} {a : Addr} {y d : V} {u r : Value} {o : Option V} {A : Around} {E : Value → Shared → Prop}
/-- d.get(y) -/
theorem d_get1 {Q : Value → Shared → Prop} (hu : A.units + 1 < cLine) (I : Inv X pins σ H s) (g : DGet H a y o) (ry : RelV y u) (h : ∀ w' s', Inv X pins σ H s' → RelV (o.getD .non) w' → Q w' s') :
    wpAny (model X.prog X.w) A (call (.builtin "dict.get") [.ref a, u]) Q E s := by
  rcases g with ⟨kvs, k, e, ey, l⟩ | ⟨kvs, k, b, e, ey, eb, l⟩
  · subst ey
    obtain ⟨z, hd, vs, rel, dd⟩ := dk_rd I.hok e
    refine call_meetsIn PySem.F.slot_dict_get dd.typeIs PySem.F.entry_dict_get (PySem.F.args_dict_get_2 _ _) (meets_dict_get (mixKind X.prog X.w) a (kV_is ry) hd) ⟨_, dd.mapOf, h _ _ (I.tok _) ?_⟩
    rw [l]
    exact (rel.val k).getD rfl
  · subst ey
    cases (show u = Value.ref b from ry)
    obtain ⟨z, hd, xs, rel, dd⟩ := dt_rd I.hok e
    refine call_meetsIn PySem.F.slot_dict_get dd.typeIs PySem.F.entry_dict_get (PySem.F.args_dict_get_2 _ _) (meetsH_dict_get (tupleKind (mixKind X.prog X.w)) a b hd) ⟨tupleKind_room_in1 hu, k, xs, key_of I.hok eb, dd, h _ _ (I.tok _) ?_⟩
    rw [l]
    exact (rel.val k).getD rfl
end

def tDGet1 (td ty : TE) : TE := fun σ H Q => td σ H fun x H1 => ∃ a, x = .ref a ∧ IsD H1 a ∧ ty σ H1 fun y H2 => ∃ o, DGet H2 a y o ∧ Q (o.getD .non) H2
section
variable {X : Cx} {o e f : Expr} {apos cpos : Pos} {td ty tx : TE}
theorem pe_dget1 (hu : X.A.units + 1 < cLine) (ho : PE X o td) (he : PE X e ty) (m : M1 X o "get" apos e cpos) : PE X (.Call (.Attribute o "get" apos) [e] [] cpos) (tDGet1 td ty) := by
  intro pins s σ H Q I h
  refine wpAny_Call_method m.base m.few m.line PySem.F.plainAttrs_dict PySem.F.slot_dict_get PySem.F.type_dict_get (thn (ho pins s σ H _ I h) fun u s1 ⟨x, H1, I1, rx, a, ex, d, q1⟩ => ?_)
  subst ex
  obtain rfl : u = Value.ref a := rx
  obtain ⟨t1, t2, _⟩ := isD_at I1 d
  refine ⟨t1, t2, ?_⟩
  rw [m.trees]
  refine Calls.callWith_builtin rfl (Calls.evalArgs_plain (Calls.spliced_cons (thn (he pins s1 σ H1 _ I1 q1) fun iv s2 ⟨y, H2, I2, ry, ov, g, q2⟩ => Calls.spliced_nil ?_)))
  exact d_get1 hu I2 g ry fun w' s3 I3 rw' => ⟨_, H2, I3, rw', q2⟩
end

section
variable {X : Cx} {pins : List (Addr × Obj)} {σ : St} {H : Hp} {s : Shared} {a : Addr} {kvs : List (Key × V)} {A : Around} {E : Value → Shared → Prop}
end


section
variable {X : Cx} {pins : List (Addr × Obj)} {σ : St} {H : Hp} {s : Shared} {a : Addr} {y : V} {u : Value} {A : Around} {E : Value → Shared → Prop}
end
end L2

namespace Att
open PySem PySem.W PySem.Calls PyProof.Rows

theorem ints_of_wellAll {P : Params} {h : Heap} : ∀ (ns : List Int) (vs : List Value), WellAll P h vs (ns.map WData.int) → IntsAre vs ns := by
  intro ns
  induction ns with
  | nil =>
    intro vs w
    rw [List.map_nil] at w
    cases w
    exact .nil
  | cons n ns ih =>
    intro vs w
    rw [List.map_cons] at w
    cases w with
    | cons a b =>
      cases a
      exact .cons _ _ (ih _ b)

theorem script_of {l : OpenLaw} {n : Nat} (hn : l.most = some n) {P : Params} {h : Heap} {args : List WData} {vals : List Value}
    (hpre : l.row.toRowW.claim.pre args = true) (hwl : WellAll P h vals args) :
    ∃ a vs ns, vals = [Value.ref a] ∧ args = [WData.list (ns.map WData.int)] ∧ h.get? a = some { cls := .type "list", data := .seq vs.toArray } ∧ IntsAre vs ns ∧ ns.length ≤ n := by
  have hsh : WShape.hasAll [] args [.list .int] = true := (pre_splitW hpre).1
  have hc : l.pre.holds [] { args := args } = true := (pre_splitW hpre).2
  obtain ⟨d, r, rfl, h1, h2⟩ := hasAllW_cons hsh
  obtain rfl := hasAllW_nil h2
  obtain ⟨xs, rfl, h3⟩ := hasW_list h1
  obtain ⟨ns, rfl⟩ := items_int h3
  have hlen : ns.length ≤ n := by
    unfold OpenLaw.pre at hc
    have h4 : (WTm.not (.lt (.lit (.int (n : Int))) (.len (.arg 0)))).holds [] { args := [.list (ns.map .int)] } = true := by
      have h4 := (holds_andW hc).1
      rw [hn] at h4
      exact h4
    have h5 := condW_of h4 (w_not (w_lt w_lit (w_len_list (w_arg rfl))))
    rw [List.length_map] at h5
    refine Nat.le_of_not_lt fun q => ?_
    have q' : (n : Int) < ((ns.length : Nat) : Int) := by omega
    first
      | (rw [decide_eq_true q'] at h5; exact absurd h5 (by decide))
      | (simp at h5; omega)
  cases hwl with
  | cons w1 w2 =>
    cases w2
    cases w1 with
    | list ho hall => exact ⟨_, _, ns, rfl, rfl, ho, ints_of_wellAll ns _ hall, hlen⟩

theorem post_true (l : OpenLaw) (args : List WData) : l.row.toRowW.claim.post args (.bool true) args = true :=
  postW_of (r := l.row.toRowW) (X := (true == true))
    (show WShape.has [] (.bool true) .bool = true by first | rfl | decide | simp [WShape.has, WShape.arms, WShape.armsAll])
    (show (WTm.eq .res (.lit (.bool true))).value [] { args := args, res := some (.bool true), after := args } = some (.bool (true == true)) from w_eq_bool (w_res rfl) w_lit) rfl

/-- the same from a codeAny of the CALL (for a layer whose function contracts speak of calls) -/
theorem attach_call {l : OpenLaw} {n : Nat} {q : Program} {loose : List Str} {XP : (Str → Option Value) → Heap → Prop} {YP : World → Heap → Prop} {d : DefRec}
    (hn : l.most = some n) (hdf : d.params.defaults = [])
    (call : ∀ (w : World) (s₀ s₁ : Shared) (mg mb : Str → Option Value) (fa : Addr) (o : Obj) (pm cd doc : Value) (a : Addr) (vs : List Value) (ns : List Int),
      Ground q loose [] XP w s₀ mg mb s₁.heap → YP w s₁.heap →
      s₁.heap.get? fa = some o → o.data = .func (docDef d.name d.params d.body d.scope pm cd doc) → s₁.heap.CodeRec cd d.name → mg d.name = some (.ref fa) →
      s₁.heap.get? a = some { cls := .type "list", data := .seq vs.toArray } → IntsAre vs ns → ns.length ≤ n → s₁.gens = #[] →
      codeAny (model l.prog w) callerA (.call (.ref fa) ⟨[.ref a], []⟩) (fun r s' => r = .ok (.ret (.bool true)) ∧ OldK s₁.heap s'.heap ∧ s'.os = s₁.os ∧ AllBare s'.gens) s₁) :
    WalkO q loose XP YP l.row.toRowW d [] (fun f vs => PySem.call f vs) := by
  intro w s₀ s₁ mg mb G Y fa o pm cd doc dV kV ho hd hcd hD hmg hg args vals as hpre hlay hrd hwl hlo
  obtain rfl : dV = .none := Dflts.none hD hdf
  obtain rfl : kV = .none := Dflts.noKw hD
  obtain ⟨a, vs, ns, rfl, rfl, hobj, hints, hlen⟩ := script_of hn hpre hwl
  refine enter_call (codeAny_mono (call w s₀ s₁ mg mb fa o pm cd doc a vs ns G Y ho (fd_plain hd) hcd hmg hobj hints hlen hg) fun r s' hq => ?_)
  obtain ⟨rfl, h2, h3, h4⟩ := hq
  exact ⟨.inl ⟨.bool true, .bool true, [], rfl, fun _ => rfl, .bool true, post_true l _, fun _ => ⟨List.Pairwise.nil, fun _ hm => (nomatch hm)⟩⟩, h2, h3, h4⟩

section
variable {prog : Program} {w : World} {A : Around} {E : Value → Shared → Prop} {s : Shared} {K : Frag}

end
end Att

namespace L2
open PySem PySem.Spec PyProof.Rows

theorem vals_ints : ∀ {vs : List Value} {ns : List Int}, IntsAre vs ns → Vals (ns.map V.int) vs
  | _, _, .nil => .nil
  | _, _, .cons n t h => .cons ⟨t, rfl⟩ (vals_ints h)

/-- nothing is tracked but the script, known to the object (or it is an object of the module) -/
def Only (H : Hp) : Prop := ∀ b, H b = none ∨ ∃ o xs, H b = some (.frz o (.lst xs))

/-- THE HEAD: the law's promise, at the heap behind the top. F, the promise of the law's def, may use that base is part of the heap (so K.In base, base.Ns mainGlobals mg stand in Mod) -/
theorem law_call {P : Program} {w : World} {K : PySem.W.Frag} {mg mb : Str → Option Value} {CX : CXT} {k : Nat} {fa a : Addr} {fd : FuncData} {x : Str} {sp : Sp} {s₁ : Shared} {vs : List Value} {ns : List Int}
    (KX : K.In s₁.heap) (hns : s₁.heap.Ns mainGlobals mg) (hb : s₁.heap.Ns builtinsNs mb) (hbb : ∀ x : Str, x ≠ "__name__" → mb x = bootBuiltins x) (hlim : s₁.heap.NoLimit) (hg : s₁.gens = #[])
    (ha : s₁.heap.get? a = some { cls := .type "list", data := .seq vs.toArray }) (hi : IntsAre vs ns) (hl : ns.length ≤ sizeLine) (hr : Room k callerA)
    (F : ∀ base : Heap, K.In base → base.Ns mainGlobals mg → FnOk P w K mg base CX k fa fd [x] sp) (hbind : ∀ (s : Shared) (u : Value), BindsTo s fd ⟨[u], []⟩ [(x, u)])
    (hsp : ∀ H : Hp, Only H → SqL K H a (ns.map V.int) → sp [.ref a] H (fun v _ => v = .bl true) fun _ _ _ => False)
    (hCX : ∀ H e s', CX [] H s₁ (fun _ _ _ => False) e s' → False) :
    codeAny (model P w) callerA (.call (.ref fa) ⟨[.ref a], []⟩) (fun r s' => r = .ok (.ret (.bool true)) ∧ OldK s₁.heap s'.heap ∧ s'.os = s₁.os ∧ AllBare s'.gens) s₁ := by
  have rv := vals_ints hi
  have lenV := hi.length
  have core : ∀ H : Hp, Only H → SqL K H a (ns.map V.int) → HOk P w H s₁.heap → (∀ b, H b ≠ none → b = a) → (H a ≠ none → K.lookup a = none) →
      codeAny (model P w) callerA (.call (.ref fa) ⟨[.ref a], []⟩) (fun r s' => r = .ok (.ret (.bool true)) ∧ OldK s₁.heap s'.heap ∧ s'.os = s₁.os ∧ AllBare s'.gens) s₁ := by
    intro H hO hS hok hA hK
    have base_of : ∀ {b : Addr} {o : Obj}, s₁.heap.get? b = some o → H b = none → (hidT s₁.heap H).get? b = some o := fun e n => hidT_get e n
    have noA : ∀ {b : Addr} {o : Obj} {es : Array DictEntry} {ep : Nat}, s₁.heap.get? b = some o → o.data = .dict es ep → H b = none := fun {b o es ep} e d => by
      cases q : H b with
      | none => rfl
      | some u =>
        have e' : b = a := hA b (by rw [q]; simp)
        subst e'
        rw [ha] at e; cases e
        have d' : Data.seq vs.toArray _ = Data.dict es ep := d
        cases d'
    have nsK : ∀ {b : Addr} {m : Str → Option Value}, s₁.heap.Ns b m → (hidT s₁.heap H).Ns b m := fun {b m} ⟨o, es, ep, e, d, r⟩ => ⟨o, es, ep, base_of e (noA e d), d, r⟩
    have hKb : K.In (hidT s₁.heap H) := fun b o e => base_of (KX b o e) (by
      cases q : H b with
      | none => rfl
      | some u =>
        have e' : b = a := hA b (by rw [q]; simp)
        subst e'
        rw [hK (by rw [q]; simp)] at e; cases e)
    have hM : Mod K mg (hidT s₁.heap H) := ⟨hKb, nsK hns, ⟨mb, nsK hb, hbb⟩, let ⟨mc, h1, h2⟩ := hlim; ⟨mc, nsK h1, h2⟩⟩
    have e0 : Env0 P w K mg (hidT s₁.heap H) callerA [] s₁ H := ⟨rfl, hM, fun b o e => of_hidT e, Nat.le_of_eq (hidT_size _ _), trivial, fun b hb => absurd (show b ∈ ([] : List Addr) from hb) (by simp), hok, .of_eq hg⟩
    refine codeAny_mono ((F _ hKb (nsK hns)).run callerA [] s₁ H ⟨[.ref a], []⟩ [.ref a] [.ref a] _ _ hr e0 (hbind s₁ (.ref a)) (.cons rfl .nil) (hsp H hO hS)) fun r s' h => ?_
    cases r with
    | error e => exact (hCX H e s' h).elim
    | ok fl =>
      cases fl with
      | next => exact False.elim h
      | brk => exact False.elim h
      | cont => exact False.elim h
      | ret u =>
        obtain ⟨v, H', os, bare, un, hok', r', q⟩ := h
        have q' : v = .bl true := q
        subst q'
        obtain rfl : u = Value.bool true := r'
        refine ⟨rfl, OldK.of_keep fun b o e => ?_, os, bare⟩
        cases q : H b with
        | none => exact un.keep b o e q (by intro z; exact absurd (show b ∈ ([] : List Addr) from z) (by simp)) (by simp)
        | some u =>
          rcases hO b with z | ⟨ob, xs, z⟩
          · rw [q] at z; cases z
          · have z2 := un.frzs b ob _ z
            obtain ⟨e1, _⟩ := hok b _ z
            obtain ⟨e2, _⟩ := hok' b _ z2
            rw [e] at e1; cases e1
            exact e2
  cases hk : K.lookup a with
  | some o =>
    have e := KX a o hk
    rw [ha] at e
    cases e
    refine core (fun _ => none) (fun _ => .inl rfl) (.inr ⟨_, vs.toArray, _, hk, rfl, rfl, rfl, by rw [List.size_toArray, lenV]; exact hl, by simpa using rv⟩) (fun b u z => by have z' : (none : Option HO) = some u := z; cases z') (fun b z => absurd rfl z) fun z => absurd rfl z
  | none =>
    refine core (fun b => if b = a then some (.frz { cls := .type "list", data := .seq vs.toArray } (.lst (ns.map V.int))) else none) (fun b => ?_) (.inl (.inr ⟨{ cls := .type "list", data := .seq vs.toArray }, if_pos rfl⟩)) (fun b u z => ?_) (fun b z => ?_) fun _ => hk
    · by_cases hb : b = a
      · exact .inr ⟨_, _, if_pos hb⟩
      · exact .inl (if_neg hb)
    · by_cases hb : b = a
      · have z' := (if_pos hb).symm.trans z
        cases z'
        subst hb
        exact ⟨ha, by rw [List.length_map]; exact hl, vs, _, rv, ha⟩
      · have z' := (if_neg hb).symm.trans z
        cases z'
    · by_cases hb : b = a
      · exact hb
      · exact absurd (if_neg hb) z
end L2

namespace L2
open PySem PySem.Spec PyProof.Rows

abbrev KOf {K : PySem.W.Frag} {h : Heap} (_ : K.In h) : PySem.W.Frag := K

/-- the goal that k_head leaves (case hc), from the law's promise. F gives the function object fd (K's own) once, then the promise over every base -/
theorem walk_of {l : PySem.W.OpenLaw} {n k : Nat} {q : Program} {loose : List Str} {XP : (Str → Option Value) → Heap → Prop} {YP : World → Heap → Prop} {d : DefRec} {K : Params → PySem.W.Frag} {CX : World → CXT} {sp : World → Sp} {x : Str}
    (hn : l.most = some n) (hn2 : n ≤ sizeLine) (hdf : d.params.defaults = []) (hr : Room k callerA)
    (hY : ∀ (w : World) (h : Heap), YP w h → (K w.params).In h)
    (F : ∀ (w : World) (mg : Str → Option Value) (fa : Addr) (h : Heap), (K w.params).In h → h.Ns mainGlobals mg → mg d.name = some (.ref fa) →
      ∃ fd : FuncData, (∀ (s : Shared) (u : Value), BindsTo s fd ⟨[u], []⟩ [(x, u)]) ∧
        ∀ base : Heap, (K w.params).In base → base.Ns mainGlobals mg → FnOk l.prog w (K w.params) mg base (CX w) k fa fd [x] (sp w))
    (hsp : ∀ (w : World) (H : Hp) (a : Addr) (ns : List Int), ns.length ≤ n → Only H → SqL (K w.params) H a (ns.map V.int) → sp w [.ref a] H (fun v _ => v = .bl true) fun _ _ _ => False)
    (hCX : ∀ (w : World) (H : Hp) (s : Shared) (e : Value) (s' : Shared), CX w [] H s (fun _ _ _ => False) e s' → False) :
    PySem.W.WalkO q loose XP YP l.row.toRowW d [] (fun f vs => PySem.call f vs) := by
  refine Att.attach_call hn hdf fun w s₀ s₁ mg mb fa o pm cd doc a vs ns G Y ho hd hcd hmg hobj hints hlen hg => ?_
  have KX := hY w _ Y
  obtain ⟨fd, hb, hF⟩ := F w mg fa _ KX G.T.g hmg
  exact law_call KX G.T.g G.T.b G.T.builtins G.T.nolimit hg hobj hints (Nat.le_trans hlen hn2) hr hF hb (fun H hO hS => hsp w H a ns hlen hO hS) fun H e s' => hCX w H s₁ e s'
end L2

/- THE LAST THEOREM (shape; LID, My.* are yours):
   My.Adr: a structure of the addresses that your layer names (classes, functions); My.Txt K t: a structure (Prop) of the equations over K;
   My.txt_mk : {K} {implicit addresses ..} (e1 : nsIn K mainGlobals "law" = some (some (.ref f))) (e2 : K.lookup f = some ⟨oc, od, .func (fnOf "law" "law" params body scope dV kV doc pm an cdv ct), sl⟩) (e3 : codeIn K cdv "law" = true) .. : ∃ t, My.Txt K t

set_option maxRecDepth 100000 in
set_option maxHeartbeats 0 in
theorem PySem.Challenge.cw_LID_holds : PySem.Challenge.rw_LID.Holds := by
  w_on; o_law; k_head; (case hw => w_witness2)
  k_fill
  refine L2.walk_of (l := PySem.Challenge.rw_LID) (n := 63) (k := 40) (x := "script") (CX := fun w => ..) (sp := fun _ => My.sp_law) rfl (by decide) rfl ⟨rfl, by decide, by decide⟩ (fun w h Y => PySem.W.kIn_of Y) ?F ?S ?C
  case F =>
    intro w mg fa h KX G hmg
    have T : ∃ t, My.Txt (L2.KOf KX) t := by
      dsimp only [L2.KOf]                          -- K must stand as «<heap const> w.params» for k_is
      refine' My.txt_mk ?e1 ?e2 ?e3 ..
      (case e1 => PySem.W.k_is)                    -- in the order: a name -> its address -> its object -> its parts
      (case e2 => PySem.W.k_is)
      ..
    obtain ⟨t, T⟩ := T
    have e0 := hmg.symm.trans (PySem.W.mg_of KX G T.law)
    cases e0                                       -- fa is the law's own address
    exact ⟨_, fun s u => .of_eq rfl, fun base kb nb => My.law_fn T kb nb⟩     -- if «.of_eq rfl» comes too early: refine' ⟨_, ?b, fun base kb nb => My.law_fn T kb nb⟩; exact fun s u => .of_eq rfl
  case S => exact fun w H a ns hl hO hS => ..
  case C => exact ..
(the tactic k_is has no namespace: write k_is) -/

namespace L2
open PySem PySem.Spec PyProof.Rows

def defArgs (s : Stmt) : Arguments := match s with
  | .FunctionDef _ a _ _ _ _ _ _ _ _ => a
  | _ => { posonlyargs := [], args := [], vararg := none, kwonlyargs := [], kw_defaults := [], kwarg := none, defaults := [] }
def defBody (s : Stmt) : List Stmt := match s with
  | .FunctionDef _ _ b _ _ _ _ _ _ _ => b
  | _ => []
def defScope (s : Stmt) : Scope := match s with
  | .FunctionDef _ _ _ _ _ _ sc _ _ _ => sc
  | _ => { kind := .function, names := [], isGenerator := false, isCoroutine := false }

abbrev E0 : XK := fun _ _ _ => False
structure Fun (K : PySem.W.Frag) (x qual : Str) (st : Stmt) (f : Addr) (fd : FuncData) : Prop where
  ex : ∃ (oc : Value) (od : Option Addr) (kV doc pm : Value) (an : Option Addr) (cdv ct : Value) (osl : Array (Option Value)),
    fd = PySem.W.fnOf x qual (defArgs st) (defBody st) (defScope st) .none kV doc pm an cdv ct ∧ K.lookup f = some ⟨oc, od, .func fd, osl⟩ ∧ PySem.W.codeIn K cdv qual = true
  kp : PySem.W.keepIn K (.ref f) = true
section
variable {P : Program} {w : World} {K : PySem.W.Frag} {mg : Str → Option Value} {base : Heap}
/-- how its arguments bind (no defaults): h is «fun _ _ _ _ _ _ us hl => match us, hl with | [_, _], _ => rfl», one _ a parameter -/
theorem Fun.binds {x qual : Str} {st : Stmt} {f : Addr} {fd : FuncData} {ps : List Str} (F : Fun K x qual st f fd)
    (h : ∀ (kV doc pm : Value) (an : Option Addr) (cdv ct : Value) (us : List Value), us.length = ps.length → bindArgs (PySem.W.fnOf x qual (defArgs st) (defBody st) (defScope st) .none kV doc pm an cdv ct) ⟨us, []⟩ = pure (ps.zip us)) : Binds K fd ps [] := by
  obtain ⟨oc, od, kV, doc, pm, an, cdv, ct, osl, rfl, lk, hcd⟩ := F.ex
  exact .all (h kV doc pm an cdv ct)
theorem fun_mk {x qual : Str} {st : Stmt} {f : Addr} {oc : Value} {od an : Option Addr} {osl : Array (Option Value)} {kV doc pm cdv ct : Value} (l : K.lookup f = some ⟨oc, od, .func (PySem.W.fnOf x qual (defArgs st) (defBody st) (defScope st) .none kV doc pm an cdv ct), osl⟩)
    (c : PySem.W.codeIn K cdv qual = true) (k : PySem.W.keepIn K (.ref f) = true) : Fun K x qual st f (PySem.W.fnOf x qual (defArgs st) (defBody st) (defScope st) .none kV doc pm an cdv ct) := ⟨⟨oc, od, kV, doc, pm, an, cdv, ct, osl, rfl, l, c⟩, k⟩
end
theorem hu_of {A : Around} {k : Nat} (hr : Room k A) : A.units + 1 < cLine := Nat.lt_of_le_of_lt (Nat.add_le_add_left (by decide : 1 ≤ 64) _) hr.units
theorem small1000 {n : Nat} (h : n ≤ 1000) : n < sizeLine := Nat.lt_of_le_of_lt h (by decide)

section
variable {X : Cx}
theorem pv (i : Nat) {x : Str} {pos : Pos} (hN : X.N[i]? = some x := by rfl) (hv : Vis X.env.scope x := by first | exact Or.inl rfl | exact Or.inr (Or.inl rfl) | exact Or.inr (Or.inr rfl)) (hd : (x == ("__debug__" : Str)) = false := by decide)
    (hcd : (x == ("__classdict__" : Str)) = false := by decide) : PE X (.Name x pos) (tVar i) := pe_var hN hv hd hcd
end

theorem ite2 {c A B : Prop} [Decidable c] (h1 : c → A) (h2 : ¬ c → B) : if c then A else B := by
  by_cases h : c
  · rw [if_pos h]
    exact h1 h
  · rw [if_neg h]
    exact h2 h
/-- all that was tracked is as it was -/
def Same (H H' : Hp) : Prop := ∀ b o, H b = some o → H' b = some o
theorem Same.refl (H : Hp) : Same H H := fun _ _ h => h
theorem Same.trans {H H1 H2 : Hp} (a : Same H H1) (b : Same H1 H2) : Same H H2 := fun c o h => b c o (a c o h)
theorem Same.free {H H' : Hp} (e : Same H H') {l : Addr} (h : H' l = Option.none) : H l = Option.none := by
  cases q : H l with
  | none => rfl
  | some o =>
    rw [e l o q] at h
    cases h
theorem Same.seq {K : PySem.W.Frag} {H H' : Hp} {a : Addr} {xs : List V} (e : Same H H') (h : SqL K H a xs) : SqL K H' a xs := by
  rcases h with (h | ⟨o, h⟩) | h
  · exact .inl (.inl (e _ _ h))
  · exact .inl (.inr ⟨o, e _ _ h⟩)
  · exact .inr h

section
variable {κ : Type} [DecidableEq κ]
end
end L2

set_option Elab.async false
set_option linter.all false
set_option maxRecDepth 100000
namespace L2
open PySem PySem.Spec PyProof.Rows

def clOf (env : Env) (names : List (Str × NameKind)) (cs : List (Str × Addr)) : List (Str × Addr) :=
  names.foldl (fun cs y => if y.2 == NameKind.free then (y.1, (env.cells.lookup y.1).getD 0) :: cs else cs) cs
theorem clOf_loop {env : Env} : ∀ (names : List (Str × NameKind)) (cs : List (Str × Addr)), (∀ y ∈ names, y.2 = .free → ∃ c, env.cells.lookup y.1 = some c) →
    (forIn names cs fun (p : Str × NameKind) (cs : List (Str × Addr)) => (if (p.2 == NameKind.free) = true then do
      let a ← cellOf env p.1
      pure (ForInStep.yield ((p.1, a) :: cs))
     else pure (ForInStep.yield cs) : Sem (ForInStep (List (Str × Addr))))) = pure (clOf env names cs)
  | [], cs, _ => rfl
  | (n, k) :: r, cs, h => by
    have hr : ∀ y ∈ r, y.2 = NameKind.free → ∃ c, env.cells.lookup y.1 = some c := fun y hy => h y (List.mem_cons_of_mem _ hy)
    rw [List.forIn_cons]
    cases hk : (k == NameKind.free) with
    | true =>
      obtain ⟨c, hc⟩ := h (n, k) List.mem_cons_self (by simpa using hk)
      have e1 : cellOf env n = pure c := by
        have hc' : env.cells.lookup n = some c := hc
        unfold cellOf; rw [hc']
      have e2 := clOf_loop r ((n, c) :: cs) hr
      have e3 : clOf env ((n, k) :: r) cs = clOf env r ((n, c) :: cs) := by
        have hc' : env.cells.lookup n = some c := hc
        show List.foldl _ (if (k == NameKind.free) = true then (n, (env.cells.lookup n).getD 0) :: cs else cs) r = _
        rw [hk, hc']; rfl
      rw [e3, ← e2]
      simp only [hk, if_true, e1]
      rfl
    | false =>
      have e2 := clOf_loop r cs hr
      have e3 : clOf env ((n, k) :: r) cs = clOf env r cs := by
        show List.foldl _ (if (k == NameKind.free) = true then _ else cs) r = _
        rw [hk]; rfl
      rw [e3, ← e2]
      simp only [hk, Bool.false_eq_true, if_false]
      rfl
theorem closureFor_ok {scope : Scope} {env : Env} (h : ∀ y ∈ scope.names, y.2 = .free → ∃ c, env.cells.lookup y.1 = some c) : closureFor scope env = pure (clOf env scope.names []) := by
  have := clOf_loop scope.names [] h
  unfold closureFor
  simp only [bind_pure]
  exact this
theorem clOf_sub {env : Env} : ∀ (names : List (Str × NameKind)) (cs : List (Str × Addr)), (∀ y ∈ names, y.2 = .free → ∃ c, env.cells.lookup y.1 = some c) → (∀ x c, cs.lookup x = some c → env.cells.lookup x = some c) →
    ∀ x c, (clOf env names cs).lookup x = some c → env.cells.lookup x = some c
  | [], cs, _, hc => hc
  | (n, k) :: r, cs, h, hc => by
    refine clOf_sub r _ (fun y hy => h y (List.mem_cons_of_mem _ hy)) ?_
    intro x c e
    dsimp only at e
    split at e
    · rename_i hk
      obtain ⟨c', hc'⟩ := h (n, k) List.mem_cons_self (by simpa using hk)
      have hc' : env.cells.lookup n = some c' := hc'
      rw [List.lookup_cons] at e
      cases hx : (x == n) with
      | true =>
        rw [hx] at e
        have e' : (env.cells.lookup n).getD 0 = c := Option.some.inj e
        have hxn : x = n := by simpa using hx
        rw [hxn, hc', ← e', hc']; rfl
      | false =>
        rw [hx] at e
        exact hc x c e
    · exact hc x c e
theorem clOf_has {env : Env} {x : Str} : ∀ (names : List (Str × NameKind)) (cs : List (Str × Addr)), ((x, NameKind.free) ∈ names ∨ ∃ c, cs.lookup x = some c) → ∃ c, (clOf env names cs).lookup x = some c
  | [], cs, h => by
    rcases h with h | h
    · simp at h
    · exact h
  | (n, k) :: r, cs, h => by
    refine clOf_has r _ ?_
    rcases h with h | ⟨c, h⟩
    · rcases List.mem_cons.mp h with e | h
      · cases e
        refine .inr ⟨(env.cells.lookup x).getD 0, ?_⟩
        simp
      · exact .inl h
    · refine .inr ?_
      dsimp only
      split
      · rw [List.lookup_cons]
        cases (x == n) with
        | true => exact ⟨_, rfl⟩
        | false => exact ⟨c, h⟩
      · exact ⟨c, h⟩
theorem relabel_free {env : Env} : ∀ {names : List (Str × NameKind)} {x : Str}, names.lookup x = some .free →
    (names.map fun (n, k) => if (k == NameKind.free && env.scope.kind == .function && env.kindOf n == some .cell) then (n, NameKind.cell) else (n, k)).lookup x = some .cell ∨
    (names.map fun (n, k) => if (k == NameKind.free && env.scope.kind == .function && env.kindOf n == some .cell) then (n, NameKind.cell) else (n, k)).lookup x = some .free
  | [], _, h => by simp at h
  | (n, k) :: r, x, h => by
    have ih := @relabel_free env r x
    rw [List.map_cons]
    cases hx : x == n with
    | true =>
      simp only [List.lookup_cons, hx] at h
      cases h
      by_cases hc : (NameKind.free == NameKind.free && env.scope.kind == .function && env.kindOf n == some .cell) = true
      · left
        show List.lookup x ((if (NameKind.free == NameKind.free && env.scope.kind == .function && env.kindOf n == some .cell) = true then (n, NameKind.cell) else (n, NameKind.free)) :: _) = _
        rw [if_pos hc]; simp [List.lookup_cons, hx]
      · right
        show List.lookup x ((if (NameKind.free == NameKind.free && env.scope.kind == .function && env.kindOf n == some .cell) = true then (n, NameKind.cell) else (n, NameKind.free)) :: _) = _
        rw [if_neg hc]; simp [List.lookup_cons, hx]
    | false =>
      simp only [List.lookup_cons, hx] at h
      have ih := ih h
      have e : ∀ l, List.lookup x ((if (k == NameKind.free && env.scope.kind == .function && env.kindOf n == some .cell) = true then (n, NameKind.cell) else (n, k)) :: l) = List.lookup x l := fun l => by
        split <;> simp [List.lookup_cons, hx]
      show List.lookup x ((if (k == NameKind.free && env.scope.kind == .function && env.kindOf n == some .cell) = true then (n, NameKind.cell) else (n, k)) :: _) = _ ∨ List.lookup x ((if (k == NameKind.free && env.scope.kind == .function && env.kindOf n == some .cell) = true then (n, NameKind.cell) else (n, k)) :: _) = _
      rw [e]
      exact ih
/-- kinds in the block's scope come from the scope's -/
theorem relabel_back {env : Env} : ∀ {names : List (Str × NameKind)} {x : Str}, 
    ((names.map fun (n, k) => if (k == NameKind.free && env.scope.kind == .function && env.kindOf n == some .cell) then (n, NameKind.cell) else (n, k)).lookup x = some .cell ∨
    (names.map fun (n, k) => if (k == NameKind.free && env.scope.kind == .function && env.kindOf n == some .cell) then (n, NameKind.cell) else (n, k)).lookup x = some .free) →
    names.lookup x = some .free ∨ names.lookup x = some .cell
  | [], x, h => by simp at h
  | (n, k) :: r, x, h => by
    have ih := @relabel_back env r x
    cases hx : x == n with
    | true =>
      rw [List.lookup_cons, hx]
      show some k = _ ∨ some k = _
      have e : ∀ l, List.lookup x ((if (k == NameKind.free && env.scope.kind == .function && env.kindOf n == some .cell) = true then (n, NameKind.cell) else (n, k)) :: l) = if (k == NameKind.free && env.scope.kind == .function && env.kindOf n == some .cell) = true then some .cell else some k := fun l => by
        split <;> simp [List.lookup_cons, hx]
      rw [List.map_cons] at h
      have h : List.lookup x ((if (k == NameKind.free && env.scope.kind == .function && env.kindOf n == some .cell) = true then (n, NameKind.cell) else (n, k)) :: _) = some .cell ∨ List.lookup x ((if (k == NameKind.free && env.scope.kind == .function && env.kindOf n == some .cell) = true then (n, NameKind.cell) else (n, k)) :: _) = some .free := h
      rw [e] at h
      by_cases hc : (k == NameKind.free && env.scope.kind == .function && env.kindOf n == some .cell) = true
      · left
        simp at hc
        rw [hc.1.1]
      · rw [if_neg hc] at h
        rcases h with h | h
        · exact .inr h
        · exact .inl h
    | false =>
      rw [List.lookup_cons, hx]
      have e : ∀ l, List.lookup x ((if (k == NameKind.free && env.scope.kind == .function && env.kindOf n == some .cell) = true then (n, NameKind.cell) else (n, k)) :: l) = List.lookup x l := fun l => by
        split <;> simp [List.lookup_cons, hx]
      rw [List.map_cons] at h
      have h : List.lookup x ((if (k == NameKind.free && env.scope.kind == .function && env.kindOf n == some .cell) = true then (n, NameKind.cell) else (n, k)) :: _) = some .cell ∨ List.lookup x ((if (k == NameKind.free && env.scope.kind == .function && env.kindOf n == some .cell) = true then (n, NameKind.cell) else (n, k)) :: _) = some .free := h
      rw [e] at h
      exact ih h

section
variable {prog : Program} {w : World} {A : Around} {E : Value → Shared → Prop} {R : Result → Shared → Prop} {s : Shared}
theorem compLoop_any {elt target iter : Expr} {ifs : List Expr} {scope : Scope} {pos : Pos} {it acc : Value} {env : Env} (I : Nat → Shared → Prop)
    (turn : ∀ n s, I n s → wpAny (model prog w) A (pyNext it) (fun r s₁ => match r with
      | none => R (.ok .next) s₁
      | some v => wpAny (model prog w) A (letOwnedTupleGo target it v) (fun _ s₁' => wpAny (model prog w) A (assign target env v) (fun _ s₂ =>
          wpAny (model prog w) A (forIn ifs true fun c r => if r = true then do let ok ← isTrue c env (eval c env); pure (ForInStep.yield ok) else pure (ForInStep.yield r)) (fun ok s₃ =>
            if ok = true then wpAny (model prog w) A (eval elt env) (fun x s₄ =>
              wpAny (model prog w) A (call (.builtin "list.append") [acc, x]) (fun _ s₅ => ∃ m, m < n ∧ I m s₅) (notedBy (model prog w) A env fun e s' => R (.error e) s') s₄) (notedBy (model prog w) A env fun e s' => R (.error e) s') s₃
            else ∃ m, m < n ∧ I m s₃) (notedBy (model prog w) A env fun e s' => R (.error e) s') s₂) (notedBy (model prog w) A env fun e s' => R (.error e) s') s₁') (notedBy (model prog w) A env fun e s' => R (.error e) s') s₁) (notedBy (model prog w) A env fun e s' => R (.error e) s') s)
    (n : Nat) (h : I n s) :
    codeAny (model prog w) A (.compLoop (.ListComp elt [⟨target, iter, ifs, 0⟩] scope pos) 0 it acc env) R s := by
  refine codeAny_loop rfl I (fun n s hI => ?_) n h
  show wpAny _ A ((compTurn (.ListComp elt [⟨target, iter, ifs, 0⟩] scope pos) 0 it acc env).onRaise (fun x => do noteFrame x env; theTreesLotGoes x)) _ _ s
  refine wpAny_noted ?_
  rw [compTurn_list]
  refine wpAny_bind (wpAny_standAt (wpAny_bind (wpAny_mono (turn n s hI) (fun r s₁ h₁ => ?_) fun _ _ h' => h')))
  cases r with
  | none => exact wpAny_pure h₁
  | some v =>
    refine wpAny_bind (wpAny_mono h₁ (fun _ s₁' h₁' => ?_) fun _ _ h' => h')
    refine wpAny_bind (wpAny_mono h₁' (fun _ s₂ h₂ => wpAny_bind (wpAny_mono h₂ (fun ok s₃ h₃ => ?_) fun _ _ h' => h')) fun _ _ h' => h')
    cases ok with
    | false => exact wpAny_pure ⟨rfl, h₃⟩
    | true =>
      exact wpAny_bind (wpAny_bind (wpAny_mono h₃ (fun x s₄ h₄ => wpAny_bind (wpAny_mono h₄ (fun _ s₅ h₅ => wpAny_pure (wpAny_pure ⟨rfl, h₅⟩)) fun _ _ h' => h')) fun _ _ h' => h'))
end

/-- its context: the block's names N', its frame at C, the iterator's records ex -/
def cxComp (X : Cx) (scope : Scope) (N' : List Str) (C : Addr) (ex : List Addr) (s : Shared) (H : Hp) : Cx :=
  { X with N := N', s₀ := s, H₀ := H, env := compEnvC scope (clOf X.env scope.names []) C X.env, outer := X.stack, stack := X.stack, ex := ex, fn := fun _ => false, pn := [], xe := fun _ _ => False }
/-- cap: for each of the block's names the slot of the def's name that it means, none for its own -/
def capOk (N N' : List Str) (cap : List (Option Nat)) (names : List (Str × NameKind)) : Bool :=
  (N'.zip cap).all fun p => match p.2 with
    | none => true
    | some j => N[j]? == some p.1 && names.lookup p.1 == some .free
structure CompOk (X : Cx) (scope : Scope) (N' : List Str) (cap : List (Option Nat)) : Prop where
  kind : scope.kind = .function
  nocell : ∀ y ∈ scope.names, y.2 ≠ .cell
  names : ∀ y ∈ scope.names, y.2 = .local → scope.names.lookup y.1 = some .local
  freeB : (scope.names.all fun y => y.2 != .free || X.env.scope.names.lookup y.1 == some .cell || X.env.scope.names.lookup y.1 == some .free) = true
  len : cap.length = N'.length
  cap : capOk X.N N' cap scope.names = true
theorem CompOk.free {X : Cx} {scope : Scope} {N' : List Str} {cap : List (Option Nat)} (c : CompOk X scope N' cap) : ∀ y ∈ scope.names, y.2 = .free → (X.env.scope.names.lookup y.1 = some .cell ∨ X.env.scope.names.lookup y.1 = some .free) := fun y hy hf => by
  have h := List.all_eq_true.mp c.freeB y hy
  rw [hf] at h
  simpa using h
/-- the block's names at the start of each turn -/
def capSt (cap : List (Option Nat)) (σ : St) : St := cap.map fun o => match o with
  | none => none
  | some j => (σ[j]?).join
theorem capOk_get {N N' : List Str} {cap : List (Option Nat)} {names : List (Str × NameKind)} (h : capOk N N' cap names = true) {i : Nat} {x : Str} {j : Nat} (h1 : N'[i]? = some x) (h2 : cap[i]? = some (some j)) :
    N[j]? = some x ∧ names.lookup x = some .free := by
  have hm : (x, some j) ∈ N'.zip cap := by
    refine List.mem_of_getElem? (i := i) ?_
    rw [List.getElem?_zip_eq_some]
    exact ⟨h1, h2⟩
  have := List.all_eq_true.mp h _ hm
  simpa using this
section
variable {X : Cx} {pins : List (Addr × Obj)} {σ : St} {H : Hp} {s : Shared} {scope : Scope} {N' : List Str} {cap : List (Option Nat)}
theorem CompOk.clos (c : CompOk X scope N' cap) (I : Inv X pins σ H s) : ∀ y ∈ scope.names, y.2 = .free → ∃ a, X.env.cells.lookup y.1 = some a := fun y hy hf => I.ok.has y.1 (c.free y hy hf)
/-- the block's frame laid: the invariant inside -/
theorem comp_start (c : CompOk X scope N' cap) (I : Inv X pins σ H s) {fp : List Addr} (hf : ∀ b ∈ fp, FpOk X pins H b) (ho : ∀ b ∈ fp, ∃ o, s.heap.get? b = some o) {h₁ : Heap} {t : Nat} (hns : h₁.Ns s.heap.objs.size (fun _ => none))
    (hsb : ∀ b o, s.heap.get? b = some o → h₁.get? b = some o) : Inv (cxComp X scope N' s.heap.objs.size fp s H) [] (capSt cap σ) H { s with heap := h₁, toks := t } := by
  have hcl := c.clos I
  have sub := clOf_sub (env := X.env) scope.names [] hcl (fun x c e => by simp at e)
  have CI : ∀ x a, (clOf X.env scope.names []).lookup x = some a → X.env.cells.lookup x = some a := sub
  have cz : ∀ x a, (clOf X.env scope.names []).lookup x = some a → a < s.heap.objs.size := fun x a e => by
    obtain ⟨v, o, q, _⟩ := I.cell x a (CI x a e)
    exact Heap.lt_size q
  have fz : ∀ b ∈ fp, b ≠ s.heap.objs.size → True := fun _ _ _ => trivial
  refine ⟨⟨I.ok.mod, c.kind, I.ok.glob, I.ok.blt, Nat.le_refl _, fun x y a h1 h2 => I.ok.inj x y a (CI x a h1) (CI y a h2), fun x hx => ?_, fun x a h => (by cases h), I.ok.hd, I.ok.frames, .inl rfl, fun b hb => ?_, I.bs, Nat.le_trans I.ok.bsz I.sz, fun b o e hb => ?_, fun b hb => ?_, I.stack, I.stkFree⟩,
    rfl, I.bare, Un.kept hsb, ⟨_, hns, fun i x v h1 h2 h3 => ?_⟩, fun x a e => ?_, I.hok.fresh (Nat.le_refl _), fun x a e => I.freeC x a (CI x a e), fun p hp => by simp [cxComp] at hp, I.hok.kept hsb, ?_⟩
  · have hx : (relabel scope X.env).names.lookup x = some .cell ∨ (relabel scope X.env).names.lookup x = some .free := hx
    rcases relabel_back hx with h | h
    · exact clOf_has (env := X.env) scope.names [] (.inl (PySem.mem_of_lookup h))
    · exact absurd rfl (c.nocell _ (PySem.mem_of_lookup h))
  · obtain ⟨o, e⟩ := ho b hb
    exact ⟨Nat.ne_of_lt (Heap.lt_size e), fun x a e => (hf b hb).2.2.2.2.1 x a (CI x a e)⟩
  · rcases (hf b hb).2.2.2.1 with z | z
    · exact I.ok.noex b o e z
    · exact absurd (Nat.lt_of_lt_of_le (Heap.lt_size e) (Nat.le_trans I.ok.bsz z)) (Nat.lt_irrefl _)
  · intro z
    rcases List.mem_cons.mp (I.stkSub b z) with q | q
    · exact (hf b hb).2.1 q
    · exact (hf b hb).2.2.1 q
  · have hi : i < cap.length := by
      unfold capSt at h2
      have := (List.getElem?_eq_some_iff.mp h2).1
      simpa using this
    obtain ⟨j, hj, hv⟩ : ∃ j, cap[i]? = some (some j) ∧ σ[j]? = some (some v) := by
      unfold capSt at h2
      rw [List.getElem?_map] at h2
      cases e : cap[i]? with
      | none => rw [e] at h2; cases h2
      | some o =>
        rw [e] at h2
        cases o with
        | none => cases h2
        | some j =>
          refine ⟨j, rfl, ?_⟩
          have h2 : (σ[j]?).join = some v := Option.some.inj h2
          cases q : σ[j]? with
          | none => rw [q] at h2; cases h2
          | some y => rw [q] at h2; cases y with
            | none => cases h2
            | some z => exact congrArg some h2
    obtain ⟨hN, hfree⟩ := capOk_get c.cap h1 hj
    have hk := c.free (x, .free) (PySem.mem_of_lookup hfree) rfl
    obtain ⟨m, hm, hl⟩ := I.loc
    obtain ⟨u, ru, l⟩ := hl j x v hN hv (hk.elim (fun z => .inr (.inl z)) fun z => .inr (.inr z))
    refine ⟨u, ru, .inr ⟨relabel_free hfree, ?_⟩⟩
    rcases l with ⟨k, _⟩ | ⟨_, a, ea, ca⟩
    · have k : X.env.scope.names.lookup x = some .local := k
      rcases hk with z | z <;> · rw [z] at k; cases k
    · obtain ⟨a', ea'⟩ := clOf_has (env := X.env) (x := x) scope.names [] (.inl (PySem.mem_of_lookup hfree))
      have := CI x a' ea'
      rw [ea] at this; cases this
      obtain ⟨o, q, d⟩ := ca
      exact ⟨a, ea', o, hsb a o q, d⟩
  · obtain ⟨v, o, q, d⟩ := I.cell x a (CI x a e)
    exact ⟨v, o, hsb a o q, d⟩
  · unfold capSt
    rw [List.length_map]
    exact c.len
end
/-- the tests of a comprehension -/
def PIfs (Y : Cx) (ifs : List Expr) (t : TT) : Prop :=
  ∀ (pins : List (Addr × Obj)) (s : Shared) (σ : St) (H : Hp) (Q : Bool → Hp → Prop) (E : Value → Shared → Prop), Inv Y pins σ H s → t σ H Q →
    wpAny (model Y.prog Y.w) Y.A (forIn ifs true fun c r => if r = true then do let ok ← isTrue c Y.env (eval c Y.env); pure (ForInStep.yield ok) else pure (ForInStep.yield r)) (TP Y pins σ Q) E s
def tTrue : TT := fun _ H Q => Q true H
theorem pifs_nil {Y : Cx} : PIfs Y [] tTrue := fun pins s σ H Q E I h => wpAny_tests_nil ⟨H, I, h⟩
theorem pifs_one {Y : Cx} {c : Expr} {t : TT} (h : PT Y.nox c t) : PIfs Y [c] t := fun pins s σ H Q E I hw =>
  wpAny_tests_one (wpAny_mono (h pins s σ H Q (I.wish _) hw) (fun _ _ ⟨H', I', q⟩ => ⟨H', I'.unwish, q⟩) fun _ _ z => False.elim z)

/-- a target that stores into the slots of own alone -/
def GKp (own : Nat → Bool) (g : TG) : Prop := ∀ v σ H Q, g v σ H Q → g v σ H fun σ' H' => (σ'.length = σ.length ∧ ∀ i, own i = false → σ'[i]? = σ[i]?) ∧ Q σ' H'
def GsKp (own : Nat → Bool) (g : TGs) : Prop := ∀ vs σ H Q, g vs σ H Q → g vs σ H fun σ' H' => (σ'.length = σ.length ∧ ∀ i, own i = false → σ'[i]? = σ[i]?) ∧ Q σ' H'
theorem gkp_name {own : Nat → Bool} {j : Nat} (h : own j = true := by rfl) : GKp own (gName j) := fun v σ H Q q =>
  ⟨⟨List.length_set .., fun i hi => List.getElem?_set_ne (fun e => by rw [e, hi] at h; cases h)⟩, q⟩
theorem gskp_nil {own : Nat → Bool} : GsKp own gNil := fun vs σ H Q q => ⟨q.1, ⟨rfl, fun _ _ => rfl⟩, q.2⟩
theorem gskp_cons {own : Nat → Bool} {j : Nat} {u : TGs} (h : own j = true) (hu : GsKp own u) : GsKp own (gCons (gName j) u) := by
  intro vs σ H Q q
  obtain ⟨v, r, e, q⟩ := q
  refine ⟨v, r, e, ?_⟩
  have q := hu r (σ.set j (some v)) H Q q
  have k : ∀ i, own i = false → (σ.set j (some v))[i]? = σ[i]? := fun i hi => List.getElem?_set_ne (fun e => by rw [e, hi] at h; cases h)
  have q := hu r (σ.set j (some v)) H _ q
  show u r (σ.set j (some v)) H _
  have e2 : (fun (σ' : St) (H' : Hp) => (σ'.length = (σ.set j (some v)).length ∧ ∀ i, own i = false → σ'[i]? = (σ.set j (some v))[i]?) ∧ (σ'.length = (σ.set j (some v)).length ∧ ∀ i, own i = false → σ'[i]? = (σ.set j (some v))[i]?) ∧ Q σ' H') = fun σ' H' => (σ'.length = σ.length ∧ ∀ i, own i = false → σ'[i]? = σ[i]?) ∧ Q σ' H' := by
    funext σ' H'
    refine propext ⟨fun z => ⟨⟨by rw [z.1.1, List.length_set], fun i hi => by rw [z.1.2 i hi, k i hi]⟩, z.2.2⟩, fun z => ?_⟩
    have a : σ'.length = (σ.set j (some v)).length ∧ ∀ i, own i = false → σ'[i]? = (σ.set j (some v))[i]? := ⟨by rw [z.1.1, List.length_set], fun i hi => by rw [z.1.2 i hi, k i hi]⟩
    exact ⟨a, a, z.2⟩
  rw [e2] at q
  exact q
theorem gkp_tup {own : Nat → Bool} {K : PySem.W.Frag} {n : Nat} {t : TGs} (h : GsKp own t) : GKp own (gTup K n t) := fun v σ H Q ⟨a, xs, e, hq, hl, q⟩ => ⟨a, xs, e, hq, hl, h xs σ H Q q⟩
def ownOf (cap : List (Option Nat)) (i : Nat) : Bool := cap[i]? == some none
/-- what a comprehension reads: W by the turn, a measure, the items so far and the heap (the new list at D among it) -/
def tComp (cap : List (Option Nat)) (wi : TI) (g : TG) (tt : TT) (te : TE) : TE := fun σ H Q => wi σ H fun J H1 => ∀ D, H1 D = none →
  ∃ W : Nat → Nat → List V → Hp → Prop, (∃ m, W 0 m [] (upd H1 D (.lst []))) ∧ ∀ i m ys H2, W i m ys H2 → H2 D = some (.lst ys) ∧
    ((J.stop i H2 ∧ Q (.ref D) H2) ∨ (J.go i H2 ∧ ys.length < sizeLine ∧ ∃ N : List V → Hp → Prop, (∀ ys' H', N ys' H' → ∃ m', m' < m ∧ W (i + 1) m' ys' H') ∧ ∀ x H3, J.yld i H2 x H3 → g x (capSt cap σ) H3 fun σ4 H4 => tt σ4 H4 fun b H5 =>
      if b = true then te σ4 H5 fun y H6 => H6 D = some (.lst ys) ∧ N (ys ++ [y]) (upd H6 D (.lst (ys ++ [y]))) else N ys H5))
section
variable {X : Cx} {pins : List (Addr × Obj)} {σ : St} {H : Hp} {s : Shared} {scope : Scope} {N' : List Str} {cap : List (Option Nat)}
theorem comp_core {tg elt iter : Expr} {ifs : List Expr} {pos : Pos} {g : TG} {tt : TT} {te : TE} {it : Addr} {fp : List Addr} {tn : Nat → Heap → Prop} {J : It} {RR : Value → Addr → Result → Shared → Prop} {Q : VK} {E : Value → Shared → Prop}
    (c : CompOk X scope N' cap) (hc : X.calm = true) (I : Inv X pins σ H s) (T : Turn X.prog X.w X.K tg J fp it tn) (st : tn 0 s.heap) (hf : ∀ b ∈ fp, FpOk X pins H b)
    (hg : ∀ C ex s H, PG (cxComp X scope N' C ex s H) tg g) (hk : GKp (ownOf cap) g) (hi : ∀ C ex s H, PIfs (cxComp X scope N' C ex s H) ifs tt) (he : ∀ C ex s H, PE (cxComp X scope N' C ex s H) elt te)
    (h : ∀ D, H D = none →
      ∃ W : Nat → Nat → List V → Hp → Prop, (∃ m, W 0 m [] (upd H D (.lst []))) ∧ ∀ i m ys H2, W i m ys H2 → H2 D = some (.lst ys) ∧
        ((J.stop i H2 ∧ Q (.ref D) H2) ∨ (J.go i H2 ∧ ys.length < sizeLine ∧ ∃ N : List V → Hp → Prop, (∀ ys' H', N ys' H' → ∃ m', m' < m ∧ W (i + 1) m' ys' H') ∧ ∀ x H3, J.yld i H2 x H3 → g x (capSt cap σ) H3 fun σ4 H4 => tt σ4 H4 fun b H5 =>
          if b = true then te σ4 H5 fun y H6 => H6 D = some (.lst ys) ∧ N (ys ++ [y]) (upd H6 D (.lst (ys ++ [y]))) else N ys H5)))
    (hRR : ∀ D C H' s', Inv X pins σ H' s' → FpOk X pins H' C → (∃ m, s'.heap.Ns C m) → Q (.ref D) H' → RR (.ref D) C (.ok .next) s') :
    wpAny (model X.prog X.w) X.A (newList []) (fun acc s₃ => wpAny (model X.prog X.w) X.A (newFunctionEnv scope X.env.globals (clOf X.env scope.names []) [] X.env.qual none .none (some X.env)) (fun cenv s₄ =>
      codeAny (model X.prog X.w) X.A (.compStart (.ListComp elt [⟨tg, iter, ifs, 0⟩] scope pos) 0 (.ref it) acc { cenv with scope := relabel scope X.env }) (RR acc cenv.locals) s₄) E s₃) E s := by
  refine wpAny_newObj_type (wpAny_newFunctionEnv c.nocell (by intro y hy; simp at hy) (fun h₁ hns₁ hsb₁ => ?_) c.kind)
  dsimp only at hns₁ hsb₁ ⊢
  have hD : H s.heap.objs.size = none := I.hok.fresh (Nat.le_refl _)
  have I1 : Inv X pins σ (upd H s.heap.objs.size (.lst [])) { s with heap := s.heap.push { cls := .type "list", dict := none, data := .seq ([] : List Value).toArray } } :=
    I.laid (t' := s.toks) (fun b u e => Heap.get?_push_of_some _ e) (Nat.le_refl _) ⟨Nat.zero_le _, [], 0, .nil, Heap.get?_push_size _ rfl⟩
  have ob : ∀ b ∈ fp, ∃ o, s.heap.get? b = some o ∧ ∀ v, o.data ≠ .cell v := T.obj 0 _ st
  have hf1 : ∀ b ∈ fp, FpOk X pins (upd H s.heap.objs.size (.lst [])) b := fun b hb => by
    obtain ⟨o, e, _⟩ := ob b hb
    have : b ≠ s.heap.objs.size := Nat.ne_of_lt (Heap.lt_size e)
    exact ⟨by rw [upd_ne this]; exact (hf b hb).1, (hf b hb).2⟩
  generalize hs1 : ({ s with heap := s.heap.push { cls := .type "list", dict := none, data := .seq ([] : List Value).toArray } } : Shared) = s1 at I1
  have hh : s.heap.push { cls := .type "list", dict := none, data := .seq ([] : List Value).toArray } = s1.heap := by rw [← hs1]
  have old1 : ∀ b o, s.heap.get? b = some o → s1.heap.get? b = some o := fun b o e => by rw [← hh]; exact Heap.get?_push_of_some _ e
  rw [hh] at hns₁ hsb₁ ⊢
  have old2 : ∀ b o, s1.heap.get? b = some o → h₁.get? b = some o := fun b o e => hsb₁.extBut b o (Nat.ne_of_lt (Heap.lt_size e)) (Heap.get?_push_of_some _ e)
  have J0 : Inv (cxComp X scope N' s1.heap.objs.size fp s1 (upd H s.heap.objs.size (.lst []))) [] (capSt cap σ) (upd H s.heap.objs.size (.lst [])) { s1 with heap := h₁, toks := s.toks + ([] : List (Str × Value)).length } :=
    comp_start c I1 hf1 (fun b hb => (ob b hb).imp fun o e => old1 b o e.1) hns₁ old2
  have es4 : ({ heap := h₁, gens := s.gens, drawn := s.drawn, toks := s.toks + ([] : List (Str × Value)).length, os := s.os } : Shared) = { s1 with heap := h₁, toks := s.toks + ([] : List (Str × Value)).length } := by rw [← hs1]
  have st4 : tn 0 ({ s1 with heap := h₁, toks := s.toks + ([] : List (Str × Value)).length } : Shared).heap := T.keep 0 _ _ st fun b hb o e => old2 b o (old1 b o e)
  rw [es4]
  generalize ({ s1 with heap := h₁, toks := s.toks + ([] : List (Str × Value)).length } : Shared) = s4 at J0 st4 ⊢
  obtain ⟨W, ⟨m0, w0⟩, step⟩ := h _ hD
  generalize hY : cxComp X scope N' s1.heap.objs.size fp s1 (upd H s.heap.objs.size (.lst [])) = Y at J0
  have stat : ∀ {H' : Hp}, (∀ b ∈ fp, H' b = none) → ∀ b ∈ fp, FpOk Y [] H' b := fun hn b hb => by
    obtain ⟨o, e, _⟩ := ob b hb
    have e1 := old1 b o e
    subst hY
    refine ⟨hn b hb, Nat.ne_of_lt (Heap.lt_size e1), fun z => ?_, .inl hb, fun x a q => (J0.ok.exf b hb).2 x a q, fun p hp => by simp [cxComp] at hp⟩
    exact J0.ok.exfs b hb z
  have loop : codeAny (model X.prog X.w) X.A (.compLoop (.ListComp elt [⟨tg, iter, ifs, 0⟩] scope pos) 0 (.ref it) (.ref s.heap.objs.size) (compEnvC scope (clOf X.env scope.names []) s1.heap.objs.size X.env)) (RR (.ref s.heap.objs.size) s1.heap.objs.size) s4 := by
    refine compLoop_any (fun n s' => ∃ i ys H', Inv Y [] (capSt cap σ) H' s' ∧ tn i s'.heap ∧ (∀ b ∈ fp, H' b = none) ∧ W i n ys H') ?_ m0 ⟨0, [], _, J0, st4, fun b hb => (hf1 b hb).1, w0⟩
    rintro n s3 ⟨i, ys, H3, I3, st3, fr3, w3⟩
    obtain ⟨hDl, alt⟩ := step i n ys H3 w3
    rcases alt with ⟨stop, q⟩ | ⟨go, hlen, NN, hNN, stp⟩
    · have := T.done Y (by rw [← hY]; rfl) (by rw [← hY]; rfl) (by rw [← hY]; rfl) (by rw [← hY]; exact hc) i [] s3 (capSt cap σ) H3 (notedBy (model X.prog X.w) X.A (compEnvC scope (clOf X.env scope.names []) s1.heap.objs.size X.env) fun e s' => RR (.ref s.heap.objs.size) s1.heap.objs.size (.error e) s') I3 (stat fr3) st3 stop
      subst hY
      refine thn this fun r s5 ⟨hr, I5⟩ => ?_
      subst hr
      refine hRR _ _ H3 s5 (I1.call' I5.os I5.base I5.hok I5.bare fun b hb => ?_) (I1.fpOk (Nat.le_refl _) I5.free) (I5.loc.imp fun m z => z.1) q
      obtain ⟨_, f1, f2, f3, f4, f5⟩ := hf1 b hb
      exact ⟨f3, f1, f4, f5⟩
    · have := T.item Y (by rw [← hY]; rfl) (by rw [← hY]; rfl) (by rw [← hY]; rfl) (by rw [← hY]; exact hc) i [] s3 (capSt cap σ) H3 (notedBy (model X.prog X.w) X.A (compEnvC scope (clOf X.env scope.names []) s1.heap.objs.size X.env) fun e s' => RR (.ref s.heap.objs.size) s1.heap.objs.size (.error e) s') I3 (stat fr3) st3 go
      have hgY := hg s1.heap.objs.size fp s1 (upd H s.heap.objs.size (.lst []))
      have hiY := hi s1.heap.objs.size fp s1 (upd H s.heap.objs.size (.lst []))
      have heY := he s1.heap.objs.size fp s1 (upd H s.heap.objs.size (.lst []))
      rw [hY] at hgY hiY heY
      have nox : ∀ {P : Value → Shared → Prop} e s', Y.xe e s' → P e s' := fun e s' z => by subst hY; exact False.elim z
      have eA : Y.A = X.A := by rw [← hY]; rfl
      have eP : Y.prog = X.prog := by rw [← hY]; rfl
      have eW : Y.w = X.w := by rw [← hY]; rfl
      have eE : Y.env = compEnvC scope (clOf X.env scope.names []) s1.heap.objs.size X.env := by rw [← hY]; rfl
      rw [← eA, ← eP, ← eW, ← eE] at this ⊢
      refine thn this fun r s5 ⟨u, hr, h5⟩ => ?_
      subst hr
      refine thn h5 fun _ s6 ⟨x, H6, I6, rx, y6, st6, fr6⟩ => ?_
      have I6' := I6.pinned (stat fr6) (T.obj _ _ st6)
      refine wpAny_mono (hgY _ s6 (capSt cap σ) H6 x u _ I6' rx (hk _ _ _ _ (stp x H6 y6))) (fun _ s7 ⟨σ7, H7, I7, ⟨k1, k2⟩, q7⟩ => ?_) nox
      refine thn (hiY _ s7 σ7 H7 _ _ I7 q7) fun ok s8 ⟨H8, I8, q8⟩ => ?_
      have again : ∀ {H9 : Hp} {s9 : Shared} {σ9 : St} {ys' : List V}, Inv Y ([] ++ pinsAt fp s6.heap) σ9 H9 s9 → σ9.length = (capSt cap σ).length → (∀ (i : Nat) v, (capSt cap σ)[i]? = some (some v) → σ9[i]? = some (some v)) → (∃ m', m' < n ∧ W (i + 1) m' ys' H9) → ∃ m, m < n ∧ ∃ i ys H', Inv Y [] (capSt cap σ) H' s9 ∧ tn i s9.heap ∧ (∀ b ∈ fp, H' b = none) ∧ W i m ys H' := by
        rintro H9 s9 σ9 ys' I9 hl hw ⟨m', hm, w9⟩
        refine ⟨m', hm, i + 1, ys', H9, I9.unpinned.weak hl.symm hw, T.keep _ _ _ st6 fun b hb o e => (I9.pin (b, o) (List.mem_append_right _ (List.mem_append_right _ (mem_pinsAt hb e)))).1, fun b hb => ?_, w9⟩
        obtain ⟨o, e, d⟩ := T.obj _ _ st6 b hb
        exact (I9.pin (b, o) (List.mem_append_right _ (List.mem_append_right _ (mem_pinsAt hb e)))).2.1
      have kw : ∀ (i : Nat) v, (capSt cap σ)[i]? = some (some v) → σ7[i]? = some (some v) := fun i v e => by
        rw [k2 i ?_]
        · exact e
        · unfold ownOf
          cases q : cap[i]? with
          | none => rfl
          | some o =>
            cases o with
            | none =>
              unfold capSt at e
              rw [List.getElem?_map, q] at e
              cases e
            | some j => rfl
      cases ok with
      | false =>
        rw [if_neg Bool.false_ne_true] at q8 ⊢
        exact again I8 k1 kw (hNN _ _ q8)
      | true =>
        rw [if_pos rfl] at q8 ⊢
        refine wpAny_mono (heY _ s8 σ7 H8 _ I8 q8) (fun u9 s9 ⟨y, H9, I9, ry, hD9, q9⟩ => ?_) nox
        refine wpAny_mono (mt_append (X := Y) _ s9 σ7 H9 (.ref s.heap.objs.size) [y] (.ref s.heap.objs.size) [u9] (fun _ H10 => NN (ys ++ [y]) H10) I9 rfl (.cons ry .nil) ⟨_, ys, y, rfl, rfl, hD9, hlen, q9⟩) (fun _ s10 ⟨_, H10, I10, _, q10⟩ => ?_) nox
        exact again I10 k1 kw (hNN _ _ q10)
  exact codeAny_compStart_list loop (T.self X.A 0 _ _ _ st4 loop)

theorem turned_of {C : Addr} {H' : Hp} {s' : Shared} (I' : Inv X pins σ H' s') (fC : FpOk X pins H' C) {h' : Heap} (hs' : Heap.SameBut C s'.heap h') : Inv X pins σ H' { s' with heap := h' } := by
  obtain ⟨f0, f1, f2, f3, f4, f5⟩ := fC
  exact I'.turned (t' := s'.toks) (fun b o hb e => hs'.extBut b o hb e) f0 f1 f3 f4 f5
/-- a list comprehension of one clause -/
theorem pe_comp {tg elt iter : Expr} {ifs : List Expr} {pos : Pos} {wi : TI} {g : TG} {tt : TT} {te : TE} (c : CompOk X scope N' cap) (hc : X.calm = true) (hit : PI X tg iter wi)
    (hg : ∀ C ex s H, PG (cxComp X scope N' C ex s H) tg g) (hk : GKp (ownOf cap) g) (hi : ∀ C ex s H, PIfs (cxComp X scope N' C ex s H) ifs tt) (he : ∀ C ex s H, PE (cxComp X scope N' C ex s H) elt te)
    (hs : ∀ x, foldedSetIterable iter X.env x = pure x := by intro _; rfl) : PE X (.ListComp elt [⟨tg, iter, ifs, 0⟩] scope pos) (tComp cap wi g tt te) := by
  intro pins s σ H Q I h
  rw [eval_ListComp]
  refine wpAny_comprehension_free (use := none) rfl hs (closureFor_ok (c.clos I)) c.kind c.names (thn (hit pins s σ H _ I h) fun v s1 h1 => thn h1 fun itv s2 h2 => ?_)
  obtain ⟨it, fp, tn, J, H2, e, I2, T, st2, f2, q⟩ := h2
  subst e
  refine comp_core c hc I2 T st2 f2 hg hk hi he q fun D C H' s' I' fC hn hq => ?_
  obtain ⟨m, hn⟩ := hn
  exact ⟨m, hn, fun h' hs' => ⟨.ref D, H', turned_of I' fC hs', rfl, hq⟩⟩
/-- name = a list comprehension -/
theorem ps_setc {i : Nat} {x : Str} {px spos : Pos} {tg elt iter : Expr} {ifs : List Expr} {pos : Pos} {wi : TI} {g : TG} {tt : TT} {te : TE} (hN : X.N.Nodup) (hx0 : X.N[i]? = some x) (hx : Loc X.env.scope x)
    (c : CompOk X scope N' cap) (hc : X.calm = true) (hit : PI X tg iter wi)
    (hg : ∀ C ex s H, PG (cxComp X scope N' C ex s H) tg g) (hk : GKp (ownOf cap) g) (hi : ∀ C ex s H, PIfs (cxComp X scope N' C ex s H) ifs tt) (he : ∀ C ex s H, PE (cxComp X scope N' C ex s H) elt te)
    (hsw : swapsWith (.ListComp elt [⟨tg, iter, ifs, 0⟩] scope pos) (some (.Name x px)) spos.line X.env = pure true := by rfl)
    (hs : ∀ x, foldedSetIterable iter X.env x = pure x := by intro _; rfl) (hf : X.fn x = true ∨ X.env.scope.names.lookup x = some .local := by first | exact .inl rfl | exact .inr rfl | assumption) : PS X (.Assign [.Name x px] (.ListComp elt [⟨tg, iter, ifs, 0⟩] scope pos) spos) (tAsg (tComp cap wi g tt te) (gName i)) := by
  intro pins s σ H D0 I h
  rw [exec_Assign_Name_used _ _ _ _ hsw]
  refine wpAny_bind (wpAny_standAt (wpAny_bind ?_))
  show wpAny _ X.A (do let _ ← comprehension (.ListComp elt [⟨tg, iter, ifs, 0⟩] scope pos) scope X.env _ (newList []) false (eval iter X.env) (some (assign (.Name x px) X.env))) _ _ s
  refine wpAny_bind (wpAny_mono (wpAny_comprehension_free (use := some (assign (.Name x px) X.env)) (Q := fun _ s' => SP X pins D0 .next s') rfl hs (closureFor_ok (c.clos I)) c.kind c.names
    (thn (hit pins s σ H _ I h) fun v s1 h1 => thn h1 fun itv s2 h2 => ?_)) (fun _ s' hq => wpAny_pure (wpAny_pure hq)) fun _ _ e => e)
  obtain ⟨it, fp, tn, J, H2, e, I2, T, st2, f2, q⟩ := h2
  subst e
  refine comp_core (Q := fun v H1 => gName i v σ H1 D0.nx) c hc I2 T st2 f2 hg hk hi he q fun D C H' s' I' fC hn hq => ?_
  obtain ⟨m, hn⟩ := hn
  refine wpAny_assign_Name (store_ok2 (v := .ref D) I' hN hx0 hx rfl (fun s'' I'' ⟨a, sb, ha⟩ => ?_) hf)
  have hne : C ≠ a := by
    rcases ha with z | z
    · rw [z]; exact fC.2.1
    · exact fun e => fC.2.2.2.2.1 x a z e.symm
  exact ⟨m, hn.sameBut sb hne, fun h' hs' => ⟨σ.set i (some (.ref D)), H', turned_of I'' fC hs', hq⟩⟩
end

theorem comp_list {K : PySem.W.Frag} {a D : Addr} {xs : List V} {g : TG} {tt : TT} {te : TE} {σ0 : St} {H1 : Hp} {R : Hp → Prop} (Pv : Nat → List V → Hp → Prop) (h0 : Pv 0 [] (upd H1 D (.lst [])))
    (hl : ∀ i ys H, i ≤ xs.length → Pv i ys H → SqL K H a xs ∧ H D = some (.lst ys) ∧ ys.length ≤ i) (hz : xs.length ≤ sizeLine)
    (hs : ∀ i x ys H, xs[i]? = some x → Pv i ys H → g x σ0 H fun σ4 H4 => tt σ4 H4 fun b H5 => if b = true then te σ4 H5 fun y H6 => H6 D = some (.lst ys) ∧ Pv (i + 1) (ys ++ [y]) (upd H6 D (.lst (ys ++ [y]))) else Pv (i + 1) ys H5)
    (hd : ∀ ys H, Pv xs.length ys H → R H) :
    ∃ W : Nat → Nat → List V → Hp → Prop, (∃ m, W 0 m [] (upd H1 D (.lst []))) ∧ ∀ i m ys H2, W i m ys H2 → H2 D = some (.lst ys) ∧
      (((Itl K a).stop i H2 ∧ R H2) ∨ ((Itl K a).go i H2 ∧ ys.length < sizeLine ∧ ∃ N : List V → Hp → Prop, (∀ ys' H', N ys' H' → ∃ m', m' < m ∧ W (i + 1) m' ys' H') ∧ ∀ x H3, (Itl K a).yld i H2 x H3 → g x σ0 H3 fun σ4 H4 => tt σ4 H4 fun b H5 =>
        if b = true then te σ4 H5 fun y H6 => H6 D = some (.lst ys) ∧ N (ys ++ [y]) (upd H6 D (.lst (ys ++ [y]))) else N ys H5)) := by
  refine ⟨fun i m ys H => m = xs.length - i ∧ i ≤ xs.length ∧ Pv i ys H, ⟨xs.length, by simp, Nat.zero_le _, h0⟩, ?_⟩
  rintro i m ys H2 ⟨rfl, hi, p⟩
  obtain ⟨q, hD, hly⟩ := hl i ys H2 hi p
  refine ⟨hD, ?_⟩
  by_cases hlt : i < xs.length
  · refine .inr ⟨⟨xs, xs[i], q, by simp [hlt]⟩, by omega, Pv (i + 1), fun ys' H' p' => ⟨xs.length - (i + 1), by omega, rfl, hlt, p'⟩, fun x H3 y => ?_⟩
    obtain ⟨e, y⟩ := y
    subst e
    exact hs i x ys _ (y xs q) p
  · have e : i = xs.length := by omega
    subst e
    exact .inl ⟨⟨xs, q, Nat.le_refl _⟩, hd ys H2 p⟩
theorem comp_tup {K : PySem.W.Frag} {a D : Addr} {xs : List V} {g : TG} {tt : TT} {te : TE} {σ0 : St} {H1 : Hp} {R : Hp → Prop} (Pv : Nat → List V → Hp → Prop) (h0 : Pv 0 [] (upd H1 D (.lst [])))
    (hl : ∀ i ys H, i ≤ xs.length → Pv i ys H → SqT K H a xs ∧ H D = some (.lst ys) ∧ ys.length ≤ i) (hz : xs.length ≤ sizeLine)
    (hs : ∀ i x ys H, xs[i]? = some x → Pv i ys H → g x σ0 H fun σ4 H4 => tt σ4 H4 fun b H5 => if b = true then te σ4 H5 fun y H6 => H6 D = some (.lst ys) ∧ Pv (i + 1) (ys ++ [y]) (upd H6 D (.lst (ys ++ [y]))) else Pv (i + 1) ys H5)
    (hd : ∀ ys H, Pv xs.length ys H → R H) :
    ∃ W : Nat → Nat → List V → Hp → Prop, (∃ m, W 0 m [] (upd H1 D (.lst []))) ∧ ∀ i m ys H2, W i m ys H2 → H2 D = some (.lst ys) ∧
      (((Itt K a).stop i H2 ∧ R H2) ∨ ((Itt K a).go i H2 ∧ ys.length < sizeLine ∧ ∃ N : List V → Hp → Prop, (∀ ys' H', N ys' H' → ∃ m', m' < m ∧ W (i + 1) m' ys' H') ∧ ∀ x H3, (Itt K a).yld i H2 x H3 → g x σ0 H3 fun σ4 H4 => tt σ4 H4 fun b H5 =>
        if b = true then te σ4 H5 fun y H6 => H6 D = some (.lst ys) ∧ N (ys ++ [y]) (upd H6 D (.lst (ys ++ [y]))) else N ys H5)) := by
  refine ⟨fun i m ys H => m = xs.length - i ∧ i ≤ xs.length ∧ Pv i ys H, ⟨xs.length, by simp, Nat.zero_le _, h0⟩, ?_⟩
  rintro i m ys H2 ⟨rfl, hi, p⟩
  obtain ⟨q, hD, hly⟩ := hl i ys H2 hi p
  refine ⟨hD, ?_⟩
  by_cases hlt : i < xs.length
  · refine .inr ⟨⟨xs, xs[i], q, by simp [hlt]⟩, by omega, Pv (i + 1), fun ys' H' p' => ⟨xs.length - (i + 1), by omega, rfl, hlt, p'⟩, fun x H3 y => ?_⟩
    obtain ⟨e, y⟩ := y
    subst e
    exact hs i x ys _ (y xs q) p
  · have e : i = xs.length := by omega
    subst e
    exact .inl ⟨⟨xs, q, Nat.le_refl _⟩, hd ys H2 p⟩
theorem comp_range {lo : Int} {n : Nat} {D : Addr} {g : TG} {tt : TT} {te : TE} {σ0 : St} {H1 : Hp} {R : Hp → Prop} (Pv : Nat → List V → Hp → Prop) (h0 : Pv 0 [] (upd H1 D (.lst [])))
    (hl : ∀ i ys H, i ≤ n → Pv i ys H → H D = some (.lst ys) ∧ ys.length ≤ i) (hz : n ≤ sizeLine)
    (hs : ∀ i ys H, i < n → Pv i ys H → g (.int (lo + i)) σ0 H fun σ4 H4 => tt σ4 H4 fun b H5 => if b = true then te σ4 H5 fun y H6 => H6 D = some (.lst ys) ∧ Pv (i + 1) (ys ++ [y]) (upd H6 D (.lst (ys ++ [y]))) else Pv (i + 1) ys H5)
    (hd : ∀ ys H, Pv n ys H → R H) :
    ∃ W : Nat → Nat → List V → Hp → Prop, (∃ m, W 0 m [] (upd H1 D (.lst []))) ∧ ∀ i m ys H2, W i m ys H2 → H2 D = some (.lst ys) ∧
      (((Itr lo n).stop i H2 ∧ R H2) ∨ ((Itr lo n).go i H2 ∧ ys.length < sizeLine ∧ ∃ N : List V → Hp → Prop, (∀ ys' H', N ys' H' → ∃ m', m' < m ∧ W (i + 1) m' ys' H') ∧ ∀ x H3, (Itr lo n).yld i H2 x H3 → g x σ0 H3 fun σ4 H4 => tt σ4 H4 fun b H5 =>
        if b = true then te σ4 H5 fun y H6 => H6 D = some (.lst ys) ∧ N (ys ++ [y]) (upd H6 D (.lst (ys ++ [y]))) else N ys H5)) := by
  refine ⟨fun i m ys H => m = n - i ∧ i ≤ n ∧ Pv i ys H, ⟨n, by simp, Nat.zero_le _, h0⟩, ?_⟩
  rintro i m ys H2 ⟨rfl, hi, p⟩
  obtain ⟨hD, hly⟩ := hl i ys H2 hi p
  refine ⟨hD, ?_⟩
  by_cases hlt : i < n
  · refine .inr ⟨hlt, by omega, Pv (i + 1), fun ys' H' p' => ⟨n - (i + 1), by omega, rfl, hlt, p'⟩, fun x H3 y => ?_⟩
    obtain ⟨e, y⟩ := y
    subst e y
    exact hs i ys _ hlt p
  · have e : i = n := by omega
    subst e
    exact .inl ⟨Nat.le_refl _, hd ys H2 p⟩
end L2

set_option Elab.async false
set_option linter.all false
set_option maxRecDepth 100000
namespace L2
open PySem PySem.Spec PyProof.Rows
def CDivB (i j : Int) : Prop := 0 < j ∧ j ≤ 10 ^ 70
section
variable {X : Cx}
theorem op_fdivB : OpR X (binaryOp .FloorDiv) (rI CDivB fun i j => .int (i / j)) := opI fun i j _ _ _ _ _ hc q => by
  have h1 : (0 : Int) < j := hc.1
  have h2 : j ≤ 10 ^ 70 := hc.2
  refine floordiv_int (by omega) ?_ (.inl (PyProof.noPylong_of_log2 ?_))
  · rw [Int.fdiv_eq_ediv_of_nonneg _ (by omega)]
    exact q
  · have h3 : j.natAbs < 2 ^ 300 := by
      have : (j.natAbs : Int) = j := by omega
      have h4 : (10 : Int) ^ 70 < 2 ^ 300 := by decide
      omega
    have h5 : j.natAbs.log2 < 300 := (Nat.log2_lt (by omega)).mpr h3
    omega
/-- isinstance(x, C), C a built-in type -/
theorem call_isinst : CallR X (.builtin "isinstance") (fun xs H Q => ∃ x n t b, xs = [x, .ty n] ∧ TyOf X.K H x t ∧ PySem.W.kitOne X.K t (.type n) = some b ∧ Q (.bl b) H) := by
  intro pins s σ H xs us Q I r h
  obtain ⟨x, n, t, b, rfl, ty, e, q⟩ := h
  obtain ⟨u, v, rfl, ru, rv⟩ := Vals.two r
  cases rv
  exact isinst_ok I ru ty e fun tk => ⟨.bl b, H, I.tok _, rfl, q⟩
end
def eqVs (xs ys : List V) : Bool := xs.length == ys.length && (xs.zip ys).all fun p => eqV p.1 p.2
theorem range_all_zip : ∀ (xs ys : List V), xs.length = ys.length → ((List.range xs.length).all fun j => eqV (xs.getD j .non) (ys.getD j .non)) = (xs.zip ys).all fun p => eqV p.1 p.2
  | [], [], _ => rfl
  | x :: xs, y :: ys, h => by
    have ih := range_all_zip xs ys (by simpa using h)
    rw [List.length_cons, List.range_succ_eq_map, List.all_cons, List.all_map, List.zip_cons_cons, List.all_cons, ← ih]
    rfl
  | [], _ :: _, h => by simp at h
  | _ :: _, [], h => by simp at h
theorem range_all_zip' : ∀ (xs ys : List V), ((List.range (min xs.length ys.length)).all fun j => eqV (xs.getD j .non) (ys.getD j .non)) = (xs.zip ys).all fun p => eqV p.1 p.2
  | [], ys => by simp
  | x :: xs, [] => by simp
  | x :: xs, y :: ys => by
    have ih := range_all_zip' xs ys
    rw [List.length_cons, List.length_cons, Nat.succ_min_succ, Nat.succ_eq_add_one, List.range_succ_eq_map, List.all_cons, List.all_map, List.zip_cons_cons, List.all_cons, ← ih]
    rfl
def rEqD (K : PySem.W.Frag) (neg : Bool) : R2 := fun x y H Q => ∃ l b xs ys, x = .ref l ∧ y = .ref b ∧ ((SqL K H l xs ∧ SqL K H b ys) ∨ (SqT K H l xs ∧ SqT K H b ys)) ∧ xs.all flatV = true ∧ ys.all flatV = true ∧
  Q (.bl (if neg then !eqVs xs ys else eqVs xs ys)) H
section
variable {X : Cx}
theorem items_eqAt {A : Around} {s : Shared} {xs ys : List V} {us ws : List Value} (r : Vals xs us) (q : Vals ys ws) (fx : xs.all flatV = true) (fy : ys.all flatV = true) :
    ∀ j (h1 : j < us.toArray.size) (h2 : j < ws.toArray.size), SeqAt.EqAt A s us.toArray[j] ws.toArray[j] (eqV (xs.getD j .non) (ys.getD j .non)) := by
  intro j h1 h2
  have l1 := r.length
  have l2 := q.length
  simp only [List.size_toArray] at h1 h2
  have hx : xs[j]? = some xs[j] := List.getElem?_eq_getElem (by omega)
  have hy : ys[j]? = some ys[j] := List.getElem?_eq_getElem (by omega)
  obtain ⟨u, eu, ru⟩ := r.get hx
  obtain ⟨v, ev, rv⟩ := q.get hy
  have e1 : us.toArray[j] = u := by
    have := (List.getElem?_eq_some_iff.mp eu).2
    simpa using this
  have e2 : ws.toArray[j] = v := by
    have := (List.getElem?_eq_some_iff.mp ev).2
    simpa using this
  have e3 : xs.getD j .non = xs[j] := by rw [List.getD_eq_getElem?_getD, hx]; rfl
  have e4 : ys.getD j .non = ys[j] := by rw [List.getD_eq_getElem?_getD, hy]; rfl
  rw [e1, e2, e3, e4]
  exact eqAt_V ru rv (List.all_eq_true.mp fx _ (List.getElem_mem _)) (List.all_eq_true.mp fy _ (List.getElem_mem _))
theorem op_eqD (hu : X.A.units + 1 < cLine) : OpR X (compareOp .Eq) (rEqD X.K false) := by
  intro pins s σ H x y v u Q I rx ry h
  obtain ⟨l, b, xs, ys, rfl, rfl, hq, fx, fy, q⟩ := h
  cases rx
  cases ry
  rcases hq with ⟨h1, h2⟩ | ⟨h1, h2⟩
  · obtain ⟨us, r1, p1, z1⟩ := I.list h1
    obtain ⟨ws, r2, p2, z2⟩ := I.list h2
    have l1 := r1.length
    have l2 := r2.length
    by_cases hl : xs.length = ys.length
    · refine SeqAt.eq_listAt p1.isList p2.isList (by simp; omega) (by omega) (items_eqAt r1 r2 fx fy) ⟨.bl _, H, I, rfl, ?_⟩
      have e : (List.range us.toArray.size).all (fun j => eqV (xs.getD j .non) (ys.getD j .non)) = eqVs xs ys := by
        unfold eqVs
        rw [List.size_toArray, ← l1, range_all_zip xs ys hl, hl]
        simp
      rw [e]
      exact q
    · refine SeqAt.eq_list_lengthsAt p1.isList p2.isList (by simp; omega) (by omega) ⟨.bl _, H, I, rfl, ?_⟩
      have e : eqVs xs ys = false := by unfold eqVs; simp [hl]
      rw [← e]
      exact q
  · obtain ⟨us, r1, p1, z1⟩ := I.tuple h1
    obtain ⟨ws, r2, p2, z2⟩ := I.tuple h2
    have l1 := r1.length
    have l2 := r2.length
    refine SeqAt.eq_tupleAt p1 p2 (by omega) (items_eqAt r1 r2 fx fy) ⟨.bl _, H, I, rfl, ?_⟩
    have e : ((List.range (min us.toArray.size ws.toArray.size)).all (fun j => eqV (xs.getD j .non) (ys.getD j .non)) && us.toArray.size == ws.toArray.size) = eqVs xs ys := by
      unfold eqVs
      rw [List.size_toArray, List.size_toArray, ← l1, ← l2, range_all_zip' xs ys, Bool.and_comm]
    rw [e]
    exact q
end

/-- the items of a list or tuple that stands at p -/
def seqV (H : Hp) (p : Addr) : Option (List V) := match H p with
  | some (.lst xs) => some xs
  | some (.tup xs) => some xs
  | some (.frz _ (.lst xs)) => some xs
  | _ => none
theorem seqV_cases {K : PySem.W.Frag} {H : Hp} {p : Addr} {xs : List V} (h : seqV H p = some xs) : SqL K H p xs ∨ SqT K H p xs := by
  unfold seqV at h
  split at h
  · rename_i e; cases h; exact .inl (.of e)
  · rename_i e; cases h; exact .inr (.of e)
  · rename_i o ys e; cases h; exact .inl (.inl (.inr ⟨o, e⟩))
  · cases h
def rIxF : R2 := fun x y H Q => ∃ p i xs v, x = .ref p ∧ y = .int i ∧ seqV H p = some xs ∧ atI xs i = some v ∧ Q v H
/-- the type of a value -/
def tyF (x : V) (H : Hp) : Option String := match x with
  | .non => some "NoneType"
  | .bl _ => some "bool"
  | .int _ => some "int"
  | .str _ => some "str"
  | .ref a => match H a with
    | some (.lst _) => some "list"
    | some (.frz _ (.lst _)) => some "list"
    | some (.tup _) => some "tuple"
    | some (.dK _) => some "dict"
    | some (.dT _) => some "dict"
    | _ => none
  | _ => none
def isTy (t n : String) : Bool := t == n || (t == "bool" && n == "int")
theorem tyF_of {K : PySem.W.Frag} {x : V} {H : Hp} {t : String} (h : tyF x H = some t) : TyOf K H x (.type t) ∧ (t = "NoneType" ∨ t = "bool" ∨ t = "int" ∨ t = "str" ∨ t = "list" ∨ t = "tuple" ∨ t = "dict") := by
  unfold tyF at h
  split at h
  · cases h; exact ⟨.non, by simp⟩
  · cases h; exact ⟨.bl _, by simp⟩
  · cases h; exact ⟨.int _, by simp⟩
  · cases h; exact ⟨.str _, by simp⟩
  · split at h
    · rename_i e; cases h; exact ⟨.lst e, by simp⟩
    · rename_i e; cases h; exact ⟨.frz e, by simp⟩
    · rename_i e; cases h; exact ⟨.tup e, by simp⟩
    · rename_i e; cases h; exact ⟨.dK e, by simp⟩
    · rename_i e; cases h; exact ⟨.dT e, by simp⟩
    · cases h
  · cases h
theorem kitOne_ty {K : PySem.W.Frag} {t n : String} (h : t = "NoneType" ∨ t = "bool" ∨ t = "int" ∨ t = "str" ∨ t = "list" ∨ t = "tuple" ∨ t = "dict") (hn : n = "bool" ∨ n = "int" ∨ n = "str" ∨ n = "list" ∨ n = "tuple" ∨ n = "dict") :
    PySem.W.kitOne K (.type t) (.type n) = some (isTy t n) := by
  rcases h with rfl | rfl | rfl | rfl | rfl | rfl | rfl <;> rcases hn with rfl | rfl | rfl | rfl | rfl | rfl <;> rfl
def lenF (x : V) (H : Hp) : Option Nat := match x with
  | .str y => if y.length ≤ sizeLine then some y.length else none
  | .ref p => match H p with
    | some (.lst xs) => some xs.length
    | some (.tup xs) => some xs.length
    | some (.frz _ (.lst xs)) => some xs.length
    | _ => none
  | _ => none
theorem lenF_of {K : PySem.W.Frag} {x : V} {H : Hp} {n : Nat} (h : lenF x H = some n) : LenV K x H n := by
  unfold lenF at h
  split at h
  · split at h
    · rename_i z; cases h; exact ⟨z, rfl⟩
    · cases h
  · split at h
    · rename_i e; cases h; exact .inl ⟨_, .of e, rfl⟩
    · rename_i e; cases h; exact .inr ⟨_, .of e, rfl⟩
    · rename_i o xs e; cases h; exact .inl ⟨_, .inl (.inr ⟨o, e⟩), rfl⟩
    · cases h
  · cases h
/-- two of one kind, both lists or both tuples -/
def kindV (H : Hp) (p : Addr) : Option Bool := match H p with
  | some (.lst _) => some true
  | some (.frz _ (.lst _)) => some true
  | some (.tup _) => some false
  | _ => none
theorem kindV_l {K : PySem.W.Frag} {H : Hp} {p : Addr} {xs : List V} (h : seqV H p = some xs) (k : kindV H p = some true) : SqL K H p xs := by
  rcases seqV_cases (K := K) h with q | q
  · exact q
  · unfold seqV at h
    unfold kindV at k
    split at h
    · rename_i e; cases h; exact .of e
    · rename_i e; rw [e] at k; cases k
    · rename_i o ys e; cases h; exact .inl (.inr ⟨o, e⟩)
    · cases h
theorem kindV_t {K : PySem.W.Frag} {H : Hp} {p : Addr} {xs : List V} (h : seqV H p = some xs) (k : kindV H p = some false) : SqT K H p xs := by
  unfold seqV at h
  unfold kindV at k
  split at h
  · rename_i e; rw [e] at k; cases k
  · rename_i e; cases h; exact .of e
  · rename_i o ys e; rw [e] at k; cases k
  · cases h
def rEqF (neg : Bool) : R2 := fun x y H Q => ∃ l b k xs ys, x = .ref l ∧ y = .ref b ∧ seqV H l = some xs ∧ seqV H b = some ys ∧ kindV H l = some k ∧ kindV H b = some k ∧ xs.all flatV = true ∧ ys.all flatV = true ∧
  Q (.bl (if neg then !eqVs xs ys else eqVs xs ys)) H
theorem rEqF_D {K : PySem.W.Frag} {neg : Bool} {x y : V} {H : Hp} {Q : VK} (h : rEqF neg x y H Q) : rEqD K neg x y H Q := by
  obtain ⟨l, b, k, xs, ys, e1, e2, h1, h2, k1, k2, r⟩ := h
  cases k with
  | true => exact ⟨l, b, xs, ys, e1, e2, .inl ⟨kindV_l h1 k1, kindV_l h2 k2⟩, r⟩
  | false => exact ⟨l, b, xs, ys, e1, e2, .inr ⟨kindV_t h1 k1, kindV_t h2 k2⟩, r⟩
section
variable {X : Cx}
theorem ix_F : IxR X rIxF := by
  intro value slice pins s σ H x y v u Q I rx ry h hs
  obtain ⟨p, i, xs, z, e1, e2, hq, he, q⟩ := h
  rcases seqV_cases (K := X.K) hq with g | g
  · exact ix_list value slice pins s σ H x y v u Q I rx ry ⟨p, xs, i, z, e1, e2, g, he, q⟩ hs
  · exact ix_tup value slice pins s σ H x y v u Q I rx ry ⟨p, xs, i, z, e1, e2, g, he, q⟩ hs
theorem call_isF : CallR X (.builtin "isinstance") (fun xs H Q => ∃ x n t, xs = [x, .ty n] ∧ tyF x H = some t ∧ (n = "bool" ∨ n = "int" ∨ n = "str" ∨ n = "list" ∨ n = "tuple" ∨ n = "dict") ∧ Q (.bl (isTy t n)) H) := by
  intro pins s σ H xs us Q I r h
  obtain ⟨x, n, t, e, ht, hn, q⟩ := h
  obtain ⟨ty, h7⟩ := tyF_of (K := X.K) ht
  exact call_isinst pins s σ H xs us Q I r ⟨x, n, _, _, e, ty, kitOne_ty h7 hn, q⟩
theorem call_lenF : CallR X (.builtin "len") (fun xs H Q => ∃ x n, xs = [x] ∧ lenF x H = some n ∧ Q (.int n) H) := by
  intro pins s σ H xs us Q I r h
  obtain ⟨x, n, e, hl, q⟩ := h
  exact call_len pins s σ H xs us Q I r ⟨x, n, e, lenF_of hl, q⟩
theorem op_eqF (hu : X.A.units + 1 < cLine) : OpR X (compareOp .Eq) (rEqF false) := fun pins s σ H x y v u Q I rx ry h => op_eqD hu pins s σ H x y v u Q I rx ry (rEqF_D h)
end
theorem scal_int {i j : Int} : scal (.int i) (.int j) = true := rfl
theorem scal_bl {i j : Bool} : scal (.bl i) (.bl j) = true := rfl
theorem scal_str {i j : Str} : scal (.str i) (.str j) = true := rfl
theorem atI_0 {α : Type} {x : α} {r : List α} : atI (x :: r) 0 = some x := atI_nat (j := 0) rfl
theorem atI_1 {α : Type} {x y : α} {r : List α} : atI (x :: y :: r) 1 = some y := atI_nat (j := 1) rfl
theorem atI_2 {α : Type} {x y z : α} {r : List α} : atI (x :: y :: z :: r) 2 = some z := atI_nat (j := 2) rfl
theorem atI_3 {α : Type} {x y z w : α} {r : List α} : atI (x :: y :: z :: w :: r) 3 = some w := atI_nat (j := 3) rfl
theorem atI_4 {α : Type} {x y z w v : α} {r : List α} : atI (x :: y :: z :: w :: v :: r) 4 = some v := atI_nat (j := 4) rfl

theorem isTys : isTy "NoneType" "bool" = false ∧ isTy "NoneType" "int" = false ∧ isTy "NoneType" "str" = false ∧ isTy "NoneType" "list" = false ∧ isTy "NoneType" "tuple" = false ∧ isTy "NoneType" "dict" = false ∧ isTy "bool" "bool" = true ∧ isTy "bool" "int" = true ∧ isTy "bool" "str" = false ∧ isTy "bool" "list" = false ∧ isTy "bool" "tuple" = false ∧ isTy "bool" "dict" = false ∧ isTy "int" "bool" = false ∧ isTy "int" "int" = true ∧ isTy "int" "str" = false ∧ isTy "int" "list" = false ∧ isTy "int" "tuple" = false ∧ isTy "int" "dict" = false ∧ isTy "str" "bool" = false ∧ isTy "str" "int" = false ∧ isTy "str" "str" = true ∧ isTy "str" "list" = false ∧ isTy "str" "tuple" = false ∧ isTy "str" "dict" = false ∧ isTy "list" "bool" = false ∧ isTy "list" "int" = false ∧ isTy "list" "str" = false ∧ isTy "list" "list" = true ∧ isTy "list" "tuple" = false ∧ isTy "list" "dict" = false ∧ isTy "tuple" "bool" = false ∧ isTy "tuple" "int" = false ∧ isTy "tuple" "str" = false ∧ isTy "tuple" "list" = false ∧ isTy "tuple" "tuple" = true ∧ isTy "tuple" "dict" = false ∧ isTy "dict" "bool" = false ∧ isTy "dict" "int" = false ∧ isTy "dict" "str" = false ∧ isTy "dict" "list" = false ∧ isTy "dict" "tuple" = false ∧ isTy "dict" "dict" = true := by decide
def tyO : Option HO → Option String
  | some (.lst _) => some "list"
  | some (.frz _ (.lst _)) => some "list"
  | some (.tup _) => some "tuple"
  | some (.dK _) => some "dict"
  | some (.dT _) => some "dict"
  | _ => none
def lenO : Option HO → Option Nat
  | some (.lst xs) => some xs.length
  | some (.tup xs) => some xs.length
  | some (.frz _ (.lst xs)) => some xs.length
  | _ => none
def seqO : Option HO → Option (List V)
  | some (.lst xs) => some xs
  | some (.tup xs) => some xs
  | some (.frz _ (.lst xs)) => some xs
  | _ => none
def kindO : Option HO → Option Bool
  | some (.lst _) => some true
  | some (.frz _ (.lst _)) => some true
  | some (.tup _) => some false
  | _ => none
theorem tyF_ref {a : Addr} {H : Hp} : tyF (.ref a) H = tyO (H a) := rfl
theorem tyF_int {i : Int} {H : Hp} : tyF (.int i) H = some "int" := rfl
theorem tyF_bl {i : Bool} {H : Hp} : tyF (.bl i) H = some "bool" := rfl
theorem tyF_str {i : Str} {H : Hp} : tyF (.str i) H = some "str" := rfl
theorem tyF_non {H : Hp} : tyF .non H = some "NoneType" := rfl
theorem lenF_ref {a : Addr} {H : Hp} : lenF (.ref a) H = lenO (H a) := rfl
theorem seqV_eq {a : Addr} {H : Hp} : seqV H a = seqO (H a) := rfl
theorem kindV_eq {a : Addr} {H : Hp} : kindV H a = kindO (H a) := rfl
theorem tyO_lst {xs : List V} : tyO (some (.lst xs)) = some "list" := rfl
theorem tyO_frz {o : Obj} {xs : List V} : tyO (some (.frz o (.lst xs))) = some "list" := rfl
theorem tyO_tup {xs : List V} : tyO (some (.tup xs)) = some "tuple" := rfl
theorem tyO_dK {xs} : tyO (some (.dK xs)) = some "dict" := rfl
theorem lenO_lst {xs : List V} : lenO (some (.lst xs)) = some xs.length := rfl
theorem lenO_frz {o : Obj} {xs : List V} : lenO (some (.frz o (.lst xs))) = some xs.length := rfl
theorem lenO_tup {xs : List V} : lenO (some (.tup xs)) = some xs.length := rfl
theorem seqO_lst {xs : List V} : seqO (some (.lst xs)) = some xs := rfl
theorem seqO_frz {o : Obj} {xs : List V} : seqO (some (.frz o (.lst xs))) = some xs := rfl
theorem seqO_tup {xs : List V} : seqO (some (.tup xs)) = some xs := rfl
theorem kindO_lst {xs : List V} : kindO (some (.lst xs)) = some true := rfl
theorem kindO_frz {o : Obj} {xs : List V} : kindO (some (.frz o (.lst xs))) = some true := rfl
theorem kindO_tup {xs : List V} : kindO (some (.tup xs)) = some false := rfl

theorem upd_old {H : Hp} {p q : Addr} {o u : HO} (hq : H q = some o) (hp : H p = none) : upd H p u q = some o := by rw [upd_ne (ne_of_none hq hp)]; exact hq
theorem Same.laid {H : Hp} {p : Addr} {u : HO} (hp : H p = none) : Same H (upd H p u) := fun _ _ h => upd_old h hp
theorem Same.step {H H1 : Hp} {p : Addr} {u : HO} (s : Same H H1) (hp : H1 p = none) : Same H (upd H1 p u) := s.trans (.laid hp)
theorem of_map_get {α : Type} {f : α → V} {l : List α} {i : Nat} {x : V} (h : (l.map f)[i]? = some x) : ∃ z, l[i]? = some z ∧ x = f z := by
  rw [List.getElem?_map] at h
  cases e : l[i]? with
  | none => rw [e] at h; cases h
  | some z => rw [e] at h; exact ⟨z, rfl, (Option.some.inj h).symm⟩
end L2

set_option Elab.async false
set_option linter.all false
set_option maxRecDepth 100000
namespace L2
open PySem PySem.Spec PyProof.Rows
section
variable {prog : Program} {w : World} {A : Around} {E : Value → Shared → Prop} {s : Shared}
end

section
variable {X : Cx} {tg : Expr}
end
end L2

set_option Elab.async false
set_option linter.all false
set_option maxRecDepth 100000
namespace L2
open PySem PySem.Spec PyProof.Rows
def Its (z : Str) : It := ⟨fun i _ => i < z.cps.size, fun i H x H' => H' = H ∧ ∃ c, z.cps[i]? = some c ∧ x = .str ⟨#[c]⟩, fun i _ => z.cps.size ≤ i⟩
theorem turn_str {P : Program} {w : World} {K : PySem.W.Frag} {tg : Expr} (it : Addr) (z : Str) (t : Tok) : Turn P w K tg (Its z) [it] it (fun i h => h.IsStrIter it "str_ascii_iterator" z t i) where
  mem := by simp
  obj := fun i h st b hb => by
    have e : b = it := by simpa using hb
    subst e
    obtain ⟨o, e, c, d⟩ := st
    exact ⟨o, e, fun v z => by rw [d] at z; cases z⟩
  keep := fun i h h' st k => let ⟨o, ho, r⟩ := st; ⟨o, k it (by simp) o ho, r⟩
  item := by
    intro X hP hw hK hc i pins s σ H E I hf st hg
    subst hP hw hK
    obtain ⟨f0, f1, f2, f3, f4, f5⟩ := hf it (by simp)
    have hi : i < z.cps.size := hg
    refine (Walks.strAscii (prog := X.prog) (w := X.w) (I.ok.hd hc) it z t).item i s _ _ hi st fun v h' tk hv st' kk => ?_
    obtain ⟨c, u, hcu, rfl⟩ := hv
    have I1 : Inv X pins σ H { s with heap := h', toks := tk } := I.turned (fun b o hb e => kk b o (by simpa using hb) e) f0 f1 f3 f4 f5
    obtain ⟨o, e1, e2, e3⟩ := id st'
    exact ⟨_, rfl, go_of (s := { s with heap := h', toks := tk }) e1 e2 e3 (by decide) ⟨.str ⟨#[c]⟩, H, I1, ⟨u, rfl⟩, ⟨rfl, c, hcu, rfl⟩, st', fun b hb => (hf b hb).1⟩⟩
  done := by
    intro X hP hw hK hc i pins s σ H E I hf st hg
    subst hP hw hK
    obtain ⟨f0, f1, f2, f3, f4, f5⟩ := hf it (by simp)
    have hi : z.cps.size ≤ i := hg
    exact wpAny_pyNext_ascii_end (I.ok.hd hc) st (by simp; omega) fun h' eb => ⟨rfl, I.turned (t' := s.toks) (fun b o hb e => eb b o hb e) f0 f1 f3 f4 f5⟩
  self := fun _ _ _ _ _ st h => wpAny_pyIter_striter_ascii st h
section
variable {X : Cx} {tg : Expr}
def iStr (tl : TE) : TI := fun σ H R => tl σ H fun x H1 => ∃ z, x = .str z ∧ z.cps.all (· < 128) = true ∧ R (Its z) H1
theorem pi_str {l : Expr} {tl : TE} (hl : PE X l tl) : PI X tg l (iStr tl) := by
  intro pins s σ H R I h
  refine thn (hl pins s σ H _ I h) fun v s1 ⟨x, H1, I1, r1, q1⟩ => ?_
  obtain ⟨z, e, ha, q⟩ := q1
  subst e
  obtain ⟨t, rfl⟩ := r1
  refine wpAny_pyIter_ascii ha ?_
  refine ⟨s1.heap.objs.size, [s1.heap.objs.size], _, _, H1, rfl, I1.kept (t' := s1.toks) fun b o e => Heap.get?_push_of_some _ e, turn_str _ z t, ⟨_, Heap.get?_push_size _ rfl, rfl, rfl⟩, fun b hb => ?_, q⟩
  have e : b = s1.heap.objs.size := by simpa using hb
  subst e
  exact I1.fpOk (Nat.le_refl _) (I1.hok.fresh (Nat.le_refl _))
def rSlS : V → Option Int → Option Int → Hp → VK → Prop := fun x lo hi H Q => ∃ z, x = .str z ∧ z.length ≤ sizeLine ∧ Q (.str (Txt.slice z lo hi)) H
theorem sl_str : SlR X rSlS := by
  intro pins s σ H x v vl vu lo hi sl Q I rx hs pl pu h
  obtain ⟨z, rfl, hz, q⟩ := h
  obtain ⟨t, rfl⟩ := rx
  refine ⟨"str", _, F.slot_str_getitem.lookup, typeIs_str _ _ _, ?_⟩
  cases pl with
  | none =>
    cases pu with
    | none => exact wpAny_getItem_str_slice (l := none) (u := none) (st := none) hs rfl (post_val_or_str ⟨Nat.le_trans (Txt.slice_le z _ _) hz, fun t' k => ⟨.str _, H, I.tok _, ⟨_, rfl⟩, q⟩⟩)
    | int j uj => exact wpAny_getItem_str_slice (l := none) (u := some (j, uj)) (st := none) hs rfl (post_val_or_str ⟨Nat.le_trans (Txt.slice_le z _ _) hz, fun t' k => ⟨.str _, H, I.tok _, ⟨_, rfl⟩, q⟩⟩)
  | int i ui =>
    cases pu with
    | none => exact wpAny_getItem_str_slice (l := some (i, ui)) (u := none) (st := none) hs rfl (post_val_or_str ⟨Nat.le_trans (Txt.slice_le z _ _) hz, fun t' k => ⟨.str _, H, I.tok _, ⟨_, rfl⟩, q⟩⟩)
    | int j uj => exact wpAny_getItem_str_slice (l := some (i, ui)) (u := some (j, uj)) (st := none) hs rfl (post_val_or_str ⟨Nat.le_trans (Txt.slice_le z _ _) hz, fun t' k => ⟨.str _, H, I.tok _, ⟨_, rfl⟩, q⟩⟩)
theorem strsAre_of {zs : List Str} : ∀ {us : List Value}, Vals (zs.map V.str) us → StrsAre us zs := by
  induction zs with
  | nil => intro us r; cases r; exact .nil
  | cons z zs ih =>
    intro us r
    cases r with
    | cons r1 r2 =>
      obtain ⟨t, e⟩ := r1
      subst e
      exact .cons z t (ih r2)
def rJoin : V → List V → Hp → VK → Prop := fun x xs H Q => ∃ sep l zs, x = .str sep ∧ xs = [.ref l] ∧ H l = some (.lst (zs.map V.str)) ∧ (zs.map (·.length)).sum + zs.length * sep.length ≤ 16777216 ∧ Q (.str (Txt.join sep zs)) H
theorem mt_join : MtR X "str.join" rJoin := by
  intro pins s σ H x xs v us Q I rx rs h
  obtain ⟨sep, l, zs, rfl, rfl, hl, hz, q⟩ := h
  obtain ⟨t, rfl⟩ := rx
  obtain ⟨u, rfl, ru⟩ := rs.one
  cases ru
  obtain ⟨its, r, pl, _⟩ := I.list (.of hl)
  exact join_list pl.isList (by simpa using strsAre_of r) hz fun t' k => ⟨.str _, H, I.tok _, ⟨_, rfl⟩, q⟩
theorem keys_vals {P : Program} {w : World} : ∀ {kvs : List (Key × V)} {vs : List (Key × Value)} {acc : List Value}, KV kvs vs → acc.length = vs.length → (∀ (j : Nat) (v : Value), acc[j]? = some v → ∃ (k : Key) (x : Value), vs[j]? = some (k, x) ∧ (mixKind P w).is k v = true) → Vals (kvs.map fun p => kV p.1) acc := by
  intro kvs vs acc r
  unfold KV at r
  induction r generalizing acc with
  | nil =>
    intro hl h
    cases acc with
    | nil => exact .nil
    | cons _ _ => simp at hl
  | @cons p q kvs vs r t ih =>
    intro hl h
    cases acc with
    | nil => simp at hl
    | cons u acc =>
      refine .cons ?_ (ih (by simpa using hl) fun j v e => by simpa using h (j + 1) v (by simpa using e))
      obtain ⟨k, x, e, hk⟩ := h 0 u (by simp)
      simp at e
      have ek : q.1 = k := by rw [e]
      show RelV (kV p.1) u
      rw [r.1, ek]
      rcases keyIs_shape (show keyIs k u = true from hk) with ⟨i, t', rfl, rfl⟩ | ⟨z, t', rfl, rfl⟩
      · exact ⟨t', rfl⟩
      · exact ⟨t', rfl⟩
theorem call_list_dict (hc : X.calm = true) : CallR X (.type "list") (fun xs H Q => ∃ d kvs, xs = [.ref d] ∧ H d = some (.dK kvs) ∧ ∀ l, H l = none → Q (.ref l) (upd H l (.lst (kvs.map fun p => kV p.1)))) := by
  intro pins s σ H xs us Q I r h
  obtain ⟨d, kvs, rfl, hd, q⟩ := h
  obtain ⟨u, rfl, ru⟩ := vals1 r
  cases ru
  obtain ⟨hz, hS, vs, rk, m⟩ : kvs.length ≤ sizeLine ∧ (d == sysModules) = false ∧ ∃ vs, KV kvs vs ∧ s.heap.DictOf (mixKind X.prog X.w) d vs := I.hok d _ hd
  obtain ⟨ep, hat⟩ := m.dictAt
  have hlen : kvs.length = vs.length := Paired.length rk
  refine PySem.W.kdl_call (PySem.W.kdl_dict (knd := mixKind X.prog X.w) (kvs := vs) (ep := ep) hS) (I.ok.hd hc) hat (by omega) fun h' tk acc c hk hD hacc => ?_
  refine ⟨.ref s.heap.objs.size, _, I.laid (t' := tk) (o := .lst (kvs.map fun p => kV p.1)) hk (Nat.le_refl _) ?_, rfl, q _ (I.hok.fresh (Nat.le_refl _))⟩
  refine ⟨by rw [List.length_map]; exact hz, acc.toList, c, keys_vals (P := X.prog) (w := X.w) rk (by rw [Array.length_toList]; exact hacc.1) (fun j v e => hacc.2 j v (by rw [← Array.getElem?_toList]; exact e)), ?_⟩
  rw [Array.toArray_toList]
  exact hD
end
section
variable {prog : Program} {w : World} {A : Around} {E : Value → Shared → Prop} {s : Shared} {T : String} {r d : Addr} {n : Nat} {P : Nat → Value → Prop} {OK : Heap → Prop} {Q : Value → Shared → Prop}
end

section
variable {X : Cx}
end
end L2

set_option Elab.async false
set_option linter.all false
set_option maxRecDepth 100000
namespace L2
open PySem PySem.Spec PyProof.Rows
abbrev bmVE : List Value := [.type "ValueError", .type "Exception", .type "BaseException", .type "object"]
def XCls (K : PySem.W.Frag) (C : Addr) : Prop := PySem.W.excIn K C bmVE "ValueError.__new__" = true
theorem XCls.obj {K : PySem.W.Frag} {h : Heap} {C : Addr} (X : K.In h) (q : XCls K C) : ∃ bm N nm qn bs hdct sn sub ab col dd k0 k1 k2 k3 k5 mN,
    h.get? C = some (excClassObj nm qn C N bs bm hdct sn sub ab col dd k0 k1 k2 k3 k5 "ValueError.__new__") ∧ h.Ns N mN ∧ mN "__init__" = none ∧ OwnTail h bmVE bm := by
  have q : PySem.W.excIn K C bmVE "ValueError.__new__" = true := q
  unfold PySem.W.excIn at q
  split at q
  · rename_i dct cdt sls found
    split at q
    · rename_i own tailv s0 s1 s2 s3 ident s5 hmro hslots
      simp only [Bool.and_eq_true, beq_iff_eq, Bool.not_eq_true'] at q
      obtain ⟨⟨⟨⟨⟨e1, e2⟩, e3⟩, e4⟩, e5⟩, e6⟩ := q
      subst e1
      subst e2
      obtain ⟨c1, c2, c3, c4, c5, c6, c7, c8, c9, c10, c11⟩ := cdt
      dsimp only at hmro e3 e5 e6
      subst hmro
      subst e3
      have sl6 : sls = #[s0, s1, s2, s3, some (.builtin "ValueError.__new__"), s5] := by
        cases sls with
        | mk l => simp only at hslots; rw [hslots]
      subst sl6
      exact ⟨tailv, c4, c1, c5, c2, c6, c7, c8, c9, c10, dct, s0, s1, s2, s3, s5, _, X _ _ found, .of_isNs (PySem.W.isNs_of_in X e5), PySem.W.nsMap_none_of_in X e5 e6, PySem.W.tail_of_in X e4⟩
    · cases q
  · cases q
theorem HOk.obj {P : Program} {w : World} {H : Hp} {h : Heap} {a : Addr} {u : HO} (x : HOk P w H h) (q : H a = some u) : ∃ ob, h.get? a = some ob := by
  have x := x a u q
  cases u with
  | lst xs => obtain ⟨_, _, _, _, e⟩ := x; exact ⟨_, e⟩
  | tup xs => obtain ⟨_, _, _, p⟩ := x; obtain ⟨_, e, _⟩ := p; exact ⟨_, e⟩
  | dK kvs => obtain ⟨_, _, _, _, o, _, _, e, _⟩ := x; exact ⟨_, e⟩
  | dT kvs => obtain ⟨_, _, _, _, o, _, _, e, _⟩ := x; exact ⟨_, e⟩
  | set S n => obtain ⟨o, _, _, _, e, _⟩ := x; exact ⟨_, e⟩
  | ins C dx fs => obtain ⟨_, _, _, e, _⟩ := x; exact ⟨_, e⟩
  | own y => exact x
  | xd fs => obtain ⟨_, ⟨_, _, _, e, _⟩, _⟩ := x; exact ⟨_, e⟩
  | rng lo hi => obtain ⟨_, _, _, e⟩ := x; exact ⟨_, e⟩
  | frz ob u => obtain ⟨e, _⟩ := x; exact ⟨_, e⟩
  | tbl ps => exact ⟨_, (show h.get? a = some _ from x)⟩
  | met f y => exact ⟨_, (show h.get? a = some _ from x)⟩
  | ext φ => obtain ⟨_, e, _⟩ := x; exact e
theorem Un.slide {fs : List Addr} {H H' : Hp} {h0 h1 h2 : Heap} (u : Un fs [] H H' h0 h1) (k : ∀ b o, (∃ o', h0.get? b = some o') → h1.get? b = some o → b ∉ fs → h2.get? b = some o)
    (sl : ∀ b o, h1.get? b = some o → b ∈ fs → ∃ s, h2.get? b = some { o with slots := s }) : Un fs [] H H' h0 h2 where
  keep := fun b o q n hb hx => k b o ⟨o, q⟩ (u.keep b o q n hb hx) hb
  slot := fun b o q n hb hx => by
    obtain ⟨s1, e1⟩ := u.slot b o q n hb hx
    obtain ⟨s2, e2⟩ := sl b _ e1 hb
    exact ⟨s2, e2⟩
  free := u.free
  there := fun b o q hx => by
    obtain ⟨o1, e1⟩ := u.there b o q hx
    by_cases hb : b ∈ fs
    · obtain ⟨s2, e2⟩ := sl b _ e1 hb
      exact ⟨_, e2⟩
    · exact ⟨o1, k b o1 ⟨o, q⟩ e1 hb⟩
  tups := u.tups
  frzs := u.frzs
  tbls := u.tbls
/-- how an exception lies behind a call: it flies over B, which holds all that is tracked and all that was there, but the frames -/
def CX1 (P : Program) (w : World) : CXT := fun outer H s E e s' => ∃ (ea t C : Addr) (B : Heap) (H' : Hp), e = .ref ea ∧ s'.os = s.os ∧ AllBare s'.gens ∧ Un (frs outer) [] H H' s.heap s'.heap ∧ HOk P w H' s'.heap ∧
  Heap.FlyingW B outer ea (.ref C) (.ref t) s'.heap ∧ (∀ b o, s'.heap.get? b = some o → b ∉ frs outer → ((∃ u, H' b = some u) ∨ ∃ o', s.heap.get? b = some o') → B.get? b = some o) ∧ E (.ref C) none H'
theorem pass1 {X : Cx} {P : Program} {w : World} : Passes (CX1 P w) X E0 := fun _ _ _ _ _ _ _ h => by
  obtain ⟨_, _, _, _, _, _, _, _, _, _, _, _, z⟩ := h
  exact z.elim
section
variable {X : Cx} {pins : List (Addr × Obj)} {σ : St} {H H' : Hp} {s s' : Shared}
theorem Inv.frameData (I : Inv X pins σ H s) {b : Addr} (hb : b ∈ frs X.stack) : ∃ o, s.heap.get? b = some o ∧ ∀ vs, o.data ≠ .fields vs := (I.stack.mem hb).2
/-- the heap moves on under a flying exception: all but the frames is kept -/
theorem Inv.flown (I : Inv X pins σ H s) {B h' : Heap} (un : Un (frs X.stack) [] H H' s.heap s'.heap) (hok : HOk X.prog X.w H' s'.heap) (ho : s'.os = s.os) (hg : AllBare s'.gens)
    (hB : ∀ b o, s'.heap.get? b = some o → b ∉ frs X.stack → ((∃ u, H' b = some u) ∨ ∃ o', s.heap.get? b = some o') → B.get? b = some o) (st : B.StaysIn h') (up : s'.heap.UpToSlots h') :
    Inv X pins σ H' { s' with heap := h' } ∧ HOk X.prog X.w H' h' ∧ Un (frs X.stack) [] H H' s.heap h' := by
  have I' : Inv X pins σ H' s' := I.call' ho un hok hg (ch := []) (fun b z => absurd z (by simp))
  have hok' : HOk X.prog X.w H' h' := fun a u e => by
    have nf : ∀ c v, H' c = some v → c ∉ frs X.stack := fun c v q z => by rw [I'.stkFree c z] at q; cases q
    have kk : ∀ c o, (∃ v, H' c = some v) → s'.heap.get? c = some o → h'.get? c = some o := fun c o ⟨v, q⟩ g => st c o (hB c o g (nf c v q) (.inl ⟨v, q⟩))
    refine (hok a u e).stay (fun c v hc g => kk c v ?_ g) (fun _ q => q) fun _ _ q => q
    rcases hc with rfl | hc
    · exact ⟨_, e⟩
    · exact ⟨_, hc⟩
  have un' : Un (frs X.stack) [] H H' s.heap h' := un.slide (fun b o z g hb => st b o (hB b o g hb (.inr z))) fun b o g hb => by
    obtain ⟨o1, e1, d1⟩ := I'.frameData hb
    rw [e1] at g
    cases g
    exact up b o e1 d1
  exact ⟨I.call' (s' := { s' with heap := h' }) ho un' hok' hg (ch := []) (fun b z => absurd z (by simp)), hok', un'⟩
end
/-- what is wanted of an exception that is raised in the body itself -/
def Flies (X : Cx) (E : XK) : Prop := ∀ (pins : List (Addr × Obj)) (σ : St) (H : Hp) (s : Shared) (e C : Addr) (h' : Heap) (vs : List Value), Inv X pins σ H s → Heap.MadeExcOf s.heap h' e (.ref C) vs → E (.ref C) none H → X.xe (.ref e) { s with heap := h' }
section
variable {P : Program} {w : World} {K : PySem.W.Frag} {mg : Str → Option Value} {base : Heap} {N : List Str} {qual : Str} {scope : Scope} {f : Addr} {cd : Value} {A : Around} {outer : List Env} {s₀ : Shared} {H₀ : Hp} {E : XK}
/-- an exception leaves a def: it lies behind the call -/
theorem fly_out {pins : List (Addr × Obj)} {σ : St} {H : Hp} {s : Shared} {ea t C : Addr} {B h' : Heap} (I : Inv (cxOf (CX1 P w) P w K mg base N qual scope f cd A outer s₀ H₀ E) pins σ H s)
    (hB : ∀ b o, s.heap.get? b = some o → b ∉ frs (envOfC qual scope s₀.heap.objs.size f cd :: outer) → ((∃ u, H b = some u) ∨ ∃ o', s₀.heap.get? b = some o') → B.get? b = some o)
    (fl : Heap.FlyingW B outer ea (.ref C) (.ref t) h') (up : s.heap.UpToSlots h') {s1 : Shared} (ho : s1.os = s.os) (hg : s1.gens = s.gens) (hE : E (.ref C) none H) :
    CX1 P w outer H₀ s₀ E (.ref ea) { s1 with heap := h' } := by
  have nL : ∀ b o, s₀.heap.get? b = some o → b ∉ frs outer → b ∉ frs (envOfC qual scope s₀.heap.objs.size f cd :: outer) := fun b o e hb z => by
    rcases List.mem_cons.mp (I.stkSub b z) with q | q
    · exact absurd (Heap.lt_size e) (by rw [q]; exact Nat.lt_irrefl _)
    · exact hb q
  have hst : B.StaysIn h' := fl.1
  have nf : ∀ c v, H c = some v → c ∉ frs (envOfC qual scope s₀.heap.objs.size f cd :: outer) := fun c v q z => by
    have := I.stkFree c z
    rw [this] at q; cases q
  have kk : ∀ c o, (∃ v, H c = some v) → s.heap.get? c = some o → h'.get? c = some o := fun c o ⟨v, q⟩ g => hst c o (hB c o g (nf c v q) (.inl ⟨v, q⟩))
  have ub : Un (frs outer) [] H₀ H s₀.heap s.heap := I.base
  refine ⟨ea, t, C, B, H, rfl, ho.trans I.os, by show AllBare s1.gens; rw [hg]; exact I.bare, ub.slide (fun b o ⟨o', z⟩ g hb => hst b o (hB b o g (nL b o' z hb) (.inr ⟨o', z⟩))) (fun b o g hb => ?_), fun a u e => ?_, fl, fun b o g hb z => ?_, hE⟩
  · have hb' : b ∈ frs (envOfC qual scope s₀.heap.objs.size f cd :: outer) := by
      unfold frs
      rw [List.filterMap_cons]
      exact List.mem_cons_of_mem _ hb
    obtain ⟨o1, e1, d1⟩ := I.frameData hb'
    rw [e1] at g
    cases g
    exact up b o e1 d1
  · refine (I.hok a u e).stay (fun c v hc g => kk c v ?_ g) (fun _ q => q) fun _ _ q => q
    rcases hc with rfl | hc
    · exact ⟨_, e⟩
    · exact ⟨_, hc⟩
  · rcases z with ⟨v, q⟩ | ⟨o', q⟩
    · obtain ⟨o1, e1⟩ := HOk.obj I.hok q
      have b1 := hB b o1 e1 (nf b v q) (.inl ⟨v, q⟩)
      have := hst b o1 b1
      rw [show h'.get? b = some o from g] at this
      cases this
      exact b1
    · obtain ⟨o1, e1⟩ := ub.there b o' q (by simp)
      have b1 := hB b o1 e1 (nL b o' q hb) (.inr ⟨o', q⟩)
      have := hst b o1 b1
      rw [show h'.get? b = some o from g] at this
      cases this
      exact b1
theorem flies_cx : Flies (cxOf (CX1 P w) P w K mg base N qual scope f cd A outer s₀ H₀ E) E := by
  intro pins σ H s e C h' vs I hx hE
  have hin : ∀ env ∈ (envOfC qual scope s₀.heap.objs.size f cd :: outer), ∀ b, env.frame = some b → b ∈ frs (envOfC qual scope s₀.heap.objs.size f cd :: outer) := fun env he b hb => List.mem_filterMap.mpr ⟨env, he, hb⟩
  show wpAny (model P w) (A.deeper (envOfC qual scope s₀.heap.objs.size f cd)) (leaving (envOfC qual scope s₀.heap.objs.size f cd) (.ref e)) (fun _ s'' => CX1 P w outer H₀ s₀ E (.ref e) s'') (fun e' s'' => CX1 P w outer H₀ s₀ E e' s'') { s with heap := h' }
  refine wpAny_leaves_madeW (base := PySem.W.hideAll s.heap (frs (envOfC qual scope s₀.heap.objs.size f cd :: outer))) I.ok.frames rfl (fun b o q => PySem.W.of_hideAll _ q) (PySem.W.funFrames_hide I.stack hin) hx fun h2 t x1 x2 x3 x4 => ?_
  exact fly_out I (fun b o g hb _ => PySem.W.hideAll_get _ g hb) x1 (fun b o g d => x4 b o (hx.keeps b o g) d) rfl rfl hE
theorem passes_cx : Passes (CX1 P w) (cxOf (CX1 P w) P w K mg base N qual scope f cd A outer s₀ H₀ E) E := by
  intro pins σ H s e s' I hq
  obtain ⟨ea, t, C, B, H', rfl, os, bare, un, hok, fl, hB, hE⟩ := hq
  show wpAny (model P w) (A.deeper (envOfC qual scope s₀.heap.objs.size f cd)) (leaving (envOfC qual scope s₀.heap.objs.size f cd) (.ref ea)) (fun _ s'' => CX1 P w outer H₀ s₀ E (.ref ea) s'') (fun e' s'' => CX1 P w outer H₀ s₀ E e' s'') s'
  have I' : Inv (cxOf (CX1 P w) P w K mg base N qual scope f cd A outer s₀ H₀ E) pins σ H' s' := I.call' os un hok bare (ch := []) (fun b z => absurd z (by simp))
  refine wpAny_leaves_onW I.ok.frames rfl fl fun h2 x1 x2 => ?_
  refine fly_out I' (fun b o g hb z => hB b o g hb ?_) x1 x2 rfl rfl hE
  rcases z with z | ⟨o', z⟩
  · exact .inl z
  · exact .inr ((show Un (frs outer) [] H₀ H s₀.heap s.heap from I.base).there b o' z (by simp))
end
section
variable {X : Cx}
/-- raise C(e, ..) -/
def tRaise (C : Addr) (E : XK) (t : TA) : TS := fun _ σ H => t σ H fun vs H1 => vs.length ≤ sizeLine ∧ E (.ref C) none H1
theorem ps_raise {x : Str} {np cpos pos : Pos} {e0 : Expr} {rest : List Expr} {C : Addr} {t : TA} {E : XK} (hc : X.calm = true) (q : XCls X.K C) (hg : Gl X x) (hm : X.mg x = some (.ref C)) (hf : Flies X E) (ha : PA X (e0 :: rest) t)
    (hdb : (x == ("__debug__" : Str)) = false := by decide) (he : starEach (e0 :: rest) X.env = (false, eval e0 X.env) :: starEach rest X.env := by rfl) (hpl : (backTo cpos (starEach rest X.env)).any (·.1) = false := by rfl) :
    PS X (.Raise (some (.Call (.Name x np) (e0 :: rest) [] cpos)) none pos) (tRaise C E t) := by
  intro pins s σ H D I h
  obtain ⟨bm, Nn, nm, qn, bs, hdct, sn, sub, ab, col, dd, k0, k1, k2, k3, k5, mN, hC, hN, hni, T⟩ := XCls.obj I.ok.mod.kin q
  refine wpAny_Raise_call_subU (C := C) (nm := nm) (q := qn) (N := Nn) (bs := bs) (bm := bm) (hdct := hdct) (sn := sn) (sub := sub) (ab := ab) (col := col) (dd := dd) (k0 := k0) (k1 := k1) (k2 := k2) (k3 := k3) (k5 := k5)
    PySem.F.excBase_ValueError (by decide) PySem.F.excBase_ValueError (mN := mN) (T.hasType PySem.F.excBase_ValueError.hasBase) (I.ok.hd hc) ?_ hni (ld_glob I hg hm ⟨rfl, ?_⟩ hdb)
  · rw [he]
    show (false || (backTo cpos (starEach rest X.env)).any (·.1)) = false
    rw [hpl]; rfl
  · have h1 := ha cpos pins s σ H _ I h
    rw [he] at h1 ⊢
    exact Calls.evalArgs_plain (thn h1 fun us s1 ⟨vs, H1, I1, r, z, hE⟩ => ⟨rfl, by rw [← r.length]; exact z, I1.bk _ _ hC, hN.keeps I1.bk, T.keeps I1.bk, fun h' e hx => hf pins σ H1 s1 e C h' us I1 hx hE⟩)
end

abbrev Cx.tr (X : Cx) (pn : List (Addr × Obj)) (W : Value → Shared → Prop) : Cx := { X with pn := pn, xe := W }
abbrev Cx.hdl (X : Cx) (e : Value) : Cx := { X with A := X.A.mark (some e), calm := false, xe := fun _ _ => False }
def PassesE (P : Program) (w : World) (X : Cx) (E : St → XK) : Prop := ∀ (pins : List (Addr × Obj)) (σ : St) (H : Hp) (s : Shared) (e : Value) (s' : Shared), Inv X pins σ H s → CX1 P w X.stack H s (E σ) e s' → X.xe e s'
def EX (C : Addr) (R : St → Hp → Prop) : St → XK := fun σ cls _ H' => cls = .ref C ∧ R σ H'
section
variable {X : Cx} {pins : List (Addr × Obj)} {σ : St} {H : Hp} {s : Shared}
theorem Inv.tr (I : Inv X pins σ H s) (W : Value → Shared → Prop) : Inv (X.tr (X.pn ++ pins) W) [] σ H s :=
  ⟨⟨I.ok.mod, I.ok.kind, I.ok.glob, I.ok.blt, I.ok.above, I.ok.inj, I.ok.has, I.ok.cab, I.ok.hd, I.ok.frames, I.ok.stk, I.ok.exf, I.ok.bs, I.ok.bsz, I.ok.noex, I.ok.exfs, I.ok.funs, I.ok.frf⟩,
    I.os, I.bare, I.base, I.loc, I.cell, I.free, I.freeC, fun p hp => I.pin p (by simpa using hp), I.hok, I.len⟩
theorem Inv.untr {W : Value → Shared → Prop} {pins' : List (Addr × Obj)} (I : Inv (X.tr (X.pn ++ pins) W) pins' σ H s) : Inv X pins σ H s :=
  ⟨⟨I.ok.mod, I.ok.kind, I.ok.glob, I.ok.blt, I.ok.above, I.ok.inj, I.ok.has, I.ok.cab, I.ok.hd, I.ok.frames, I.ok.stk, I.ok.exf, I.ok.bs, I.ok.bsz, I.ok.noex, I.ok.exfs, I.ok.funs, I.ok.frf⟩,
    I.os, I.bare, I.base, I.loc, I.cell, I.free, I.freeC, fun p hp => I.pin p (List.mem_append_left _ hp), I.hok, I.len⟩
theorem Inv.hdl (I : Inv X pins σ H s) (e : Value) : Inv (X.hdl e) pins σ H s :=
  ⟨⟨I.ok.mod, I.ok.kind, I.ok.glob, I.ok.blt, I.ok.above, I.ok.inj, I.ok.has, I.ok.cab, (fun z => by cases z), I.ok.frames, I.ok.stk, I.ok.exf, I.ok.bs, I.ok.bsz, I.ok.noex, I.ok.exfs, I.ok.funs, I.ok.frf⟩,
    I.os, I.bare, I.base, I.loc, I.cell, I.free, I.freeC, I.pin, I.hok, I.len⟩
theorem Inv.unhdl {e : Value} (hd : X.calm = true → X.A.handled = none) (I : Inv (X.hdl e) pins σ H s) : Inv X pins σ H s :=
  ⟨⟨I.ok.mod, I.ok.kind, I.ok.glob, I.ok.blt, I.ok.above, I.ok.inj, I.ok.has, I.ok.cab, hd, I.ok.frames, I.ok.stk, I.ok.exf, I.ok.bs, I.ok.bsz, I.ok.noex, I.ok.exfs, I.ok.funs, I.ok.frf⟩,
    I.os, I.bare, I.base, I.loc, I.cell, I.free, I.freeC, I.pin, I.hok, I.len⟩
end
section
variable {X : Cx} {k : Nat} {f C : Addr} {fd : FuncData} {ps : List Str} {sp : Sp} {dvs : List V} {ds : List Value} {E : St → XK} {x m : Str} {p pos apos : Pos} {e o : Expr} {es : List Expr} {ta : TE} {t : TA}
def tMethE (C : Addr) (m : Str) (sp : Sp) (dvs : List V) (E : St → XK) (ta : TE) (t : TA) : TE := fun σ H Q => ta σ H fun x H1 => ∃ a dx fs, x = .ref a ∧ H1 a = some (.ins C dx fs) ∧ fs.lookup m = none ∧
  t σ H1 fun vs H2 => sp (x :: (vs ++ dvs)) H2 Q (E σ)
theorem run_fnE {pins : List (Addr × Obj)} {σ : St} {H : Hp} {s : Shared} {Q : VK} {us : List Value} {vs : List V} (F : FnOk X.prog X.w X.K X.mg X.base (CX1 X.prog X.w) k f fd ps sp) (hr : Room k X.A) (hb : Binds X.K fd ps ds) (hd : Vals dvs ds) (hx : PassesE X.prog X.w X E)
    (I : Inv X pins σ H s) (r : Vals vs us) (h : sp (vs ++ dvs) H Q (E σ)) : wpAny (model X.prog X.w) X.A (call (.ref f) us) (EP X pins σ Q) X.xe s := by
  have r2 : Vals (vs ++ dvs) (us ++ ds) := r.append hd
  have hl : (us ++ ds).length = ps.length := by rw [← r2.length]; exact F.len _ _ _ _ h
  refine wpAny_call (codeAny_mono (F.run X.A X.stack s H ⟨us, []⟩ (us ++ ds) (vs ++ dvs) Q (E σ) hr I.env0 (hb s us I.kIn hl) r2 h) fun r s' hq => ?_)
  cases r with
  | error e => exact hx pins σ H s e s' I hq
  | ok fl =>
    cases fl with
    | ret u => exact I.after hq
    | next => exact False.elim hq
    | brk => exact False.elim hq
    | cont => exact False.elim hq
end
section
variable {X : Cx}
end
section
variable {P : Program} {w : World} {K : PySem.W.Frag} {mg : Str → Option Value} {base : Heap}
/-- a def that lets an exception out -/
theorem Fun.okX {x qual : Str} {st : Stmt} {f : Addr} {fd : FuncData} {N ps : List Str} {k : Nat} {sp : Sp} (F : Fun K x qual st f fd) (S : FnScope N ps (defScope st)) (len : ∀ vs H Q E, sp vs H Q E → vs.length = ps.length)
    (hbody : ∀ (cdv : Value) (A : Around) (outer : List Env) (s : Shared) (H : Hp) (vs : List V) (Q : VK) (E : XK), Room k (A.deeper (envOfC qual (defScope st) s.heap.objs.size f cdv)) → sp vs H Q E →
      ∃ t, PSs (cxOf (CX1 P w) P w K mg base N qual (defScope st) f cdv A outer s H E) (defBody st) t ∧ t { nx := fun _ H' => Q .non H', rt := Q } (start N vs) H) : FnOk P w K mg base (CX1 P w) (k + 1) f fd ps sp := by
  obtain ⟨oc, od, kV, doc, pm, an, cdv, ct, osl, rfl, lk, hcd⟩ := F.ex
  exact fn_of lk hcd S len fun A outer s H vs Q E hr hsp => hbody cdv A outer s H vs Q E hr hsp
/-- a def that lets none out -/
theorem Fun.okC {CX : CXT} {x qual : Str} {st : Stmt} {f : Addr} {fd : FuncData} {N ps : List Str} {k : Nat} {sp : Sp} (F : Fun K x qual st f fd) (S : FnScope N ps (defScope st)) (len : ∀ vs H Q E, sp vs H Q E → vs.length = ps.length)
    (hbody : ∀ (cdv : Value) (A : Around) (outer : List Env) (s : Shared) (H : Hp) (vs : List V) (Q : VK) (E : XK), Room k (A.deeper (envOfC qual (defScope st) s.heap.objs.size f cdv)) → sp vs H Q E →
      ∃ t, PSs (cxOf CX P w K mg base N qual (defScope st) f cdv A outer s H E).nox (defBody st) t ∧ t { nx := fun _ H' => Q .non H', rt := Q } (start N vs) H) : FnOk P w K mg base CX (k + 1) f fd ps sp := by
  obtain ⟨oc, od, kV, doc, pm, an, cdv, ct, osl, rfl, lk, hcd⟩ := F.ex
  refine fn_of lk hcd S len fun A outer s H vs Q E hr hsp => ?_
  obtain ⟨t, h, q⟩ := hbody cdv A outer s H vs Q E hr hsp
  exact ⟨t, h.nox, q⟩
end
end L2

set_option Elab.async false
set_option linter.all false
set_option maxRecDepth 100000
namespace L2
open PySem PySem.Spec PyProof.Rows
section
variable {X : Cx}
/-- f'text{int}' -/
def tFstr (te : TE) : TE := fun σ H Q => te σ H fun x H1 => ∃ i, x = .int i ∧ i.natAbs.log2 < 1920 ∧ ∀ z, Q (.str z) H1
end

section
variable {X : Cx}
end
end L2

set_option Elab.async false
set_option linter.all false
set_option maxRecDepth 100000
namespace L2
open PySem PySem.Spec PyProof.Rows
def keyOf : V → Option Key
  | .int i => some (.inl i)
  | .str z => some (.inr z)
  | _ => none
theorem keyOf_int {i : Int} : keyOf (.int i) = some (.inl i) := rfl
theorem keyOf_str {i : Str} : keyOf (.str i) = some (.inr i) := rfl
theorem keyOf_of {y : V} {k : Key} (h : keyOf y = some k) : y = kV k := by
  cases y <;> first | (cases h; rfl) | (cases h)
def tDGetF (td ty : TE) : TE := fun σ H Q => td σ H fun x H1 => ty σ H1 fun y H2 => ∃ d k kvs v, x = .ref d ∧ keyOf y = some k ∧ H2 d = some (.dK kvs) ∧ valV kvs k = some v ∧ Q v H2
def tDInF (ty td : TE) : TE := fun σ H Q => ty σ H fun y H1 => td σ H1 fun x H2 => ∃ d k kvs, x = .ref d ∧ keyOf y = some k ∧ H2 d = some (.dK kvs) ∧ Q (.bl (valV kvs k).isSome) H2
def tDNotInF (ty td : TE) : TE := fun σ H Q => ty σ H fun y H1 => td σ H1 fun x H2 => ∃ d k kvs, x = .ref d ∧ keyOf y = some k ∧ H2 d = some (.dK kvs) ∧ Q (.bl (!(valV kvs k).isSome)) H2
def sDPutF (td ty tv : TE) : TS := fun D σ H => tv σ H fun v H1 => td σ H1 fun x H2 => ty σ H2 fun y H3 => ∃ d k kvs, x = .ref d ∧ keyOf y = some k ∧ H3 d = some (.dK kvs) ∧ kvs.length < sizeLine ∧ D.nx σ (upd H3 d (.dK (putK kvs k v)))
section
variable {X : Cx} {o i e value : Expr} {pos pos' tpos : Pos} {td ty tv : TE}
theorem pe_dgetF (hu : X.A.units + 1 < cLine) (ho : PE X o td) (hi : PE X i ty) (hs : NoSl i) : PE X (.Subscript o i pos) (tDGetF td ty) := by
  intro pins s σ H Q I h
  refine subD_of PySem.F.slot_dict_getitem.lookup hs (thn (ho pins s σ H _ I h) fun u s1 ⟨x, H1, I1, rx, q1⟩ => thn (hi pins s1 σ H1 _ I1 q1) fun iv s2 ⟨y, H2, I2, ry, d, k, kvs, v, ex, ek, hd, hv, q2⟩ => ?_)
  subst ex
  cases keyOf_of ek
  obtain rfl : u = Value.ref d := rx
  have g : DGet H2 d (kV k) (some v) := by rw [← hv]; exact DGet.k hd
  exact ⟨dict_typeIs I2 g, d_getItem hu I2 g ry fun w' s3 I3 rw' => ⟨v, H2, I3, rw', q2⟩⟩
end
end L2

set_option Elab.async false
set_option linter.all false
set_option maxRecDepth 100000
namespace L2
open PySem PySem.Spec PyProof.Rows
theorem cxOf_K {CX : CXT} {P : Program} {w : World} {K : PySem.W.Frag} {mg : Str → Option Value} {base : Heap} {N : List Str} {qual : Str} {scope : Scope} {f : Addr} {cd : Value} {A : Around} {outer : List Env} {s₀ : Shared} {H₀ : Hp} {E : XK} :
    (cxOf CX P w K mg base N qual scope f cd A outer s₀ H₀ E).K = K := rfl
structure Fr (M : Addr → Prop) (H H' : Hp) : Prop where
  keep : ∀ q o, H q = some o → ¬ M q → H' q = some o
  tups : ∀ q xs, H q = some (.tup xs) → H' q = some (.tup xs)
theorem Fr.trans {M : Addr → Prop} {H H1 H2 : Hp} (x : Fr M H H1) (y : Fr M H1 H2) : Fr M H H2 := ⟨fun q o h n => y.keep q o (x.keep q o h n) n, fun q xs h => y.tups q xs (x.tups q xs h)⟩
theorem Fr.of_same {M : Addr → Prop} {H H' : Hp} (s : Same H H') : Fr M H H' := ⟨fun q o h _ => s q o h, fun q xs h => s q _ h⟩
theorem Fr.laid {M : Addr → Prop} {H : Hp} {p : Addr} {u : HO} (hp : H p = none) : Fr M H (upd H p u) := .of_same (.laid hp)
theorem Fr.put {M : Addr → Prop} {H : Hp} {p : Addr} {u : HO} (hm : M p) (ht : ∀ xs, H p ≠ some (.tup xs)) : Fr M H (upd H p u) :=
  ⟨fun q o h n => by rw [upd_ne (fun e => n (by rw [e]; exact hm))]; exact h, fun q xs h => by rw [upd_ne (fun e => ht xs (by rw [← e]; exact h))]; exact h⟩
theorem for1 {ta : TA} {g : TG} {tb : TS} {D : Ends} {σ : St} {H H1 : Hp} (n : Int) (hr : ∀ Q, Q [.int n] H1 → ta σ H Q) (n0 : -(2 ^ 62) ≤ n) (n1 : n < 2 ^ 62) (Pv : Nat → St → Hp → Prop) (h0 : Pv 0 σ H1)
    (hs : ∀ i σ H, i < n.toNat → Pv i σ H → g (.int (0 + i)) σ H fun σ2 H2 => tb { D with nx := Pv (i + 1), ct := Pv (i + 1), bk := D.nx } σ2 H2) (hd : ∀ σ H, Pv n.toNat σ H → D.nx σ H) :
    tFor (iRng1 ta) g tb D σ H := hr _ ⟨n, rfl, n0, n1, for_range Pv h0 hs hd⟩
theorem forL {K : PySem.W.Frag} {tl : TE} {g : TG} {tb : TS} {D : Ends} {σ : St} {H H1 : Hp} (a : Addr) (xs : List V) (hr : ∀ Q, Q (.ref a) H1 → tl σ H Q) (Pv : Nat → St → Hp → Prop) (h0 : Pv 0 σ H1) (hl : ∀ i σ H, i ≤ xs.length → Pv i σ H → SqL K H a xs)
    (hs : ∀ i x σ H, xs[i]? = some x → Pv i σ H → g x σ H fun σ2 H2 => tb { D with nx := Pv (i + 1), ct := Pv (i + 1), bk := D.nx } σ2 H2) (hd : ∀ σ H, Pv xs.length σ H → D.nx σ H) :
    tFor (iList K tl) g tb D σ H := hr _ ⟨a, rfl, ⟨xs, hl 0 σ H1 (Nat.zero_le _) h0⟩, for_list Pv h0 hl hs hd⟩
theorem forT {K : PySem.W.Frag} {tl : TE} {g : TG} {tb : TS} {D : Ends} {σ : St} {H H1 : Hp} (a : Addr) (xs : List V) (hr : ∀ Q, Q (.ref a) H1 → tl σ H Q) (Pv : Nat → St → Hp → Prop) (h0 : Pv 0 σ H1) (hl : ∀ i σ H, i ≤ xs.length → Pv i σ H → SqT K H a xs)
    (hs : ∀ i x σ H, xs[i]? = some x → Pv i σ H → g x σ H fun σ2 H2 => tb { D with nx := Pv (i + 1), ct := Pv (i + 1), bk := D.nx } σ2 H2) (hd : ∀ σ H, Pv xs.length σ H → D.nx σ H) :
    tFor (iTup K tl) g tb D σ H := hr _ ⟨a, rfl, ⟨xs, hl 0 σ H1 (Nat.zero_le _) h0⟩, for_tup Pv h0 hl hs hd⟩
theorem comp1 {cap : List (Option Nat)} {ta : TA} {g : TG} {tt : TT} {te : TE} {σ : St} {H H1 : Hp} {Q : VK} (n : Int) (hr : ∀ Q, Q [.int n] H1 → ta σ H Q) (n0 : -(2 ^ 62) ≤ n) (n1 : n < 2 ^ 62) (Pv : Addr → Nat → List V → Hp → Prop) (h0 : ∀ D, H1 D = none → Pv D 0 [] (upd H1 D (.lst [])))
    (hl : ∀ D, H1 D = none → ∀ i ys H, i ≤ n.toNat → Pv D i ys H → H D = some (.lst ys) ∧ ys.length ≤ i) (hz : n.toNat ≤ sizeLine)
    (hs : ∀ D, H1 D = none → ∀ i ys H, i < n.toNat → Pv D i ys H → g (.int (0 + i)) (capSt cap σ) H fun σ4 H4 => tt σ4 H4 fun b H5 => if b = true then te σ4 H5 fun y H6 => H6 D = some (.lst ys) ∧ Pv D (i + 1) (ys ++ [y]) (upd H6 D (.lst (ys ++ [y]))) else Pv D (i + 1) ys H5)
    (hd : ∀ D, H1 D = none → ∀ ys H, Pv D n.toNat ys H → Q (.ref D) H) : tComp cap (iRng1 ta) g tt te σ H Q := hr _ ⟨n, rfl, n0, n1, fun D hD => comp_range (R := fun H => Q (.ref D) H) (Pv D) (h0 D hD) (hl D hD) hz (hs D hD) (hd D hD)⟩
theorem compL {K : PySem.W.Frag} {cap : List (Option Nat)} {tl : TE} {g : TG} {tt : TT} {te : TE} {σ : St} {H H1 : Hp} {Q : VK} (a : Addr) (xs : List V) (hr : ∀ Q, Q (.ref a) H1 → tl σ H Q) (hq : SqL K H1 a xs) (Pv : Addr → Nat → List V → Hp → Prop) (h0 : ∀ D, H1 D = none → Pv D 0 [] (upd H1 D (.lst [])))
    (hl : ∀ D, H1 D = none → ∀ i ys H, i ≤ xs.length → Pv D i ys H → SqL K H a xs ∧ H D = some (.lst ys) ∧ ys.length ≤ i) (hz : xs.length ≤ sizeLine)
    (hs : ∀ D, H1 D = none → ∀ i x ys H, xs[i]? = some x → Pv D i ys H → g x (capSt cap σ) H fun σ4 H4 => tt σ4 H4 fun b H5 => if b = true then te σ4 H5 fun y H6 => H6 D = some (.lst ys) ∧ Pv D (i + 1) (ys ++ [y]) (upd H6 D (.lst (ys ++ [y]))) else Pv D (i + 1) ys H5)
    (hd : ∀ D, H1 D = none → ∀ ys H, Pv D xs.length ys H → Q (.ref D) H) : tComp cap (iList K tl) g tt te σ H Q := hr _ ⟨a, rfl, ⟨xs, hq⟩, fun D hD => comp_list (R := fun H => Q (.ref D) H) (Pv D) (h0 D hD) (hl D hD) hz (hs D hD) (hd D hD)⟩
theorem compT {K : PySem.W.Frag} {cap : List (Option Nat)} {tl : TE} {g : TG} {tt : TT} {te : TE} {σ : St} {H H1 : Hp} {Q : VK} (a : Addr) (xs : List V) (hr : ∀ Q, Q (.ref a) H1 → tl σ H Q) (hq : SqT K H1 a xs) (Pv : Addr → Nat → List V → Hp → Prop) (h0 : ∀ D, H1 D = none → Pv D 0 [] (upd H1 D (.lst [])))
    (hl : ∀ D, H1 D = none → ∀ i ys H, i ≤ xs.length → Pv D i ys H → SqT K H a xs ∧ H D = some (.lst ys) ∧ ys.length ≤ i) (hz : xs.length ≤ sizeLine)
    (hs : ∀ D, H1 D = none → ∀ i x ys H, xs[i]? = some x → Pv D i ys H → g x (capSt cap σ) H fun σ4 H4 => tt σ4 H4 fun b H5 => if b = true then te σ4 H5 fun y H6 => H6 D = some (.lst ys) ∧ Pv D (i + 1) (ys ++ [y]) (upd H6 D (.lst (ys ++ [y]))) else Pv D (i + 1) ys H5)
    (hd : ∀ D, H1 D = none → ∀ ys H, Pv D xs.length ys H → Q (.ref D) H) : tComp cap (iTup K tl) g tt te σ H Q := hr _ ⟨a, rfl, ⟨xs, hq⟩, fun D hD => comp_tup (R := fun H => Q (.ref D) H) (Pv D) (h0 D hD) (hl D hD) hz (hs D hD) (hd D hD)⟩
theorem compL_ {K : PySem.W.Frag} {cap : List (Option Nat)} {tl : TE} {g : TG} {tt : TT} {te : TE} {σ : St} {H : Hp} {Q : VK} (Pre : Addr → Hp → Prop) (hr : ∀ Q, (∀ a H1, Pre a H1 → Q (.ref a) H1) → tl σ H Q)
    (h : ∀ a H1, Pre a H1 → tComp cap (iList K (tC (.ref a))) g tt te σ H1 Q) : tComp cap (iList K tl) g tt te σ H Q := hr _ fun a H1 p => h a H1 p
theorem forL_ {K : PySem.W.Frag} {tl : TE} {g : TG} {tb : TS} {D : Ends} {σ : St} {H : Hp} (Pre : Addr → Hp → Prop) (hr : ∀ Q, (∀ a H1, Pre a H1 → Q (.ref a) H1) → tl σ H Q)
    (h : ∀ a H1, Pre a H1 → tFor (iList K (tC (.ref a))) g tb D σ H1) : tFor (iList K tl) g tb D σ H := hr _ fun a H1 p => h a H1 p
theorem for1_ {ta : TA} {g : TG} {tb : TS} {D : Ends} {σ : St} {H : Hp} (Pre : Int → Hp → Prop) (hr : ∀ Q, (∀ n H1, Pre n H1 → Q [.int n] H1) → ta σ H Q)
    (h : ∀ n H1, Pre n H1 → tFor (iRng1 (tCons (tC (.int n)) tNil)) g tb D σ H1) : tFor (iRng1 ta) g tb D σ H := hr _ fun a H1 p => h a H1 p
theorem comp1_ {cap : List (Option Nat)} {ta : TA} {g : TG} {tt : TT} {te : TE} {σ : St} {H : Hp} {Q : VK} (Pre : Int → Hp → Prop) (hr : ∀ Q, (∀ n H1, Pre n H1 → Q [.int n] H1) → ta σ H Q)
    (h : ∀ n H1, Pre n H1 → tComp cap (iRng1 (tCons (tC (.int n)) tNil)) g tt te σ H1 Q) : tComp cap (iRng1 ta) g tt te σ H Q := hr _ fun a H1 p => h a H1 p
theorem gTup_of {K : PySem.W.Frag} {n : Nat} {t : TGs} {a : Addr} {xs : List V} {σ : St} {H : Hp} {Q : St → Hp → Prop} (h : H a = some (.tup xs)) (hl : xs.length = n) (q : t xs σ H Q) : gTup K n t (.ref a) σ H Q := ⟨a, xs, rfl, .of h, hl, q⟩
abbrev Th := Int × List Int × List Int
def thW (t : Th) : List Int := (16 * (t.2.1.length : Int) + t.2.2.length) :: (t.2.1 ++ t.2.2)
def thSz (t : Th) : Int := 1 + t.2.1.length + t.2.2.length
def thWord (t : Th) (z : Int) : Option Int := if z < t.1 then none else (thW t)[(z - t.1).toNat]?
def wordAt (ts : List Th) (z : Int) : Option Int := ts.findSome? fun t => thWord t z
def Lay : Int → List Th → Int → Prop
  | s, [], f => f = s
  | s, t :: r, f => t.1 = s ∧ Lay (s + thSz t) r f
theorem notTup_lst {H : Hp} {p : Addr} {ys : List V} (h : H p = some (.lst ys)) : ∀ xs, H p ≠ some (.tup xs) := fun xs e => by rw [h] at e; cases e
end L2

set_option Elab.async false
set_option linter.all false
set_option maxRecDepth 100000
namespace L2
open PySem PySem.Spec PyProof.Rows
def rEqE (neg : Bool) : R2 := fun x y H Q => ∃ l b xs, x = .ref l ∧ y = .ref b ∧ seqV H l = some xs ∧ kindV H l = some true ∧ seqV H b = some [] ∧ kindV H b = some true ∧ Q (.bl (if neg then !xs.isEmpty else xs.isEmpty)) H
theorem none_eqAt {A : Around} {s : Shared} {us : List Value} (h : us.length = 0) (ws : List Value) :
    ∀ j (h1 : j < us.toArray.size) (h2 : j < ws.toArray.size), SeqAt.EqAt A s us.toArray[j] ws.toArray[j] ((fun _ => true) j) := by
  intro j h1 h2
  simp only [List.size_toArray] at h1
  omega
section
variable {X : Cx}
theorem op_eqE (hu : X.A.units + 1 < cLine) : OpR X (compareOp .Eq) (rEqE false) := by
  intro pins s σ H x y v u Q I rx ry h
  obtain ⟨l, b, xs, rfl, rfl, h1, k1, h2, k2, q⟩ := h
  cases rx
  cases ry
  obtain ⟨us, r1, p1, z1⟩ := I.list (kindV_l (K := X.K) h1 k1)
  obtain ⟨ws, r2, p2, z2⟩ := I.list (kindV_l (K := X.K) h2 k2)
  have l1 := r1.length
  have l2 := r2.length
  cases xs with
  | nil =>
    refine SeqAt.eq_listAt p1.isList p2.isList (by simp at l1 l2 ⊢; omega) (by omega) (none_eqAt (by simpa using l1.symm) ws) ⟨.bl _, H, I, rfl, ?_⟩
    have e : (List.range us.toArray.size).all (fun _ => true) = true := by simp
    rw [e]
    exact q
  | cons x xs =>
    refine SeqAt.eq_list_lengthsAt p1.isList p2.isList (by simp at l1 l2 ⊢; omega) (by omega) ⟨.bl _, H, I, rfl, ?_⟩
    exact q
theorem op_neE (hu : X.A.units + 1 < cLine) : OpR X (compareOp .NotEq) (rEqE true) := by
  intro pins s σ H x y v u Q I rx ry h
  obtain ⟨l, b, xs, rfl, rfl, h1, k1, h2, k2, q⟩ := h
  cases rx
  cases ry
  obtain ⟨us, r1, p1, z1⟩ := I.list (kindV_l (K := X.K) h1 k1)
  obtain ⟨ws, r2, p2, z2⟩ := I.list (kindV_l (K := X.K) h2 k2)
  have l1 := r1.length
  have l2 := r2.length
  cases xs with
  | nil =>
    refine SeqAt.RcNeAt.lists p1.isList p2.isList (by simp at l1 l2 ⊢; omega) (by omega) (none_eqAt (by simpa using l1.symm) ws) _ _ _ _ ⟨.bl _, H, I, rfl, ?_⟩
    have e : (List.range us.toArray.size).all (fun _ => true) = true := by simp
    rw [e]
    exact q
  | cons x xs =>
    refine SeqAt.RcNeAt.lists_lengths p1.isList p2.isList (by simp at l1 l2 ⊢; omega) (by omega) _ _ _ _ ⟨.bl _, H, I, rfl, ?_⟩
    exact q
end
end L2

set_option Elab.async false
set_option linter.all false
set_option maxRecDepth 100000
namespace L2
open PySem PySem.Spec PyProof.Rows
def longLoop (d : Addr) (pairs : List (Sem Value × Sem Value)) : Sem PUnit :=
  forIn pairs PUnit.unit fun (x : Sem Value × Sem Value) (_ : PUnit) => (do
    let kv ← x.1
    let vv ← holding [kv] x.2
    holding [kv, vv] (dictSet d kv vv)
    pure (ForInStep.yield PUnit.unit) : Sem (ForInStep PUnit))
theorem subDict_long {pairs : List (Sem Value × Sem Value)} (h : 15 < pairs.length) :
    subDict pairs = (do
      let d ← alloc { cls := .type "dict", data := .dict #[] }
      holding [.ref d] (do rule "dict.display.long"; longLoop d pairs; pure ())
      pure d) := by
  unfold subDict
  simp only [if_neg (Nat.not_le.mpr h)]
  rfl
abbrev mkItem (p : Sem Value × Sem Value) : Option (Sem Value) × Sem Value := (some p.1, p.2)
theorem forIn_fill (f : (Option (Sem Value) × Sem Value) → (Option Addr × List (Sem Value × Sem Value)) → Sem (ForInStep (Option Addr × List (Sem Value × Sem Value)))) (fl : List (Sem Value × Sem Value) → Sem (Option Addr)) (m : Option Addr)
    (hf : ∀ (p : Sem Value × Sem Value) (run : List (Sem Value × Sem Value)), run.length + 1 < 17 → f (mkItem p) (m, run) = pure (.yield (m, run ++ [p])))
    (hg : ∀ (p : Sem Value × Sem Value) (run : List (Sem Value × Sem Value)), run.length + 1 = 17 → f (mkItem p) (m, run) = (do let m' ← fl (run ++ [p]); pure (.yield (m', [])))) :
    ∀ (items run : List (Sem Value × Sem Value)) (rest : List (Option (Sem Value) × Sem Value)), items ≠ [] → run.length + items.length = 17 →
      forIn (items.map mkItem ++ rest) (m, run) f = (do let m' ← fl (run ++ items); forIn rest (m', []) f)
  | [], run, rest, h0, _ => absurd rfl h0
  | [p], run, rest, _, h => by
    rw [List.map_cons, List.map_nil, List.cons_append, List.nil_append, List.forIn_cons, hg p run (by simpa using h)]
    simp
  | p :: q :: l, run, rest, _, h => by
    rw [List.map_cons, List.cons_append, List.forIn_cons, hf p run (by simp at h; omega), pure_bind]
    have := forIn_fill f fl m hf hg (q :: l) (run ++ [p]) rest (by simp) (by simp at h ⊢; omega)
    simpa using this
theorem forIn_more (f : (Option (Sem Value) × Sem Value) → (Option Addr × List (Sem Value × Sem Value)) → Sem (ForInStep (Option Addr × List (Sem Value × Sem Value)))) (m : Option Addr)
    (hf : ∀ (p : Sem Value × Sem Value) (run : List (Sem Value × Sem Value)), run.length + 1 < 17 → f (mkItem p) (m, run) = pure (.yield (m, run ++ [p]))) :
    ∀ (items run : List (Sem Value × Sem Value)), run.length + items.length < 17 → forIn (items.map mkItem) (m, run) f = pure (m, run ++ items)
  | [], run, _ => by simp
  | p :: rest, run, h => by
    rw [List.map_cons, List.forIn_cons, hf p run (by simp at h; omega), pure_bind]
    have := forIn_more f m hf rest (run ++ [p]) (by simp at h ⊢; omega)
    simpa using this
def mergeRun (d : Addr) (run : List (Sem Value × Sem Value)) : Sem Value := do
  let sub ← holding [.ref d] (subDict run)
  (holding [.ref d, .ref sub] (mergeMapping d (.ref sub) false)).onRaise fun x => do let _ ← holding [.ref d, x] (runValue (.builtin "proto.let_go" {}))
  pure (.ref d)
theorem dictDisplay_two (p1 p2 : List (Sem Value × Sem Value)) (h1 : p1.length = 17) (h0 : p2 ≠ []) (h2 : p2.length < 17) :
    dictDisplay ((p1 ++ p2).map mkItem) = (do let d ← subDict p1; mergeRun d p2) := by
  have n1 : p1 ≠ [] := by intro e; rw [e] at h1; cases h1
  unfold dictDisplay
  dsimp only
  rw [List.map_append, forIn_fill _ (fun run => do let d ← subDict run; pure (some d)) none (fun p run h => by
      have hne : ((run ++ [(p.1, p.2)]).length == 17) = false := by simp; omega
      simp only [mkItem, hne, Bool.false_eq_true, if_false]) (fun p run h => by
      have hne : ((run ++ [(p.1, p.2)]).length == 17) = true := by simp; omega
      have hem : (run ++ [(p.1, p.2)]).isEmpty = false := by simp
      simp [mkItem, hne, hem]
      intro hh; omega) p1 [] _ n1 (by simpa using h1)]
  simp only [List.nil_append, bind_assoc, pure_bind]
  congr 1
  funext d
  rw [forIn_more _ (some d) (fun p run h => by
      have hne : ((run ++ [(p.1, p.2)]).length == 17) = false := by simp; omega
      simp only [mkItem, hne, Bool.false_eq_true, if_false]) p2 [] (by simpa using h2)]
  have hem : p2.isEmpty = false := by cases p2 with | nil => exact absurd rfl h0 | cons _ _ => rfl
  simp [h0, mergeRun]
section
variable {prog : Program} {w : World} {K : Type} [DecidableEq K] {knd : KeyKind prog w K} {A : Around} {E : Value → Shared → Prop} {s : Shared}
theorem put_pairs {d : Addr} {kvs : List (K × Value)} {k : K} {key v : Value} {Q : Unit → Shared → Prop} (ik : knd.is k key = true) (D : s.heap.DictOf knd d kvs) (z : kvs.length ≤ sizeLine)
    (q : ∀ h2, h2.DictOf knd d (stored kvs k v) → Heap.SameBut d s.heap h2 → Q () { s with heap := h2 }) : wpAny (model prog w) A (dictPut d (knd.hash k) key v) Q E s := by
  obtain ⟨ob, xs, n, g1, g2, g3, g4, g5, g6⟩ := D
  have zs : xs.size ≤ sizeLine := by
    have l1 := g5.length
    simp at l1
    omega
  have same : (xs.findIdx? fun e => knd.is k e.key) = kvs.findIdx? fun kv => decide (kv.1 = k) := by
    have := g5.findIdx k
    rw [← this]
    obtain ⟨l⟩ := xs
    simp
  unfold dictPut
  refine wpAny_bind (wpAny_dictFind_of ik g1 g3 g4 ?_)
  cases c : xs.findIdx? fun e => knd.is k e.key with
  | some i =>
    have c' : kvs.findIdx? (fun kv => decide (kv.1 = k)) = some i := by rw [← same]; exact c
    have al := any_of_findIdx_some c'
    refine wpAny_updateDict g1 g3 (q _ ⟨_, _, n, Heap.get?_update_self _ g1 (Obj.isFreed_of_dict (Obj.data_mapDict g3 _)), g2.mapDict _, Obj.data_mapDict g3 _, g4.modify _ _, ?_, ?_⟩ (Heap.SameBut.update ..))
    · rw [stored, if_pos al]
      have cl : (xs.toList.findIdx? fun e => knd.is k e.key) = some i := by
        rw [← c]
        obtain ⟨l⟩ := xs
        simp
      have m := g5.modify g6 cl v
      obtain ⟨l⟩ := xs
      simpa using m
    · rw [stored, if_pos al, keys_map_store]
      exact g6
  | none =>
    have c' : kvs.findIdx? (fun kv => decide (kv.1 = k)) = none := by rw [← same]; exact c
    have nk := not_mem_of_findIdx_none c'
    have al : ¬ (kvs.any fun kv => decide (kv.1 = k)) = true := fun y => by
      obtain ⟨kv, m, e⟩ := List.any_eq_true.mp y
      exact nk (List.mem_map.mpr ⟨kv, m, of_decide_eq_true e⟩)
    refine wpAny_updateDictKeys (hz := zs) g1 g3 (q _ ⟨_, _, n + 1, Heap.get?_update_self _ g1 (Obj.isFreed_of_dict (Obj.data_mapDictKeys g3 _)), g2.mapDictKeys _, Obj.data_mapDictKeys g3 _, g4.push ik _, ?_, ?_⟩ (Heap.SameBut.update ..))
    · rw [stored, if_neg al]
      have m := g5.append ik (knd.hash k) v
      obtain ⟨l⟩ := xs
      simpa using m
    · rw [stored, if_neg al, List.map_append, List.nodup_append]
      refine ⟨g6, by simp, fun x hx y hy e => ?_⟩
      simp only [List.map_cons, List.map_nil, List.mem_singleton] at hy
      rw [hy] at e
      exact nk (e ▸ hx)
theorem wpAny_mergeMap {d o : Addr} {kvs more : List (K × Value)} {Q : Unit → Shared → Prop} (ne : d ≠ o) (so : (o == sysModules) = false) (h0 : kvs ≠ []) (D : s.heap.DictOf knd d kvs) (O : s.heap.DictOf knd o more) (z : kvs.length + more.length ≤ sizeLine)
    (q : ∀ h2, h2.DictOf knd d (merged kvs more) → Heap.SameBut d s.heap h2 → Q () { s with heap := h2 }) : wpAny (model prog w) A (mergeMapping d (.ref o) false) Q E s := by
  obtain ⟨od, xd, nd, d1, d2, d3, d4, d5, d6⟩ := id D
  obtain ⟨oo, xo, no, o1, o2, o3, o4, o5, o6⟩ := id O
  have len : more.length = xo.size := by rw [← o5.length]; simp
  unfold mergeMapping
  refine wpAny_bind (wpAny_isInstance O.typeIs isSubtype_dict_dict ?_)
  dsimp only
  rw [if_pos rfl]
  refine wpAny_bind (wpAny_specialOf O.typeIs F.slot_dict_iter.lookup ?_)
  have e1 : (some (Value.builtin "dict.__iter__") == some (Value.builtin "dict.__iter__")) = true := by simp
  rw [e1]
  rw [pure_bind]
  dsimp only
  rw [if_neg (by rw [so]; exact Bool.false_ne_true)]
  refine wpAny_bind (wpAny_dictEntries d1 d3 ?_)
  have ed : xd.isEmpty = false := by
    cases hx : xd.isEmpty with
    | false => rfl
    | true =>
      have := d5.length
      rw [Array.isEmpty_iff.mp hx] at this
      exact absurd (List.length_eq_zero_iff.mp this.symm) h0
  rw [if_neg (by rw [ed]; exact Bool.false_ne_true)]
  refine wpAny_bind (wpAny_dictEntries o1 o3 ?_)
  refine wpAny_bind (wpAny_dictEpoch o1 o3 ?_)
  refine wpAny_bind ?_
  refine wpAny_forIn_list _ (fun rest _ s2 => ∃ h2 i, s2 = { s with heap := h2 } ∧ rest = List.range' i (xo.size - i) ∧ i ≤ xo.size ∧ h2.DictOf knd d (merged kvs (more.take i)) ∧ h2.get? o = some oo ∧ Heap.SameBut d s.heap h2) _ ?_ ?_ _ _
    ⟨s.heap, 0, rfl, by rw [List.range_eq_range']; simp, Nat.zero_le _, by simpa [merged] using D, o1, Heap.SameBut.refl _ _⟩
  · rintro x rest b s2 ⟨h2, i, rfl, er, hi, D2, o12, S2⟩
    have hlt : i < xo.size := by
      rcases Nat.lt_or_ge i xo.size with y | y
      · exact y
      · rw [Nat.sub_eq_zero_of_le y] at er
        cases er
    rw [show xo.size - i = (xo.size - (i + 1)) + 1 by omega, List.range'_succ] at er
    injection er with ex er
    subst ex
    refine wpAny_bind (wpAny_dictEntries o12 o3 ?_)
    rw [Array.getElem?_eq_getElem hlt]
    have hlt' : x < more.length := by omega
    obtain ⟨a1, a2⟩ := o5.get? (e := xo[x]) (by simp [hlt]) (List.getElem?_eq_getElem hlt')
    obtain ⟨k2, b1, b2⟩ := o4 xo[x] (Array.getElem_mem hlt)
    have ek := knd.inj _ _ _ b1 a1
    dsimp only
    rw [if_neg Bool.false_ne_true, b2, a2, ek]
    have zm : (merged kvs (more.take x)).length ≤ sizeLine := by
      have := merged_length_le kvs (more.take x)
      have : (more.take x).length ≤ more.length := by rw [List.length_take]; omega
      omega
    refine wpAny_bind (wpAny_holding (put_pairs a1 D2 zm fun h3 D3 S3 => ?_))
    have o13 : h3.get? o = some oo := (S3.2 o (Ne.symm ne)).trans o12
    refine wpAny_bind (wpAny_dictEpoch o13 o3 ?_)
    rw [if_neg (by simp)]
    exact wpAny_pure ⟨h3, x + 1, rfl, er, hlt, by rw [merged_take_succ kvs more x _ (List.getElem?_eq_getElem hlt')]; exact D3, o13, S2.trans S3⟩
  · rintro b s2 ⟨h2, i, rfl, er, hi, D2, o12, S2⟩
    have ei : i = xo.size := by
      rcases Nat.lt_or_ge i xo.size with y | y
      · rw [show xo.size - i = (xo.size - (i + 1)) + 1 by omega, List.range'_succ] at er
        cases er
      · omega
    rw [ei, ← len, List.take_length] at D2
    exact wpAny_pure (q _ D2 S2)
end
/-- the pairs of a long display, each laid as it is made -/
def tPuts : List (TE × TE) → Addr → St → Hp → (Hp → Prop) → Prop
  | [], _, _, H, R => R H
  | (tk, tv) :: r, p, σ, H, R => tk σ H fun x H1 => tv σ H1 fun y H2 => ∃ k kvs, keyOf x = some k ∧ H2 p = some (.dK kvs) ∧ kvs.length < sizeLine ∧ tPuts r p σ (upd H2 p (.dK (putK kvs k y))) R
def PLs (X : Cx) (pos : Pos) (keys : List (Option Expr)) (values : List Expr) (trs : List (TE × TE)) : Prop :=
  ∀ (pins : List (Addr × Obj)) (s : Shared) (σ : St) (H : Hp) (p : Addr) (R : Hp → Prop), Inv X pins σ H s → tPuts trs p σ H R →
    wpAny (model X.prog X.w) X.A (longLoop p (pairTrees keys values X.env pos)) (fun _ s2 => ∃ H2, Inv X pins σ H2 s2 ∧ R H2) X.xe s
theorem pls_nil {X : Cx} {pos : Pos} : PLs X pos [] [] [] := fun pins s σ H p R I h => by
  unfold longLoop pairTrees
  rw [List.forIn_nil]
  exact wpAny_pure ⟨H, I, h⟩
theorem pls_cons {X : Cx} {pos : Pos} {k v : Expr} {ks : List (Option Expr)} {vs : List Expr} {tk tv : TE} {trs : List (TE × TE)} (hk : PE X k tk) (hv : PE X v tv) (hr : PLs X pos ks vs trs) :
    PLs X pos (some k :: ks) (v :: vs) ((tk, tv) :: trs) := fun pins s σ H p R I h => by
  unfold longLoop
  show wpAny _ _ (forIn ((eval k X.env, do let x ← eval v X.env; standAt pos; pure x) :: pairTrees ks vs X.env pos) PUnit.unit _) _ _ _
  rw [List.forIn_cons]
  refine wpAny_bind (wpAny_bind (thn (hk pins s σ H _ I h) fun u s1 ⟨x, H1, I1, rx, q1⟩ => ?_))
  refine wpAny_bind (wpAny_holding (wpAny_bind (thn (hv pins s1 σ H1 _ I1 q1) fun u2 s2 ⟨y, H2, I2, ry, k2, kvs, e1, e2, e3, q2⟩ => ?_)))
  refine wpAny_bind (wpAny_standAt (wpAny_pure ?_))
  obtain rfl := keyOf_of e1
  obtain ⟨z, hd, vs2, rel, dd⟩ := dk_of I2.hok e2
  have zl : vs2.length ≤ sizeLine := by rw [← rel.length]; exact z
  refine wpAny_bind (wpAny_holding (wpAny_dictSet_pairs (knd := mixKind X.prog X.w) (hsz := zl) (kV_is rx) dd fun h3 dd3 hs3 => wpAny_pure ?_))
  have hl : (putK kvs k2 y).length ≤ sizeLine := by have := length_putK kvs k2 y; omega
  have he : ∃ q, h3.get? p = some q := let ⟨q, _, _, hq, _⟩ := dd3; ⟨q, hq⟩
  exact hr pins _ σ _ p R (d_write I2 (by rw [e2]; exact True.intro) hs3 he (dk_new hl hd (rel.put k2 ry) dd3)) q2
theorem pairTrees_app {env : Env} {pos : Pos} : ∀ (n : Nat) (keys : List (Option Expr)) (values : List Expr), keys.all (·.isSome) = true → keys.length = values.length →
    pairTrees keys values env pos = pairTrees (keys.take n) (values.take n) env pos ++ pairTrees (keys.drop n) (values.drop n) env pos
  | 0, keys, values, _, _ => rfl
  | n + 1, [], [], _, _ => rfl
  | n + 1, [], _ :: _, _, h => by cases h
  | n + 1, _ :: _, [], _, h => by cases h
  | n + 1, none :: _, _ :: _, h, _ => by simp at h
  | n + 1, some k :: ks, v :: vs, h, l => by
    have := pairTrees_app (env := env) (pos := pos) n ks vs (by simpa using h) (by simpa using l)
    show (eval k env, _) :: pairTrees ks vs env pos = _
    rw [this]
    rfl
/-- a display of 18 to 32 pairs: 17 are laid one by one, the others come by a second dict -/
def tDispL (t1 t2 : List (TE × TE)) : TE := fun σ H Q => ∀ p, H p = none → tPuts t1 p σ (upd H p (.dK [])) fun H2 => ∀ q, H2 q = none → tPairs t2 σ (upd H2 q (.dK [])) fun ps H3 =>
  ∃ kvs1 kvs2, H3 p = some (.dK kvs1) ∧ kvs1 ≠ [] ∧ H3 q = some (.dK []) ∧ ps = kvs2.map (fun kv => (kV kv.1, kv.2)) ∧ kvs1.length ≤ 1000 ∧ kvs2.length ≤ 15 ∧
    Q (.ref p) (upd (upd H3 q (.dK (mergeK [] kvs2))) p (.dK (mergeK kvs1 (mergeK [] kvs2))))
structure PLP (X : Cx) (pos : Pos) (n : Nat) (keys : List (Option Expr)) (values : List Expr) (t1 t2 : List (TE × TE)) : Prop where
  one : PLs X pos (keys.take n) (values.take n) t1
  two : PPs X pos (keys.drop n) (values.drop n) t2
  all : keys.all (·.isSome) = true
  len : keys.length = values.length
  cnt : keys.length = n + t2.length
theorem plp_nil {X : Cx} {pos : Pos} : PLP X pos 0 [] [] [] [] := ⟨pls_nil, pps_nil, rfl, rfl, rfl⟩
theorem plp_two {X : Cx} {pos : Pos} {k v : Expr} {ks : List (Option Expr)} {vs : List Expr} {tk tv : TE} {t2 : List (TE × TE)} (hk : PE X k tk) (hv : PE X v tv) (hr : PLP X pos 0 ks vs [] t2) : PLP X pos 0 (some k :: ks) (v :: vs) [] ((tk, tv) :: t2) :=
  ⟨pls_nil, pps_cons hk hv hr.two, by rw [List.all_cons, hr.all]; rfl, by rw [List.length_cons, List.length_cons, hr.len], by have := hr.cnt; rw [List.length_cons, List.length_cons]; omega⟩
theorem plp_one {X : Cx} {pos : Pos} {n : Nat} {k v : Expr} {ks : List (Option Expr)} {vs : List Expr} {tk tv : TE} {t1 t2 : List (TE × TE)} (hk : PE X k tk) (hv : PE X v tv) (hr : PLP X pos n ks vs t1 t2) : PLP X pos (n + 1) (some k :: ks) (v :: vs) ((tk, tv) :: t1) t2 :=
  ⟨pls_cons hk hv hr.one, hr.two, by rw [List.all_cons, hr.all]; rfl, by rw [List.length_cons, List.length_cons, hr.len], by have := hr.cnt; rw [List.length_cons]; omega⟩
theorem pe_dispL {X : Cx} {pos : Pos} {keys : List (Option Expr)} {values : List Expr} {t1 t2 : List (TE × TE)} (h : PLP X pos 17 keys values t1 t2) (l0 : 0 < t2.length) (l15 : t2.length ≤ 15) : PE X (.Dict keys values pos) (tDispL t1 t2) := by
  obtain ⟨h1, h2, hall, hl, cnt⟩ := h
  have lo : 17 < keys.length := by omega
  have hi : keys.length ≤ 32 := by omega
  intro pins s σ H Q I q
  have n1 : (pairTrees (keys.take 17) (values.take 17) X.env pos).length = 17 := by
    rw [pairTrees_length _ _ _ _ (List.all_eq_true.mpr fun x hx => List.all_eq_true.mp hall x (List.mem_of_mem_take hx)) (by rw [List.length_take, List.length_take, hl]), List.length_take]; omega
  have n2 : (pairTrees (keys.drop 17) (values.drop 17) X.env pos).length = keys.length - 17 := by
    rw [pairTrees_length _ _ _ _ (List.all_eq_true.mpr fun x hx => List.all_eq_true.mp hall x (List.mem_of_mem_drop hx)) (by rw [List.length_drop, List.length_drop, hl]), List.length_drop]
  rw [arm_eval_Dict, zip_pairTrees keys values X.env pos hall hl, pairTrees_app 17 keys values hall hl, dictDisplay_two _ _ n1 (by intro e; rw [e] at n2; simp at n2; omega) (by omega), subDict_long (by omega)]
  refine wpAny_bind (wpAny_standAt (wpAny_bind (wpAny_bind (wpAny_alloc (wpAny_bind (wpAny_holding (wpAny_bind (wpAny_rule (wpAny_bind ?_)))))))))
  have hn := I.hok.fresh (Nat.le_refl s.heap.objs.size)
  have I1 := I.laid (a := s.heap.objs.size) (o := .dK []) (h' := s.heap.push { cls := .type "dict", data := .dict #[] }) (t' := s.toks) (fun _ _ q => Heap.get?_push_of_some _ q) (Nat.le_refl _) (dk_empty s.heap I.big)
  refine thn (h1 pins _ σ _ _ _ I1 (q _ hn)) fun _ s2 ⟨H2, I2, q2⟩ => wpAny_pure (wpAny_pure ?_)
  unfold mergeRun
  refine wpAny_bind (wpAny_holding ?_)
  have hn2 := I2.hok.fresh (Nat.le_refl s2.heap.objs.size)
  have I3 := I2.laid (a := s2.heap.objs.size) (o := .dK []) (h' := s2.heap.push { cls := .type "dict", data := .dict #[] }) (t' := s2.toks) (fun _ _ q => Heap.get?_push_of_some _ q) (Nat.le_refl _) (dk_empty s2.heap I2.big)
  refine wpAny_subDict (knd := mixKind X.prog X.w) (by omega) (thn (h2 pins _ σ _ _ I3 (q2 _ hn2)) fun ws s4 ⟨ps, H4, I4, rel, kvs1, kvs2, e1, ne1, e2, ep, l1, l2, q4⟩ => ?_)
  subst ep
  obtain ⟨rs, c, rk⟩ := carries_of (P := X.prog) (w := X.w) rel
  obtain ⟨z, hd, vs0, r0, dd⟩ := dk_of I4.hok e2
  cases r0
  refine ⟨rs, c, dd, fun h5 dd5 hs5 => ?_⟩
  have hz : (mergeK [] kvs2).length ≤ 15 := by
    have h1 := length_mergeK kvs2 []
    rw [List.length_nil] at h1
    omega
  have he : ∃ q, h5.get? s2.heap.objs.size = some q := let ⟨q, _, _, hq, _⟩ := dd5; ⟨q, hq⟩
  have rk2 := rk.merge .nil
  have I5 := d_write (t' := s4.toks + ws.length) I4 (by rw [e2]; exact True.intro) hs5 he (dk_new (by rw [sizeLine_eq]; omega) hd rk2 dd5)
  have npq : s.heap.objs.size ≠ s2.heap.objs.size := fun e => by
    rw [e, e2] at e1
    cases e1
    exact ne1 rfl
  have e1' : upd H4 s2.heap.objs.size (.dK (mergeK [] kvs2)) s.heap.objs.size = some (.dK kvs1) := by rw [upd_ne npq]; exact e1
  have e2' : upd H4 s2.heap.objs.size (.dK (mergeK [] kvs2)) s2.heap.objs.size = some (.dK (mergeK [] kvs2)) := upd_same
  obtain ⟨z1, hd1, vs1, rel1, dd1⟩ := dk_of I5.hok e1'
  obtain ⟨z2, hd2, vs2, rel2, dd2⟩ := dk_of I5.hok e2'
  have ln1 := rel1.length
  have ln2 := rel2.length
  refine wpAny_bind (wpAny_onRaise (wpAny_holding (wpAny_mergeMap npq hd2 (fun e => ne1 (List.length_eq_zero_iff.mp (by rw [ln1, e]; rfl))) dd1 dd2 (by rw [sizeLine_eq]; omega) fun h6 dd6 hs6 => wpAny_pure ?_)))
  have he6 : ∃ q, h6.get? s.heap.objs.size = some q := let ⟨q, _, _, hq, _⟩ := dd6; ⟨q, hq⟩
  have hz6 : (mergeK kvs1 (mergeK [] kvs2)).length ≤ sizeLine := by
    have := length_mergeK (mergeK [] kvs2) kvs1
    rw [sizeLine_eq]; omega
  exact ⟨.ref s.heap.objs.size, _, d_write I5 (by rw [e1']; exact True.intro) hs6 he6 (dk_new hz6 hd1 (rel2.merge rel1) dd6), rfl, q4⟩
theorem forS {tl : TE} {g : TG} {tb : TS} {D : Ends} {σ : St} {H H1 : Hp} (z : Str) (hr : ∀ Q, Q (.str z) H1 → tl σ H Q) (ha : z.cps.all (· < 128) = true) (Pv : Nat → St → Hp → Prop) (h0 : Pv 0 σ H1)
    (hs : ∀ i c σ H, z.cps[i]? = some c → Pv i σ H → g (.str ⟨#[c]⟩) σ H fun σ2 H2 => tb { D with nx := Pv (i + 1), ct := Pv (i + 1), bk := D.nx } σ2 H2) (hd : ∀ σ H, Pv z.cps.size σ H → D.nx σ H) : tFor (iStr tl) g tb D σ H := by
  refine hr _ ⟨z, rfl, ha, fun i m σ H => m = z.cps.size - i ∧ i ≤ z.cps.size ∧ Pv i σ H, ⟨z.cps.size, by simp, Nat.zero_le _, h0⟩, ?_⟩
  rintro i m σ H ⟨rfl, hi, p⟩
  by_cases c : i < z.cps.size
  · refine .inr ⟨c, Pv (i + 1), fun σ' H' p' => ⟨z.cps.size - (i + 1), by omega, rfl, c, p'⟩, fun x H' y => ?_⟩
    obtain ⟨rfl, c', e, rfl⟩ := y
    exact hs i c' σ _ e p
  · have e : i = z.cps.size := by omega
    subst e
    exact .inl ⟨Nat.le_refl _, hd _ _ p⟩
theorem compS {cap : List (Option Nat)} {tl : TE} {g : TG} {tt : TT} {te : TE} {σ : St} {H H1 : Hp} {Q : VK} (z : Str) (hr : ∀ Q, Q (.str z) H1 → tl σ H Q) (ha : z.cps.all (· < 128) = true) (Pv : Addr → Nat → List V → Hp → Prop) (h0 : ∀ D, H1 D = none → Pv D 0 [] (upd H1 D (.lst [])))
    (hl : ∀ D, H1 D = none → ∀ i ys H, i ≤ z.cps.size → Pv D i ys H → H D = some (.lst ys) ∧ ys.length ≤ i) (hz : z.cps.size ≤ sizeLine)
    (hs : ∀ D, H1 D = none → ∀ i c ys H, z.cps[i]? = some c → Pv D i ys H → g (.str ⟨#[c]⟩) (capSt cap σ) H fun σ4 H4 => tt σ4 H4 fun b H5 => if b = true then te σ4 H5 fun y H6 => H6 D = some (.lst ys) ∧ Pv D (i + 1) (ys ++ [y]) (upd H6 D (.lst (ys ++ [y]))) else Pv D (i + 1) ys H5)
    (hd : ∀ D, H1 D = none → ∀ ys H, Pv D z.cps.size ys H → Q (.ref D) H) : tComp cap (iStr tl) g tt te σ H Q := by
  refine hr _ ⟨z, rfl, ha, fun D hD => ⟨fun i m ys H => m = z.cps.size - i ∧ i ≤ z.cps.size ∧ Pv D i ys H, ⟨z.cps.size, by simp, Nat.zero_le _, h0 D hD⟩, ?_⟩⟩
  rintro i m ys H2 ⟨rfl, hi, p⟩
  obtain ⟨e1, e2⟩ := hl D hD i ys H2 hi p
  refine ⟨e1, ?_⟩
  by_cases c : i < z.cps.size
  · refine .inr ⟨c, by omega, Pv D (i + 1), fun ys' H' p' => ⟨z.cps.size - (i + 1), by omega, rfl, c, p'⟩, fun x H3 y => ?_⟩
    obtain ⟨rfl, c', e, rfl⟩ := y
    exact hs D hD i c' ys _ e p
  · have e : i = z.cps.size := by omega
    subst e
    exact .inl ⟨Nat.le_refl _, hd D hD ys H2 p⟩
theorem forS_ {tl : TE} {g : TG} {tb : TS} {D : Ends} {σ : St} {H : Hp} (Pre : Str → Hp → Prop) (hr : ∀ Q, (∀ z H1, Pre z H1 → Q (.str z) H1) → tl σ H Q) (h : ∀ z H1, Pre z H1 → tFor (iStr (tC (.str z))) g tb D σ H1) : tFor (iStr tl) g tb D σ H := hr _ fun z H1 p => h z H1 p
end L2

set_option Elab.async false
set_option linter.all false
set_option maxRecDepth 100000
namespace L2
open PySem PySem.Spec PyProof.Rows
section
variable {prog : Program} {w : World} {A : Around} {E : Value → Shared → Prop} {s : Shared} {a₀ : Array Keyed}
end
section
variable {prog : Program} {w : World} {A : Around} {E : Value → Shared → Prop} {s : Shared} {T : String} {r d : Addr} {n : Nat} {P : Nat → Value → Prop} {OK : Heap → Prop} {Q : Value → Shared → Prop}
end
section
variable {X : Cx}
end
end L2

set_option Elab.async false
set_option linter.all false
set_option maxRecDepth 100000
namespace L2
open PySem PySem.Spec PyProof.Rows
def stepO (ord : List Int) (h : Int) : List Int := if h = 0 ∨ h ∈ ord then ord else ord ++ [h]
def layO (ord hs : List Int) : List Int := hs.foldl stepO ord
def thAt (ts : List Th) (z : Int) : Th := (ts.find? fun t => t.1 == z).getD (0, [], [])
def holdsAt (ts : List Th) (z : Int) : List Int := (thAt ts z).2.1
def stream (ts : List Th) (roots ord : List Int) : List Int := roots ++ ord.flatMap (holdsAt ts)
structure Cart (ts : List Th) (roots ord : List Int) : Prop where
  fix : layO [] (stream ts roots ord) = ord
  led : ∀ n, n < ord.length → ord.take (n + 1) <+: layO [] (stream ts roots (ord.take n))
end L2

set_option Elab.async false
set_option linter.all false
set_option maxRecDepth 100000
namespace L2
open PySem PySem.Spec PyProof.Rows
section
variable {X : Cx}
end
end L2

set_option Elab.async false
set_option linter.all false
set_option maxRecDepth 100000
namespace PySem
namespace F
end F
/-- what a walk of a set finds at its place i, and where it stands then -/
structure SetWalked (w : World) (a : Addr) (es : Array (Int × Value)) (ep : Nat) (t : SetTable) : Prop where
  fits : t.fits es.size = true
  plain : t.plain = true
  led : t.led = !w.params.followText "set-order"
  rise : ∀ i j, i < j → j < es.size → t.place.getD i 0 < t.place.getD j 0
end PySem
namespace PySem
section
variable {prog : Program} {w : World} {A : Around} {E : Value → Shared → Prop} {s : Shared}
end
end PySem
namespace PySem
end PySem
namespace PySem
section
variable {prog : Program} {w : World} {A : Around} {E : Value → Shared → Prop} {s : Shared}
end
end PySem
namespace PySem
section
variable {prog : Program} {w : World} {A : Around} {R : Result → Shared → Prop} {I : Addr} {fp wr : List Addr} {G : Array GenState → Array GenState → Prop} {n : Nat} {P : Nat → Value → Prop} {St : Nat → Shared → Prop}
end
section
variable {prog : Program} {w : World} {A : Around} {E : Value → Shared → Prop} {s : Shared}
end
end PySem

namespace PySem.W
section
variable {prog : Program} {w : World} {A : Around} {E : Value → Shared → Prop} {s : Shared} {r : Addr} {Q : Bool → Shared → Prop}
end
end PySem.W

set_option Elab.async false
set_option linter.all false
set_option maxRecDepth 100000
namespace L2
open PySem PySem.Spec PyProof.Rows
/-- a set of ints at a that holds just ns -/
def SetO (w : World) (a : Addr) (ns : List Int) : HO := .ext fun h => ∃ es ep t ms, h.get? a = some { cls := .type "set", data := .set es ep t } ∧ SetWalked w a es ep t ∧ IntsAre (es.toList.map (·.2)) ms ∧ ms.Perm ns
section
variable {X : Cx}
end
end L2

set_option Elab.async false
set_option linter.all false
set_option maxRecDepth 100000
namespace L2
open PySem PySem.Spec PyProof.Rows
section
variable {X : Cx}
end
section
variable {X : Cx} {K : PySem.W.Frag}
theorem op_in_seqK (hk : X.K = K) : OpR X (compareOp .In) (rIn K false) := by subst hk; exact op_in_seq
theorem call_list_ofK (hk : X.K = K) : CallR X (.type "list") (fun xs H Q => ∃ p ys, xs = [.ref p] ∧ (SqL K H p ys ∨ SqT K H p ys) ∧ ∀ l, H l = none → Q (.ref l) (upd H l (.lst ys))) := by subst hk; exact call_list_of
end
end L2

set_option Elab.async false
set_option linter.all false
set_option maxRecDepth 100000
namespace L2
open PySem PySem.Spec PyProof.Rows
structure KDct (K : PySem.W.Frag) (a : Addr) (D : List (Str × V)) : Prop where
  lo : (a == sysModules) = false
  at_ : ∃ o es ep, K.lookup a = some o ∧ o.ExactDict ∧ o.data = .dict es ep ∧ KTD.Rows RelV es.toList D
inductive KRp (K : PySem.W.Frag) : V → PyData → Prop
  | non : KRp K .non .none
  | bl (b : Bool) : KRp K (.bl b) (.bool b)
  | int (i : Int) : KRp K (.int i) (.int i)
  | str (x : Str) : KRp K (.str x) (.str x)
  | tup {a : Addr} {xs : List V} {ds : List PyData} : (∀ H, SqT K H a xs) → xs.length = ds.length → (∀ (i : Nat) (x : V) (d : PyData), xs[i]? = some x → ds[i]? = some d → KRp K x d) → KRp K (.ref a) (.tuple ds)
  | dct {a : Addr} {D : List (Str × V)} {ds : List (PyData × PyData)} : KDct K a D → D.length = ds.length → (∀ (i : Nat) (p : Str × V) (q : PyData × PyData), D[i]? = some p → ds[i]? = some q → q.1 = .str p.1) → (∀ (i : Nat) (p : Str × V) (q : PyData × PyData), D[i]? = some p → ds[i]? = some q → KRp K p.2 q.2) → KRp K (.ref a) (.dict ds)
def rdAll (f : Value → Option PyData) : List Value → Option (List PyData)
  | [] => some []
  | v :: r => match f v, rdAll f r with
    | some d, some ds => some (d :: ds)
    | _, _ => none
def rdEs (f : Value → Option PyData) : List DictEntry → Option (List (PyData × PyData))
  | [] => some []
  | e :: r => match e.key, f e.val, rdEs f r with
    | .str x _, some d, some ds => some ((.str x, d) :: ds)
    | _, _, _ => none
def rdK (K : PySem.W.Frag) : Nat → Value → Option PyData
  | 0, _ => none
  | n + 1, .none => some .none
  | n + 1, .bool b => some (.bool b)
  | n + 1, .int i _ => some (.int i)
  | n + 1, .str x _ => some (.str x)
  | n + 1, .ref a => match K.lookup a with
    | some ⟨.type "tuple", _, .seq its _, _⟩ => if its.size ≤ 1000 then (rdAll (rdK K n) its.toList).map .tuple else none
    | some ⟨.type "dict", none, .dict es _, sl⟩ => if (a == sysModules) = false ∧ sl.size = 0 then (rdEs (rdK K n) es.toList).map .dict else none
    | _ => none
  | _, _ => none
theorem rd_vals {K : PySem.W.Frag} {n : Nat} (ih : ∀ {v : Value} {d : PyData}, rdK K n v = some d → ∃ x, RelV x v ∧ KRp K x d) : ∀ {vs : List Value} {ds : List PyData}, rdAll (rdK K n) vs = some ds → ∃ xs, Vals xs vs ∧ xs.length = ds.length ∧ ∀ (i : Nat) (x : V) (d : PyData), xs[i]? = some x → ds[i]? = some d → KRp K x d
  | [], ds, h => by cases h; exact ⟨[], .nil, rfl, fun i x d e => by simp at e⟩
  | v :: r, ds, h => by
    unfold rdAll at h
    split at h
    · rename_i d ds' h1 h2
      cases h
      obtain ⟨x, r1, k1⟩ := ih h1
      obtain ⟨xs, r2, l2, k2⟩ := rd_vals ih h2
      refine ⟨x :: xs, .cons r1 r2, by rw [List.length_cons, List.length_cons, l2], fun i x' d' e1 e2 => ?_⟩
      cases i with
      | zero => cases e1; cases e2; exact k1
      | succ i => exact k2 i x' d' (by simpa using e1) (by simpa using e2)
    · cases h
theorem rd_rows {K : PySem.W.Frag} {n : Nat} (ih : ∀ {v : Value} {d : PyData}, rdK K n v = some d → ∃ x, RelV x v ∧ KRp K x d) : ∀ {es : List DictEntry} {ds : List (PyData × PyData)}, rdEs (rdK K n) es = some ds → ∃ D : List (Str × V), KTD.Rows RelV es D ∧ D.length = ds.length ∧ ∀ (i : Nat) (p : Str × V) (q : PyData × PyData), D[i]? = some p → ds[i]? = some q → q.1 = .str p.1 ∧ KRp K p.2 q.2
  | [], ds, h => by cases h; exact ⟨[], .nil, rfl, fun i x d e => by simp at e⟩
  | e :: r, ds, h => by
    unfold rdEs at h
    split at h
    · rename_i x t d ds' hk h1 h2
      cases h
      obtain ⟨y, r1, k1⟩ := ih h1
      obtain ⟨D, r2, l2, k2⟩ := rd_rows ih h2
      refine ⟨(x, y) :: D, .cons hk r1 r2, by rw [List.length_cons, List.length_cons, l2], fun i p q e1 e2 => ?_⟩
      cases i with
      | zero => cases e1; cases e2; exact ⟨rfl, k1⟩
      | succ i => exact k2 i p q (by simpa using e1) (by simpa using e2)
    · cases h
theorem rdK_ok {K : PySem.W.Frag} : ∀ {n : Nat} {v : Value} {d : PyData}, rdK K n v = some d → ∃ x, RelV x v ∧ KRp K x d
  | 0, _, _, h => by unfold rdK at h; cases h
  | n + 1, v, d, h => by
    unfold rdK at h
    split at h
    · rename_i e; cases e
    · cases h; exact ⟨.non, rfl, .non⟩
    · cases h; exact ⟨.bl _, rfl, .bl _⟩
    · cases h; exact ⟨.int _, ⟨_, rfl⟩, .int _⟩
    · cases h; exact ⟨.str _, ⟨_, rfl⟩, .str _⟩
    · rename_i m a e
      cases e
      refine ⟨.ref a, rfl, ?_⟩
      split at h
      · rename_i dd its nn sl hk
        split at h
        · rename_i hz
          cases hh : rdAll (rdK K n) its.toList with
          | none => rw [hh] at h; cases h
          | some ds =>
            rw [hh] at h
            cases h
            obtain ⟨xs, r, l, k⟩ := rd_vals (fun h => rdK_ok h) hh
            exact .tup (fun H => .inr ⟨_, its, nn, hk, rfl, rfl, by rw [sizeLine_eq]; omega, r⟩) l k
        · cases h
      · rename_i es ep sl hk
        split at h
        · rename_i hc
          cases hh : rdEs (rdK K n) es.toList with
          | none => rw [hh] at h; cases h
          | some ds =>
            rw [hh] at h
            cases h
            obtain ⟨D, r, l, k⟩ := rd_rows (fun h => rdK_ok h) hh
            exact .dct ⟨hc.1, _, es, ep, hk, ⟨rfl, rfl, by simpa using hc.2⟩, rfl, r⟩ l (fun i p q h1 h2 => (k i p q h1 h2).1) fun i p q h1 h2 => (k i p q h1 h2).2
        · cases h
      · cases h
    · cases h
theorem rdK_ref {K : PySem.W.Frag} {n : Nat} {a : Addr} {d : PyData} (h : rdK K n (.ref a) = some d) : KRp K (.ref a) d := by
  obtain ⟨x, r, k⟩ := rdK_ok h
  cases x with
  | ref b => cases (show Value.ref a = Value.ref b from r); exact k
  | int i => obtain ⟨t, e⟩ := r; cases e
  | str i => obtain ⟨t, e⟩ := r; cases e
  | byt i => obtain ⟨t, e⟩ := r; cases e
  | flt i => obtain ⟨t, e⟩ := r; cases e
  | non => cases r
  | bl b => cases r
  | ty n => cases r
section
variable {prog : Program} {w : World} {A : Around} {E : Value → Shared → Prop} {s : Shared} {a : Addr} {D : List (Str × V)} {k : Str} {tk : Tok}
def KHere (h : Heap) (a : Addr) (D : List (Str × V)) : Prop := KTD.TabOf RelV h a D
theorem KHere.typeIs (T : KHere s.heap a D) : s.TypeIs (.ref a) "dict" := let ⟨_, o, _, _, ho, hc, _⟩ := T; ⟨o, ho, hc.1⟩
theorem KHere.noDict {h : Heap} (T : KHere h a D) : ∀ b, Value.ref a = .ref b → ∃ ob, h.get? b = some ob ∧ ob.dict = none :=
  fun b e => by injection e with e; subst e; exact let ⟨_, o, _, _, ho, hc, _⟩ := T; ⟨o, ho, hc.2.1⟩
theorem kDictGet {Q : Option Value → Shared → Prop} (T : KHere s.heap a D) (h1 : ∀ x v, KTD.datumAt k D = some x → RelV x v → Q (some v) { s with toks := s.toks + 1 }) (h2 : KTD.datumAt k D = none → Q none { s with toks := s.toks + 1 }) :
    wpAny (model prog w) A (dictGet a (.str k tk)) Q E s := by
  obtain ⟨_, o, es, ep, ho, hc, hd, hr⟩ := T
  unfold dictGet
  try with_reducible refine wpAny_holding ?_
  refine wpAny_bind (wpAny_pyHash_str (wpAny_bind (KTD.kt_dictFind_strs (s := { s with toks := s.toks + 1 }) ho hd (by obtain ⟨l⟩ := es; simpa using hr.exact) ?_)))
  have hq : Q (findBy (fun k v => v.isStr k) es k) { s with toks := s.toks + 1 } := by
    have hf : findBy (fun k v => v.isStr k) es k = (es.toList.find? fun e => e.key.isStr k).map (·.val) := by
      obtain ⟨l⟩ := es
      simp [findBy]
    rw [hf]
    cases hat : KTD.datumAt k D with
    | some d => obtain ⟨v, hv, hfl⟩ := hr.find_some hat; rw [hv]; exact h1 d v hat hfl
    | none => rw [hr.find_none hat]; exact h2 hat
  rw [findBy_of_findIdx?] at hq
  cases hi : es.findIdx? fun e => e.key.isStr k with
  | none => rw [hi] at hq; exact wpAny_pure hq
  | some i => rw [hi] at hq; exact wpAny_bind (wpAny_dictEntries (s := { s with toks := s.toks + 1 }) ho hd (wpAny_pure hq))
end
theorem KDct.here {X : Cx} {pins : List (Addr × Obj)} {σ : St} {H : Hp} {s : Shared} {a : Addr} {D : List (Str × V)} (I : Inv X pins σ H s) (g : KDct X.K a D) : KHere s.heap a D := by
  obtain ⟨lo, o, es, ep, hk, hc, hd, hr⟩ := g
  exact ⟨lo, o, es, ep, I.kIn a o hk, hc, hd, hr⟩
/-- D.get(y) -/
def tKGet1 (K : PySem.W.Frag) (td ty : TE) : TE := fun σ H Q => td σ H fun x H1 => ∃ a D, x = .ref a ∧ KDct K a D ∧ ty σ H1 fun y H2 => ∃ k, y = .str k ∧ Q ((KTD.datumAt k D).getD .non) H2
section
variable {X : Cx} {o i e : Expr} {pos apos cpos : Pos} {td ty : TE} {K : PySem.W.Frag}
theorem pe_kget1 (hk : X.K = K) (ho : PE X o td) (he : PE X e ty) (m : M1 X o "get" apos e cpos) : PE X (.Call (.Attribute o "get" apos) [e] [] cpos) (tKGet1 K td ty) := by
  subst hk
  intro pins s σ H Q I h
  refine wpAny_Call_method m.base m.few m.line PySem.F.plainAttrs_dict PySem.F.slot_dict_get PySem.F.type_dict_get (thn (ho pins s σ H _ I h) fun u s1 ⟨x, H1, I1, rx, a, D, ex, g, q1⟩ => ?_)
  subst ex
  obtain rfl : u = Value.ref a := rx
  have T := g.here I1
  refine ⟨T.typeIs, T.noDict, ?_⟩
  rw [m.trees]
  refine Calls.callWith_builtin rfl (Calls.evalArgs_plain (Calls.spliced_cons (thn (he pins s1 σ H1 _ I1 q1) fun iv s2 ⟨y, H2, I2, ry, k, ey, q2⟩ => Calls.spliced_nil ?_)))
  subst ey
  obtain ⟨tk, rfl⟩ := ry
  have T2 := g.here I2
  refine wpAny_call_entry PySem.F.slot_dict_get T2.typeIs PySem.F.entry_dict_get ?_ (PySem.F.args_dict_get_2 _ _)
  show wpAny _ _ (dictGet a (.str k tk) >>= _) _ _ _
  refine wpAny_bind (kDictGet T2 (fun x v ha hv => ?_) fun hn => ?_)
  · rw [ha] at q2
    exact wpAny_pure ⟨v, rfl, ⟨x, H2, I2.tok _, hv, q2⟩⟩
  · rw [hn] at q2
    show wpAny _ _ (Builtin.Dict.missed a (.str k tk) >>= _) _ _ _
    exact wpAny_bind (wpAny_missed_other T2.1 (wpAny_pure ⟨.none, rfl, ⟨.non, H2, I2.tok _, rfl, q2⟩⟩))
end
end L2

set_option Elab.async false
set_option linter.all false
set_option maxRecDepth 100000
namespace L2
open PySem PySem.Spec PyProof.Rows
section
variable {X : Cx}
theorem vals_bl {bs : List Bool} : ∀ {us : List Value} {i : Nat} {v : Value}, Vals (bs.map V.bl) us → us[i]? = some v → v = .bool (bs.getD i false) := by
  intro us i v r e
  have hl : i < us.length := by
    rcases Nat.lt_or_ge i us.length with h | h
    · exact h
    · rw [List.getElem?_eq_none h] at e; cases e
  have hl2 : i < (bs.map V.bl).length := by rw [r.length]; exact hl
  have e2 : (bs.map V.bl)[i]? = some (.bl (bs.getD i false)) := by
    rw [List.length_map] at hl2
    rw [List.getElem?_map, List.getElem?_eq_getElem hl2, List.getD_eq_getElem?_getD, List.getElem?_eq_getElem hl2]
    rfl
  obtain ⟨u, h1, h2⟩ := Vals.get r e2
  rw [e] at h1
  cases h1
  exact h2
theorem range_all_getD (bs : List Bool) : ((List.range bs.length).all fun i => bs.getD i false) = bs.all id := by
  rw [Bool.eq_iff_iff, List.all_eq_true, List.all_eq_true]
  constructor
  · intro h x hx
    obtain ⟨i, hi, rfl⟩ := List.mem_iff_getElem.mp hx
    have := h i (List.mem_range.mpr hi)
    rw [List.getD_eq_getElem?_getD, List.getElem?_eq_getElem hi] at this
    exact this
  · intro h i hi
    have hi := List.mem_range.mp hi
    have := h _ (List.getElem_mem hi)
    rw [List.getD_eq_getElem?_getD, List.getElem?_eq_getElem hi]
    exact this
theorem call_all (hc : X.calm = true) : CallR X (.builtin "all") (fun xs H Q => ∃ (l : Addr) (bs : List Bool), xs = [.ref l] ∧ seqV H l = some (bs.map V.bl) ∧ kindV H l = some true ∧ Q (.bl (bs.all id)) H) := by
  intro pins s σ H xs us Q I r h
  obtain ⟨l, bs, rfl, hl, hk, q⟩ := h
  obtain ⟨u, rfl, ru⟩ := vals1 r
  cases ru
  obtain ⟨its, rv, pl, hz⟩ := I.list (kindV_l hl hk)
  have hlt : l < s.heap.objs.size := by obtain ⟨o, e, _⟩ := pl.isList; exact Heap.lt_size e
  refine call_all_walkS (wpAny_pyIter_list pl.isList ?_)
  have hlen : its.toArray.size = bs.length := by rw [List.size_toArray, ← rv.length, List.length_map]
  refine ⟨s.heap.objs.size, _, _, _, _, _, _, fun i => bs.getD i false, rfl, (Walks.list (A := X.A.in1) (show X.A.in1.handled = none from I.ok.hd hc) s.heap.objs.size l (Nat.ne_of_lt hlt) its.toArray).toS, ?_, ?_, ?_⟩
  · exact ⟨⟨_, Heap.get?_push_size _ rfl, rfl, rfl⟩, pl.isList.push _⟩
  · intro i v s2 Q2 E2 hv hQ
    have e := vals_bl rv (i := i) (v := v) (by simpa using hv)
    subst e
    exact wpAny_truthy_bool hQ
  · intro s' hm
    obtain ⟨h', g', d', k', o'⟩ := s'
    obtain rfl : g' = s.gens := hm.gens
    obtain rfl : d' = s.drawn := hm.drawn
    obtain rfl : o' = s.os := hm.os
    have kk : ∀ b o, s.heap.get? b = some o → h'.get? b = some o := fun b o e => hm.heap b o (fun z => absurd (Heap.lt_size e) (by rw [List.mem_singleton.mp z]; exact Nat.lt_irrefl _)) (Heap.get?_push_of_some _ e)
    refine ⟨.bl (bs.all id), H, I.kept (t' := k') kk, ?_, q⟩
    show _ = _
    rw [hlen, range_all_getD]
theorem upd_newS {H1 H : Hp} {D : Addr} {u : HO} (S : Same H1 H) (hD : H1 D = none) : Same H1 (upd H D u) := fun q o h => by
  rw [upd_ne (fun e => by rw [e, hD] at h; cases h)]
  exact S q o h
theorem take_fm {α β : Type} (f : α → Option β) (xs : List α) (i : Nat) (x : α) (h : xs[i]? = some x) : (xs.take (i + 1)).filterMap f = (xs.take i).filterMap f ++ (f x).toList := by
  rw [List.take_succ, h, List.filterMap_append]
  cases e : f x <;> simp [e]
theorem compLS {K : PySem.W.Frag} {cap : List (Option Nat)} {tl : TE} {g : TG} {tt : TT} {te : TE} {σ : St} {H H1 : Hp} {Q : VK} (a : Addr) (xs : List V) (f : V → Option V) (hr : ∀ Q, Q (.ref a) H1 → tl σ H Q) (hq : SqL K H1 a xs) (hz : xs.length ≤ sizeLine)
    (hs : ∀ x H (R : V → Hp → Prop) (N : Hp → Prop), x ∈ xs → Same H1 H → (∀ y H', f x = some y → Same H H' → R y H') → (f x = none → ∀ H', Same H H' → N H') → g x (capSt cap σ) H fun σ4 H4 => tt σ4 H4 fun b H5 => if b = true then te σ4 H5 R else N H5)
    (hd : ∀ D H', H1 D = none → Same H1 H' → H' D = some (.lst (xs.filterMap f)) → Q (.ref D) H') : tComp cap (iList K tl) g tt te σ H Q := by
  refine compL a xs hr hq (fun D i ys H2 => Same H1 H2 ∧ H2 D = some (.lst ys) ∧ ys = (xs.take i).filterMap f) (fun D hD => ⟨upd_newS (fun _ _ h => h) hD, upd_same, rfl⟩) ?_ hz ?_ ?_
  · rintro D hD i ys H2 hi ⟨S, h2, e⟩
    refine ⟨S.seq hq, h2, ?_⟩
    rw [e]
    exact Nat.le_trans (List.length_filterMap_le _ _) (by rw [List.length_take]; omega)
  · rintro D hD i x ys H2 hx ⟨S, h2, e⟩
    refine hs x H2 _ _ (List.mem_of_getElem? hx) S (fun y H' ey S2 => ⟨S2 _ _ h2, upd_newS (fun q o h => S2 _ _ (S _ _ h)) hD, upd_same, ?_⟩) (fun ey H' S2 => ⟨fun q o h => S2 _ _ (S _ _ h), S2 _ _ h2, ?_⟩)
    · rw [take_fm f xs i x hx, ey, e]; rfl
    · rw [take_fm f xs i x hx, ey, e]; simp
  · rintro D hD ys H2 ⟨S, h2, e⟩
    refine hd D H2 hD S ?_
    rw [h2, e, List.take_length]
theorem range_fm {β : Type} (f : Nat → Option β) (i : Nat) : (List.range (i + 1)).filterMap f = (List.range i).filterMap f ++ (f i).toList := by
  rw [List.range_succ, List.filterMap_append]
  cases e : f i <;> simp [e]
theorem comp1S {cap : List (Option Nat)} {ta : TA} {g : TG} {tt : TT} {te : TE} {σ : St} {H H1 : Hp} {Q : VK} (n : Int) (f : Nat → Option V) (hr : ∀ Q, Q [.int n] H1 → ta σ H Q) (n0 : -(2 ^ 62) ≤ n) (n1 : n < 2 ^ 62) (hz : n.toNat ≤ sizeLine)
    (hs : ∀ i H (R : V → Hp → Prop) (N : Hp → Prop), i < n.toNat → Same H1 H → (∀ y H', f i = some y → Same H H' → R y H') → (f i = none → ∀ H', Same H H' → N H') → g (.int (0 + i)) (capSt cap σ) H fun σ4 H4 => tt σ4 H4 fun b H5 => if b = true then te σ4 H5 R else N H5)
    (hd : ∀ D H', H1 D = none → Same H1 H' → H' D = some (.lst ((List.range n.toNat).filterMap f)) → Q (.ref D) H') : tComp cap (iRng1 ta) g tt te σ H Q := by
  refine comp1 n hr n0 n1 (fun D i ys H2 => Same H1 H2 ∧ H2 D = some (.lst ys) ∧ ys = (List.range i).filterMap f) (fun D hD => ⟨upd_newS (fun _ _ h => h) hD, upd_same, rfl⟩) ?_ hz ?_ ?_
  · rintro D hD i ys H2 hi ⟨S, h2, e⟩
    refine ⟨h2, ?_⟩
    rw [e]
    exact Nat.le_trans (List.length_filterMap_le _ _) (by rw [List.length_range]; omega)
  · rintro D hD i ys H2 hi ⟨S, h2, e⟩
    refine hs i H2 _ _ hi S (fun y H' ey S2 => ⟨S2 _ _ h2, upd_newS (fun q o h => S2 _ _ (S _ _ h)) hD, upd_same, ?_⟩) (fun ey H' S2 => ⟨fun q o h => S2 _ _ (S _ _ h), S2 _ _ h2, ?_⟩)
    · rw [range_fm f i, ey, e]; rfl
    · rw [range_fm f i, ey, e]; simp
  · rintro D hD ys H2 ⟨S, h2, e⟩
    refine hd D H2 hD S ?_
    rw [h2, e]
end
end L2

set_option Elab.async false
set_option linter.all false
set_option maxRecDepth 100000
namespace L2
open PySem PySem.Spec PyProof.Rows
section
variable {X : Cx}
end
end L2

set_option Elab.async false
set_option linter.all false
set_option maxRecDepth 100000
namespace L2
open PySem PySem.Spec PyProof.Rows
section
variable {X : Cx} {es : List Expr} {t te : TA} {s : Str} {i : Int} {j : Nat} {p : Pos}
end
section
variable {X : Cx} {e : Expr} {te : TE} {p p1 p2 pos cpos : Pos} {j : Nat} {K : PySem.W.Frag}
end
end L2

set_option Elab.async false
set_option linter.all false
set_option maxRecDepth 100000
namespace L2
open PySem PySem.Spec PyProof.Rows
section
variable {prog : Program} {w : World} {A : Around}
end
section
variable {X : Cx} {e : Expr} {te : TE} {p p1 p2 p3 p4 pos : Pos} {j : Nat} {K : PySem.W.Frag}
end
section
variable {X : Cx}
end
end L2

set_option Elab.async false
set_option linter.all false
set_option maxRecDepth 100000
namespace L2
open PySem PySem.Spec PyProof.Rows
section
variable {prog : Program} {w : World} {A : Around}
end
end L2

set_option Elab.async false
set_option linter.all false
set_option maxRecDepth 100000
namespace L2
open PySem PySem.Spec PyProof.Rows
section
variable {X : Cx} {e1 e2 : Expr} {ta : TA} {p p1 pos pos1 : Pos} {K : PySem.W.Frag}
end
end L2

set_option Elab.async false
set_option linter.all false
namespace L2
open PySem
section
variable {X : Cx}
end
end L2

set_option Elab.async false
set_option linter.all false
set_option maxRecDepth 100000
namespace L2
open PySem PySem.Spec PyProof.Rows
section
variable {prog : Program} {w : World} {A : Around}
end
section
variable {X : Cx}
end
end L2

set_option Elab.async false
set_option linter.all false
set_option maxRecDepth 100000
namespace HT
open PySem PySem.Spec PyProof.Rows
section
variable {prog : Program} {w : World} {A : Around} {E : Value → Shared → Prop} {s : Shared}
end
end HT
namespace L2
open PySem PySem.Spec PyProof.Rows
section
variable {X : Cx}
end
theorem compTS {K : PySem.W.Frag} {cap : List (Option Nat)} {tl : TE} {g : TG} {tt : TT} {te : TE} {σ : St} {H H1 : Hp} {Q : VK} (a : Addr) (xs : List V) (f : V → Option V) (hr : ∀ Q, Q (.ref a) H1 → tl σ H Q) (hq : H1 a = some (.tup xs)) (hz : xs.length ≤ sizeLine)
    (hs : ∀ x H (R : V → Hp → Prop) (N : Hp → Prop), x ∈ xs → Same H1 H → (∀ y H', f x = some y → Same H H' → R y H') → (f x = none → ∀ H', Same H H' → N H') → g x (capSt cap σ) H fun σ4 H4 => tt σ4 H4 fun b H5 => if b = true then te σ4 H5 R else N H5)
    (hd : ∀ D H', H1 D = none → Same H1 H' → H' D = some (.lst (xs.filterMap f)) → Q (.ref D) H') : tComp cap (iTup K tl) g tt te σ H Q := by
  refine compT a xs hr (.of hq) (fun D i ys H2 => Same H1 H2 ∧ H2 D = some (.lst ys) ∧ ys = (xs.take i).filterMap f) (fun D hD => ⟨upd_newS (fun _ _ h => h) hD, upd_same, rfl⟩) ?_ hz ?_ ?_
  · rintro D hD i ys H2 hi ⟨S, h2, e⟩
    refine ⟨.of (S _ _ hq), h2, ?_⟩
    rw [e]
    exact Nat.le_trans (List.length_filterMap_le _ _) (by rw [List.length_take]; omega)
  · rintro D hD i x ys H2 hx ⟨S, h2, e⟩
    refine hs x H2 _ _ (List.mem_of_getElem? hx) S (fun y H' ey S2 => ⟨S2 _ _ h2, upd_newS (fun q o h => S2 _ _ (S _ _ h)) hD, upd_same, ?_⟩) (fun ey H' S2 => ⟨fun q o h => S2 _ _ (S _ _ h), S2 _ _ h2, ?_⟩)
    · rw [take_fm f xs i x hx, ey, e]; rfl
    · rw [take_fm f xs i x hx, ey, e]; simp
  · rintro D hD ys H2 ⟨S, h2, e⟩
    refine hd D H2 hD S ?_
    rw [h2, e, List.take_length]
theorem compSS {cap : List (Option Nat)} {tl : TE} {g : TG} {tt : TT} {te : TE} {σ : St} {H H1 : Hp} {Q : VK} (z : Str) (f : Nat → Option V) (hr : ∀ Q, Q (.str z) H1 → tl σ H Q) (ha : z.cps.all (· < 128) = true) (hz : z.cps.size ≤ sizeLine)
    (hs : ∀ c H (R : V → Hp → Prop) (N : Hp → Prop), c ∈ z.cps.toList → Same H1 H → (∀ y H', f c = some y → Same H H' → R y H') → (f c = none → ∀ H', Same H H' → N H') → g (.str ⟨#[c]⟩) (capSt cap σ) H fun σ4 H4 => tt σ4 H4 fun b H5 => if b = true then te σ4 H5 R else N H5)
    (hd : ∀ D H', H1 D = none → Same H1 H' → H' D = some (.lst (z.cps.toList.filterMap f)) → Q (.ref D) H') : tComp cap (iStr tl) g tt te σ H Q := by
  refine compS z hr ha (fun D i ys H2 => Same H1 H2 ∧ H2 D = some (.lst ys) ∧ ys = (z.cps.toList.take i).filterMap f) (fun D hD => ⟨upd_newS (fun _ _ h => h) hD, upd_same, rfl⟩) ?_ hz ?_ ?_
  · rintro D hD i ys H2 hi ⟨S, h2, e⟩
    refine ⟨h2, ?_⟩
    rw [e]
    exact Nat.le_trans (List.length_filterMap_le _ _) (by rw [List.length_take]; omega)
  · rintro D hD i x ys H2 hx ⟨S, h2, e⟩
    have hx' : z.cps.toList[i]? = some x := by rw [Array.getElem?_toList]; exact hx
    refine hs x H2 _ _ (List.mem_of_getElem? hx') S (fun y H' ey S2 => ⟨S2 _ _ h2, upd_newS (fun q o h => S2 _ _ (S _ _ h)) hD, upd_same, ?_⟩) (fun ey H' S2 => ⟨fun q o h => S2 _ _ (S _ _ h), S2 _ _ h2, ?_⟩)
    · rw [take_fm f _ i x hx', ey, e]; rfl
    · rw [take_fm f _ i x hx', ey, e]; simp
  · rintro D hD ys H2 ⟨S, h2, e⟩
    refine hd D H2 hD S ?_
    rw [h2, e, ← Array.length_toList, List.take_length]
inductive All2 {α β : Type} (R : α → β → Prop) : List α → List β → Prop
  | nil : All2 R [] []
  | cons {a b as bs} (h : R a b) (t : All2 R as bs) : All2 R (a :: as) (b :: bs)
namespace All2
variable {α β : Type} {R S : α → β → Prop}
theorem len {as : List α} {bs : List β} (h : All2 R as bs) : as.length = bs.length := by
  induction h with
  | nil => rfl
  | cons _ _ ih => simp [ih]
theorem imp (f : ∀ a b, R a b → S a b) {as : List α} {bs : List β} (h : All2 R as bs) : All2 S as bs := by
  induction h with
  | nil => exact .nil
  | cons h _ ih => exact .cons (f _ _ h) ih
theorem append {as as' : List α} {bs bs' : List β} (h : All2 R as bs) (h' : All2 R as' bs') : All2 R (as ++ as') (bs ++ bs') := by
  induction h with
  | nil => exact h'
  | cons h _ ih => exact .cons h ih
theorem take {as : List α} {bs : List β} (h : All2 R as bs) : ∀ n, All2 R (as.take n) (bs.take n) := by
  induction h with
  | nil => intro n; simp; exact .nil
  | cons h _ ih =>
    intro n
    cases n with
    | zero => exact .nil
    | succ n => exact .cons h (ih n)
theorem drop {as : List α} {bs : List β} (h : All2 R as bs) : ∀ n, All2 R (as.drop n) (bs.drop n) := by
  induction h with
  | nil => intro n; simp; exact .nil
  | cons h t ih =>
    intro n
    cases n with
    | zero => exact .cons h t
    | succ n => exact ih n
theorem get {as : List α} {bs : List β} (h : All2 R as bs) : ∀ (i : Nat) (a : α) (b : β), as[i]? = some a → bs[i]? = some b → R a b := by
  induction h with
  | nil => intro i a b e; simp at e
  | cons h _ ih =>
    intro i a b e1 e2
    cases i with
    | zero => cases e1; cases e2; exact h
    | succ i => exact ih i a b e1 e2
theorem get2 {as : List α} {bs : List β} (h : All2 R as bs) {i : Nat} {b : β} (e : bs[i]? = some b) : ∃ a, as[i]? = some a ∧ R a b := by
  have hi : i < as.length := by rw [h.len]; exact (List.getElem?_eq_some_iff.mp e).1
  exact ⟨as[i], List.getElem?_eq_getElem hi, h.get i _ _ (List.getElem?_eq_getElem hi) e⟩
theorem of_get {as : List α} {bs : List β} (l : as.length = bs.length) (h : ∀ (i : Nat) (a : α) (b : β), as[i]? = some a → bs[i]? = some b → R a b) : All2 R as bs := by
  induction as generalizing bs with
  | nil => cases bs with
    | nil => exact .nil
    | cons => simp at l
  | cons a as ih => cases bs with
    | nil => simp at l
    | cons b bs => exact .cons (h 0 a b rfl rfl) (ih (by simpa using l) fun i => h (i + 1))
theorem mem {as : List α} {bs : List β} (h : All2 R as bs) {a : α} (m : a ∈ as) : ∃ b ∈ bs, R a b := by
  induction h with
  | nil => cases m
  | cons h _ ih =>
    rcases List.mem_cons.mp m with rfl | m
    · exact ⟨_, List.mem_cons_self, h⟩
    · obtain ⟨b, mb, r⟩ := ih m
      exact ⟨b, List.mem_cons_of_mem _ mb, r⟩
end All2
end L2

set_option Elab.async false
set_option linter.all false
set_option maxRecDepth 100000
namespace L2
open PySem PySem.Spec PyProof.Rows
section
variable {X : Cx} {CX : CXT} {k : Nat} {E : XK} {p pos spos : Pos} {e i o : Expr} {es : List Expr} {tk : TE} {t : TA} {g : Addr}
end
end L2

set_option Elab.async false
set_option linter.all false
set_option maxRecDepth 100000
namespace HT
open PySem PySem.Spec PyProof.Rows
end HT
namespace L2
open PySem PySem.Spec PyProof.Rows
section
variable {X : Cx}
end
end L2

set_option Elab.async false
set_option linter.all false
set_option maxRecDepth 100000
namespace HT
open PySem PySem.Spec PyProof.Rows PySem.W
section
variable {prog : Program} {w : World} {A : Around} {E : Value → Shared → Prop} {h : Heap} {g : Array GenState} {d : Drawn} {t : Nat} {os : OsState} {a C : Addr} {o : Obj} {K : Frag}
/-- what an exception's class is, by K -/
def xcOk (K : Frag) (C : Addr) : Bool := findIn K (.ref C) "__getattribute__" == some (some (.builtin "BaseException.__getattribute__")) && findIn K (.ref C) "__getattr__" == some none && findIn K (.ref C) "__class__" == some (some (.builtin "object.__class__")) &&
  mroIn K C (.type "object") == some true && mroIn K C (.type "BaseException") == some true && (clsIn K C).isSome && typeIn K (.ref C) == some (.type "type") && instIn K (.ref C) (.type "type") == some true
structure XcOk (K : Frag) (C : Addr) : Prop where
  ga : findIn K (.ref C) "__getattribute__" = some (some (.builtin "BaseException.__getattribute__"))
  gn : findIn K (.ref C) "__getattr__" = some none
  cl : findIn K (.ref C) "__class__" = some (some (.builtin "object.__class__"))
  ob : mroIn K C (.type "object") = some true
  be : mroIn K C (.type "BaseException") = some true
  cd : (clsIn K C).isSome = true
  ty : typeIn K (.ref C) = some (.type "type")
  tt : instIn K (.ref C) (.type "type") = some true
theorem xcOk_of (e : xcOk K C = true) : XcOk K C := by
  unfold xcOk at e
  simp only [Bool.and_eq_true, beq_iff_eq] at e
  obtain ⟨⟨⟨⟨⟨⟨⟨e1, e2⟩, e3⟩, e4⟩, e5⟩, e6⟩, e7⟩, e8⟩ := e
  exact ⟨e1, e2, e3, e4, e5, e6, e7, e8⟩
theorem exc_type {M : Model} (hx : h.get? a = some o) (hc : o.cls = .ref C) : Looks M h (typeOf (.ref a)) (.ref C) := hc ▸ (Looks.ld hx).andThen .now
theorem xclass_get {R : Result → Shared → Prop} {tp : Value} (X : K.In h) (k : XcOk K C) (hx : h.get? a = some o) (hc : o.cls = .ref C) (hq : R (.ok (.ret (.ref C))) ⟨h, g, d, t, os⟩) :
    codeAny (model prog w) A (.call (.builtin "getset_descriptor.__get__") ⟨[.builtin "object.__class__", .ref a, tp], []⟩) R ⟨h, g, d, t, os⟩ := by
  have L0 := exc_type (M := model prog w) hx hc
  have L1 : Looks (model prog w) h (isSubtype (.ref C) (.type (".".intercalate ("object.__class__".cutAt '.').dropLast))) true := by rw [F.owner_object_class]; exact looks_mroIn (M := model prog w) X k.ob
  have hT5 : (⟨h, g, d, t, os⟩ : Shared).TypeIs (.builtin "object.__class__") "getset_descriptor" := F.typeOf_object_class
  refine codeAny_call_builtin F.slot_gs_get.plain F.entry_gs_get (F.slot_gs_get.check _ _ _ _ _ _ _ _ hT5 (F.args_gs_get _ _ _) ?_)
  repeat (any_goals (first | assumption | (with_reducible refine L0.at ?_) | (with_reducible refine L1.at ?_) | (with_reducible refine wpAny_loadPart_at hx ?_; rw [hc]) | wp_step))
  refine ⟨Code.quiet_builtin _ (by decide +kernel), codeAny_builtin F.entry_object_class ?_⟩
  repeat (any_goals (first | assumption | (with_reducible refine L0.at ?_) | (with_reducible refine wpAny_loadPart_at hx ?_; rw [hc]) | wp_step))
theorem xclass_entry {tk : Tok} {Q : Fin → Shared → Prop} (X : K.In h) (k : XcOk K C) (hx : h.get? a = some o) (hc : o.cls = .ref C) (hq : Q (.done (.ret (.ref C))) ⟨h, g, d, t, os⟩) :
    wpAny (model prog w) A (Builtin.«object.__getattribute__» ⟨[.ref a, .str "__class__" tk], []⟩) Q E ⟨h, g, d, t, os⟩ := by
  have L0 := exc_type (M := model prog w) hx hc
  have L1 := looks_findIn (M := model prog w) X k.cl
  have f5 := F.typeOf_object_class
  have f6 := F.slot_gs_get.lookup
  have f7 := F.slot_gs_set.lookup
  repeat (any_goals (first | assumption | (with_reducible refine L0.at ?_) | (with_reducible refine L1.at ?_) | (with_reducible refine wpAny_loadPart_at hx ?_; rw [hc]) | wp_step))
  refine xclass_get X k hx hc ?_
  repeat (any_goals (first | assumption | wp_step))
theorem xclass_call {tk : Tok} {R : Result → Shared → Prop} (X : K.In h) (k : XcOk K C) (hx : h.get? a = some o) (hc : o.cls = .ref C) (hq : R (.ok (.ret (.ref C))) ⟨h, g, d, t, os⟩) :
    codeAny (model prog w) A (.call (.builtin "BaseException.__getattribute__") ⟨[.ref a, .str "__class__" tk], []⟩) R ⟨h, g, d, t, os⟩ := by
  have hk : builtinKind "BaseException.__getattribute__" = some .slot := by decide +kernel
  have hsplit : splitId "BaseException.__getattribute__" = some ("BaseException", "__getattribute__") := by decide +kernel
  have ha := F.args_bexc_ga (.ref a) (.str "__class__" tk)
  have L0 := exc_type (M := model prog w) hx hc
  have L1 := looks_mroIn (M := model prog w) X k.be
  refine codeAny_call_builtin (by decide +kernel) F.entry_bexc_ga ?_
  simp only [checkBuiltinCall, hk, hsplit]
  refine wpAny_bind ?_
  unfold isInstance
  repeat (any_goals (first | (with_reducible exact xclass_entry X k hx hc hq) | (with_reducible refine L0.at ?_) | (with_reducible refine L1.at ?_) | (with_reducible refine wpAny_loadPart_at hx ?_; rw [hc]) | wp_step))
theorem xga_bind (self : Value) : bindSpecial (.builtin "BaseException.__getattribute__") self = pure (.builtin "BaseException.__getattribute__", [self]) := by
  have hop : withoutEnding? "BaseException.__getattribute__" "#opaque" = none := by decide +kernel
  have hdat : withoutEnding? "BaseException.__getattribute__" "#data" = none := by decide +kernel
  have hk : builtinKind "BaseException.__getattribute__" = some .slot := by decide +kernel
  simp only [bindSpecial, typeOf, builtinType, hop, hdat, hk]; rfl
theorem xclass_by {tk : Tok} {Q : Value → Shared → Prop} (X : K.In h) (k : XcOk K C) (hx : h.get? a = some o) (hc : o.cls = .ref C) (hq : Q (.ref C) ⟨h, g, d, t, os⟩) :
    wpAny (model prog w) A (getAttrBy (.ref a) (.str "__class__" tk) false) Q E ⟨h, g, d, t, os⟩ := by
  have L0 := exc_type (M := model prog w) hx hc
  have L1 := looks_findIn (M := model prog w) X k.ga
  have L2 := looks_findIn (M := model prog w) X k.gn
  have hx2 : (Value.builtin "BaseException.__getattribute__" == Value.builtin "object.__getattribute__") = false := by decide +kernel
  have hx1 : (onTheHeap (Value.ref C) && Value.builtin "BaseException.__getattribute__" == Value.builtin "object.__getattribute__") = false := by rw [hx2]; rfl
  have f3 := xga_bind (.ref a)
  have hx0 : (false && onTheHeap (Value.builtin "BaseException.__getattribute__")) = false := rfl
  repeat (any_goals (first | assumption | (with_reducible refine L0.at ?_) | (with_reducible refine L1.at ?_) | (with_reducible refine L2.at ?_) | (with_reducible refine wpAny_loadPart_at hx ?_; rw [hc]) | wp_step))
  refine xclass_call X k hx hc ?_
  repeat (any_goals (first | assumption | wp_step))
theorem xclass_attr {Q : Option Value → Shared → Prop} (X : K.In h) (k : XcOk K C) (hx : h.get? a = some o) (hc : o.cls = .ref C) (hq : Q (some (.ref C)) ⟨h, g, d, t + 1, os⟩) : wpAny (model prog w) A (getAttr? (.ref a) "__class__") Q E ⟨h, g, d, t, os⟩ := by
  unfold getAttr? getAttrBy?
  repeat (any_goals (first | assumption | with_reducible apply xclass_by X k hx hc | wp_step))
/-- what isinstance says of an exception -/
theorem kitx_exc (k : XcOk K C) : KitX K (.ref a) (.ref C) (fun h => ∃ o, h.get? a = some o ∧ o.cls = .ref C) where
  ty := fun _ _ _ ⟨_, h1, h2⟩ => exc_type h1 h2
  it := fun _ _ X _ => by
    have := k.cd
    unfold clsIn at this
    split at this
    · rename_i c' d' cd' sl' ho
      intro A' Q' E' s' k q
      unfold isType loadHead
      exact wpAny_bind (wpAny_loadPart (k _ _ (X _ _ ho)) (wpAny_pure q))
    · cases this
  ne := fun h tp dd its n sl X htp => by
    refine Bool.eq_false_iff.mpr fun q => ?_
    have e : C = tp := Value.ref.inj (beq_iff_eq.mp q)
    subst e
    have := k.cd
    unfold clsIn at this
    split at this
    · rename_i ho
      have := X _ _ ho
      rw [htp] at this
      cases this
    · cases this
  ca := fun {prog w A E Q s} X p q => by
    obtain ⟨h, g, d, t, os⟩ := s
    obtain ⟨o, h1, h2⟩ := p
    exact xclass_attr X k h1 h2 q
/-- the law's classes of exceptions, one above the others -/
def xTab (K : Frag) (root : Addr) (cs : List Addr) : Bool := decide cs.Nodup && cs.all fun c => xcOk K c && kitOne K (.ref c) (.type "ValueError") == some true && exmOne K (.ref c) (.ref root) == some true && cs.all fun d => kitOne K (.ref c) (.ref d) == some (decide (c = d ∨ d = root))
structure XTab (K : Frag) (root : Addr) (cs : List Addr) : Prop where
  nd : cs.Nodup
  ok : ∀ c ∈ cs, XcOk K c
  ve : ∀ c ∈ cs, kitOne K (.ref c) (.type "ValueError") = some true
  mt : ∀ c ∈ cs, exmOne K (.ref c) (.ref root) = some true
  is : ∀ c ∈ cs, ∀ d ∈ cs, kitOne K (.ref c) (.ref d) = some (decide (c = d ∨ d = root))
theorem xTab_of {root : Addr} {cs : List Addr} (e : xTab K root cs = true) : XTab K root cs := by
  unfold xTab at e
  rw [Bool.and_eq_true] at e
  obtain ⟨e1, e2⟩ := e
  rw [List.all_eq_true] at e2
  have key : ∀ c ∈ cs, xcOk K c = true ∧ kitOne K (.ref c) (.type "ValueError") = some true ∧ exmOne K (.ref c) (.ref root) = some true ∧ ∀ d ∈ cs, kitOne K (.ref c) (.ref d) = some (decide (c = d ∨ d = root)) := fun c hc => by
    have := e2 c hc
    rw [Bool.and_eq_true, Bool.and_eq_true, Bool.and_eq_true] at this
    obtain ⟨⟨⟨a1, a2⟩, a3⟩, a4⟩ := this
    rw [List.all_eq_true] at a4
    exact ⟨a1, beq_iff_eq.mp a2, beq_iff_eq.mp a3, fun d hd => beq_iff_eq.mp (a4 d hd)⟩
  exact ⟨of_decide_eq_true e1, fun c hc => xcOk_of (key c hc).1, fun c hc => (key c hc).2.1, fun c hc => (key c hc).2.2.1, fun c hc => (key c hc).2.2.2⟩
end
end HT
namespace L2
open PySem PySem.Spec PyProof.Rows
/-- an exception of class C, while it is handled -/
def excO (C ea : Addr) : HO := .ext fun h => ∃ o, h.get? ea = some o ∧ o.cls = .ref C
section
variable {X : Cx} {pins : List (Addr × Obj)} {σ : St} {H : Hp} {s : Shared}
theorem Inv.exc {ea C : Addr} {oe : Obj} {vs : Array Value} (I : Inv X pins σ H s) (he : s.heap.get? ea = some oe) (hc : oe.cls = .ref C) (hd : oe.data = .fields vs) (n0 : X.s₀.heap.get? ea = none) (hn : H ea = none) (np : ∀ p ∈ X.pn ++ pins, p.1 ≠ ea) : Inv X pins σ (upd H ea (excO C ea)) s := by
  have ne : ∀ b o, H b = some o → b ≠ ea := fun b o e z => by rw [z, hn] at e; cases e
  refine ⟨I.ok, I.os, I.bare, ⟨I.base.keep, I.base.slot, fun b o e n hx => ?_, I.base.there, fun b xs e => ?_, fun b o u e => ?_, fun b ps e => ?_⟩, I.loc, I.cell, ?_, fun x c e => ?_, fun p hp => ?_, fun b u e => ?_, I.len⟩
  · rw [upd_ne (fun z => by rw [z, n0] at e; cases e)]
    exact I.base.free b o e n hx
  · have := I.base.tups b xs e
    rw [upd_ne (ne _ _ this)]; exact this
  · have := I.base.frzs b o u e
    rw [upd_ne (ne _ _ this)]; exact this
  · obtain ⟨more, this⟩ := I.base.tbls b ps e
    exact ⟨more, by rw [upd_ne (ne _ _ this)]; exact this⟩
  · rw [upd_ne (fun z => ?_)]
    · exact I.free
    · obtain ⟨m, ⟨o, es, ep, e1, e2, _⟩, _⟩ := I.loc
      rw [z, he] at e1
      cases e1
      rw [hd] at e2; cases e2
  · rw [upd_ne (fun z => ?_)]
    · exact I.freeC x c e
    · obtain ⟨v, o, e1, e2⟩ := I.cell x c e
      rw [z, he] at e1
      cases e1
      rw [hd] at e2; cases e2
  · obtain ⟨p1, p2, p3⟩ := I.pin p hp
    exact ⟨p1, by rw [upd_ne (np p hp)]; exact p2, p3⟩
  · by_cases hb : b = ea
    · subst hb
      rw [upd_same] at e
      cases e
      exact ⟨⟨oe, he, hc⟩, ⟨oe, he⟩, fun h1 h2 ⟨o, z1, z2⟩ k => ⟨o, k o z1, z2⟩⟩
    · rw [upd_ne hb] at e
      exact (I.hok b u e).stay (fun c v _ q => q) (fun c q => by rw [upd_ne (ne _ _ q)]; exact q) fun c xs q => by rw [upd_ne (ne _ _ q)]; exact q
/-- a name goes -/
theorem gone_ok {M : Model} {A : Around} {E : Value → Shared → Prop} {i : Nat} {x : Str} {pos : Pos} {Q : Unit → Shared → Prop} (I : Inv X pins σ H s) (hN : X.N.Nodup) (hi : X.N[i]? = some x) (hk : X.env.scope.names.lookup x = some .local)
    (h : ∀ s', Inv X pins (σ.set i none) H s' → Q () s') : wpAny M A (do bindName X.env x .none; unbindBehindTheSuite X.env x pos) Q E s := by
  obtain ⟨m, hn, hl⟩ := id I.loc
  have hcls : (X.env.scope.kind == .class || (X.env.scope.kind == .module && X.env.locals != X.env.globals)) = false := by rw [I.ok.kind]; rfl
  have hiσ : i < σ.length := by rw [I.len]; exact (List.getElem?_eq_some_iff.mp hi).1
  have cne := I.cne
  have tracked : ∀ {a : Addr} {h' : Heap}, (∃ o, s.heap.get? a = some o ∧ H a = none) → Heap.SameBut a s.heap h' → HOk X.prog X.w H h' := fun {a h'} ha hs b ob e => by
    obtain ⟨_, _, hfree⟩ := ha
    refine (I.hok b ob e).stay (fun c w' hc q => (hs.2 c ?_).trans q) (fun _ q => q) fun _ _ q => q
    rintro rfl
    rcases hc with rfl | hc
    · rw [hfree] at e; cases e
    · rw [hfree] at hc; cases hc
  refine wpAny_nameGoes_keeps hk hn hcls fun h' v hn' hs => ?_
  obtain ⟨oL, _, _, hoL, _⟩ := id hn
  refine h _ ⟨I.ok, I.os, I.bare, ⟨fun b o e n hb hx => ?_, fun b o e n hb hx => ?_, I.base.free, fun b o e hx => ?_, I.base.tups, I.base.frzs, I.base.tbls⟩, ⟨_, hn', fun j y v' e1 e2 e3 => ?_⟩, fun y c e => ?_, I.free, I.freeC, fun p hp => ?_, tracked ⟨oL, hoL, I.free⟩ hs, by simpa using I.len⟩
  · exact (hs.2 b (Nat.ne_of_lt (Nat.lt_of_lt_of_le (Heap.lt_size e) I.ok.above))).trans (I.base.keep b o e n hb hx)
  · obtain ⟨sl, e1⟩ := I.base.slot b o e n hb hx
    exact ⟨sl, (hs.2 b (Nat.ne_of_lt (Nat.lt_of_lt_of_le (Heap.lt_size e) I.ok.above))).trans e1⟩
  · obtain ⟨o', e1⟩ := I.base.there b o e hx
    exact ⟨o', (hs.2 b (Nat.ne_of_lt (Nat.lt_of_lt_of_le (Heap.lt_size e) I.ok.above))).trans e1⟩
  · by_cases hj : j = i
    · subst hj
      rw [List.getElem?_set_self hiσ] at e2
      cases e2
    · rw [List.getElem?_set_ne (Ne.symm hj)] at e2
      obtain ⟨u', r', q⟩ := hl j y v' e1 e2 e3
      refine ⟨u', r', ?_⟩
      rcases q with ⟨k, e⟩ | ⟨k, c, e, z⟩
      · refine .inl ⟨k, ?_⟩
        have : y ≠ x := fun e => hj (nodup_ix hN e1 (e ▸ hi))
        simp [this, e]
      · exact .inr ⟨k, c, e, z.sameBut hs (cne y c e)⟩
  · obtain ⟨w', z⟩ := I.cell y c e
    exact ⟨w', z.sameBut hs (cne y c e)⟩
  · obtain ⟨e, n, ne, nf, d⟩ := I.pin p hp
    exact ⟨(hs.2 p.1 ne).trans e, n, ne, nf, d⟩
end
section
variable {X : Cx}
def EXs (cs : List Addr) (R : Addr → St → Hp → Prop) : St → XK := fun σ cls _ H' => ∃ C ∈ cs, cls = .ref C ∧ R C σ H'
/-- behind the handler its name is gone -/
def goneD (i : Nat) (D : Ends) : Ends := { nx := fun σ H => D.nx (σ.set i none) H, rt := D.rt, bk := fun σ H => D.bk (σ.set i none) H, ct := fun σ H => D.ct (σ.set i none) H }
/-- try: body except D as n: suite (D or a class below it is caught) -/
theorem ps_tryAs {body : List Stmt} {x n : Str} {np pos pos' : Pos} {b0 : Stmt} {suite : List Stmt} {Dr : Addr} {cs : List Addr} {i : Nat} {tb : (Addr → St → Hp → Prop) → TS} {th : TS} (xt : HT.XTab X.K Dr cs) (hg : Gl X x) (hm : X.mg x = some (.ref Dr)) (hstk : X.stack = X.env :: X.outer) (hfr : X.env.frame = some X.env.locals)
    (hN : X.N.Nodup) (hi : X.N[i]? = some n) (hk : X.env.scope.names.lookup n = some .local)
    (hb : ∀ (pn : List (Addr × Obj)) (W : Value → Shared → Prop) (R : Addr → St → Hp → Prop), PassesE X.prog X.w (X.tr pn W) (EXs cs R) → PSs (X.tr pn W) body (tb R)) (hs : ∀ e, PSs (X.hdl e) (b0 :: suite) th) (hdb : (x == ("__debug__" : Str)) = false := by decide) (hex : X.ex = [] := by rfl) :
    PS X (.Try body [.ExceptHandler (some (.Name x np)) (some n) (b0 :: suite) pos] [] [] pos') (fun D σ H => tb (fun C σ' H' => ∀ ea, H' ea = none → th (goneD i D) (σ'.set i (some (.ref ea))) (upd H' ea (excO C ea))) D σ H) := by
  intro pins s σ H D I h
  refine wpAny_Try_except ?_
  have key := hb (X.pn ++ pins) (fun e s1 => wpAny (model X.prog X.w) X.A (noteFrame e X.env) (fun _ s2 => wpAny (model X.prog X.w) X.A (setFlight e none) (fun _ s3 =>
    wpAny (model X.prog X.w) X.A (handleBy e X.env [.ExceptHandler (some (.Name x np)) (some n) (b0 :: suite) pos]) (SP X pins D) X.xe s3) X.xe s2) X.xe s1) (fun C σ' H' => ∀ ea, H' ea = none → th (goneD i D) (σ'.set i (some (.ref ea))) (upd H' ea (excO C ea))) ?_
  · refine wpAny_mono (key [] s σ H D (I.tr _) h) (fun f s1 z => ?_) fun _ _ z => z
    cases f with
    | next =>
      obtain ⟨σ1, H1, I1, q1⟩ := z
      exact wpAny_execs_nil ⟨σ1, H1, I1.untr, q1⟩
    | ret u =>
      obtain ⟨v, σ1, H1, I1, r1, q1⟩ := z
      exact ⟨v, σ1, H1, I1.untr, r1, q1⟩
    | brk =>
      obtain ⟨σ1, H1, I1, q1⟩ := z
      exact ⟨σ1, H1, I1.untr, q1⟩
    | cont =>
      obtain ⟨σ1, H1, I1, q1⟩ := z
      exact ⟨σ1, H1, I1.untr, q1⟩
  · intro pins' σ1 H1 s1 e s2 J hq
    obtain ⟨ea, t, C', B, H', rfl, os, bare, un, hok, fl, hB, C, hC, hC', hR⟩ := hq
    obtain rfl : C' = C := Value.ref.inj hC'
    have J : Inv X pins σ1 H1 s1 := J.untr
    have un : Un (frs X.stack) [] H1 H' s1.heap s2.heap := un
    have hok : HOk X.prog X.w H' s2.heap := hok
    have fl : Heap.FlyingW B (X.env :: X.outer) ea (.ref C') (.ref t) s2.heap := by rw [← hstk]; exact fl
    have frm : X.A.frames = some (X.env :: X.outer) := by rw [← hstk]; exact J.ok.frames
    refine wpAny_looks_onW frm hfr fl fun h4 held4 sm4 => ?_
    refine wpAny_landsW held4 fun h5 fl5 sm5 => ?_
    have up5 := sm4.trans sm5
    obtain ⟨J5, hok5, un5⟩ := J.flown (s' := s2) un hok os bare hB fl5.1 up5
    refine wpAny_handleBy_cons (codeAny_handlers_test ?_) (by intro z; cases z)
    have G5 : Inv (X.hdl (.ref ea)) pins σ1 H' { s2 with heap := h5 } := J5.hdl _
    refine ld_glob (X := X.hdl (.ref ea)) G5 hg hm ?_ hdb
    obtain ⟨ob, hob, hobc⟩ := fl5.there
    have LM := PySem.W.exm_one (M := model X.prog X.w) J5.kIn (HT.exc_type hob hobc) (xt.mt C' hC)
    refine LM.at ?_
    refine codeAny_handlers_suite_as ?_
    refine lands_againW fl5 fun h6 fl6 sm6 => ?_
    obtain ⟨J6, hok6, un6⟩ := J.flown (s' := s2) un hok os bare hB fl6.1 (up5.trans sm6)
    have nB := fl6.2.1
    obtain ⟨oe, vs, _, _, _, he, hce, hd, _⟩ := fl6.2.2.2
    have nfr : ea ∉ frs X.stack := fun z => by
      obtain ⟨o1, e1, d1⟩ := J6.frameData z
      rw [he] at e1
      cases e1
      exact d1 _ hd
    have new : ∀ o', s1.heap.get? ea = some o' → False := fun o' z => by
      obtain ⟨o2, e2⟩ := un.there ea o' z (by simp)
      have := hB ea o2 e2 nfr (.inr ⟨o', z⟩)
      rw [nB] at this; cases this
    have nH : H' ea = none := by
      cases z : H' ea with
      | none => rfl
      | some u =>
        obtain ⟨o2, e2⟩ := HOk.obj hok z
        have := hB ea o2 e2 nfr (.inl ⟨u, z⟩)
        rw [nB] at this; cases this
    have n0 : X.s₀.heap.get? ea = none := by
      cases z : X.s₀.heap.get? ea with
      | none => rfl
      | some o' =>
        obtain ⟨o2, e2⟩ := J.base.there ea o' z (by rw [hex]; simp)
        exact (new _ e2).elim
    have np : ∀ p ∈ X.pn ++ pins, p.1 ≠ ea := fun p hp z => by
      obtain ⟨e1, _⟩ := J.pin p hp
      rw [z] at e1
      exact (new _ e1).elim
    have K6 := (J6.exc he hce.1 hd n0 nH np).hdl (.ref ea)
    refine store_ok (X := X.hdl (.ref ea)) K6 hN hi (.inl hk) (v := .ref ea) rfl (fun s7 I7 => ?_) (.inr hk)
    refine wpAny_mono (hs (.ref ea) pins s7 _ _ (goneD i D) I7 (hR ea nH)) (fun f s8 z => ?_) fun _ _ z => False.elim z
    cases f with
    | next =>
      obtain ⟨σ8, H8, I8, q8⟩ := z
      exact gone_ok (I8.unhdl I.ok.hd) hN hi hk fun s9 I9 => ⟨_, H8, I9, q8⟩
    | ret u =>
      obtain ⟨v, σ8, H8, I8, r8, q8⟩ := z
      exact gone_ok (I8.unhdl I.ok.hd) hN hi hk fun s9 I9 => ⟨v, _, H8, I9, r8, q8⟩
    | brk =>
      obtain ⟨σ8, H8, I8, q8⟩ := z
      exact gone_ok (I8.unhdl I.ok.hd) hN hi hk fun s9 I9 => ⟨_, H8, I9, q8⟩
    | cont =>
      obtain ⟨σ8, H8, I8, q8⟩ := z
      exact gone_ok (I8.unhdl I.ok.hd) hN hi hk fun s9 I9 => ⟨_, H8, I9, q8⟩
/-- f(e, ..) whose exception is caught here -/
def tCallE (sp : Sp) (dvs : List V) (E : St → XK) (t : TA) : TE := fun σ H Q => t σ H fun vs H1 => sp (vs ++ dvs) H1 Q (E σ)
theorem pe_callE {k : Nat} {f : Addr} {fd : FuncData} {ps : List Str} {sp : Sp} {dvs : List V} {ds : List Value} {E : St → XK} {x : Str} {p pos : Pos} {e : Expr} {es : List Expr} {t : TA} (F : FnOk X.prog X.w X.K X.mg X.base (CX1 X.prog X.w) k f fd ps sp) (hr : Room k X.A) (hg : Gl X x) (hm : X.mg x = some (.ref f)) (hk : PySem.W.keepIn X.K (.ref f) = true) (hb : Binds X.K fd ps ds) (hd : Vals dvs ds) (hx : PassesE X.prog X.w X E)
    (ha : PA X (e :: es) t) (hdb : (x == ("__debug__" : Str)) = false := by decide) (he : starEach (e :: es) X.env = (false, eval e X.env) :: starEach es X.env := by rfl) (hpl : (backTo pos (starEach es X.env)).any (·.1) = false := by rfl) :
    PE X (.Call (.Name x p) (e :: es) [] pos) (tCallE sp dvs E t) := by
  intro pins s σ H Q I h
  refine wpAny_Call_Name_kw (ld_glob I hg hm ?_ hdb)
  refine PySem.W.callWith_K (h₀ := X.base) I.ok.mod.kin hk (thn (ha pos pins s σ H _ I h) fun us s1 ⟨vs, H1, I1, r, q⟩ => ⟨I1.kIn, ?_⟩) he hpl
  exact run_fnE F hr hb hd hx I1 r q
theorem vals_refsX : ∀ {ds : List Addr} {its : List Value}, Vals (ds.map V.ref) its → its = ds.map Value.ref
  | [], its, r => by cases r; rfl
  | d :: ds, its, r => by
    cases r with
    | cons r1 r2 => rw [vals_refsX r2, show _ = Value.ref d from r1]; rfl
theorem call_isX {Dr : Addr} {cs : List Addr} (xt : HT.XTab X.K Dr cs) : CallR X (.builtin "isinstance") (fun xs H Q => ∃ ea C, H ea = some (excO C ea) ∧ C ∈ cs ∧
    ((∃ D, xs = [.ref ea, .ref D] ∧ D ∈ cs ∧ Q (.bl (decide (C = D ∨ D = Dr))) H) ∨ (xs = [.ref ea, .ty "ValueError"] ∧ Q (.bl true) H) ∨ ∃ (p : Addr) (ds : List Addr), xs = [.ref ea, .ref p] ∧ H p = some (.tup (ds.map V.ref)) ∧ (∀ d ∈ ds, d ∈ cs) ∧ Q (.bl (ds.any fun d => decide (C = d ∨ d = Dr))) H)) := by
  intro pins s σ H xs us Q I r h
  obtain ⟨ea, C, hea, hC, h⟩ := h
  obtain ⟨hφ, _, _⟩ := (show ObjOk X.prog X.w H s.heap ea (excO C ea) from I.hok ea _ hea)
  have Z := HT.kitx_exc (a := ea) (xt.ok C hC)
  rcases h with ⟨D, rfl, hD, q⟩ | ⟨rfl, q⟩ | ⟨p, ds, rfl, hp, hds, q⟩
  · obtain ⟨u, v, rfl, ru, rv⟩ := Vals.two r
    cases (show u = Value.ref ea from ru)
    cases (show v = Value.ref D from rv)
    exact PySem.W.kia_one Z I.kIn hφ (xt.is C hC D hD) (fun z => nomatch z) fun tk => ⟨.bl _, H, I.tok _, rfl, q⟩
  · obtain ⟨u, v, rfl, ru, rv⟩ := Vals.two r
    cases (show u = Value.ref ea from ru)
    cases (show v = Value.type "ValueError" from rv)
    exact PySem.W.kia_one Z I.kIn hφ (xt.ve C hC) (fun z => nomatch z) fun tk => ⟨.bl _, H, I.tok _, rfl, q⟩
  · obtain ⟨u, v, rfl, ru, rv⟩ := Vals.two r
    cases (show u = Value.ref ea from ru)
    cases (show v = Value.ref p from rv)
    obtain ⟨lz, its, rvs, tA⟩ := (show ObjOk X.prog X.w H s.heap p (.tup _) from I.hok p _ hp)
    have ei := vals_refsX rvs
    subst ei
    have ka : PySem.W.kitAny X.K (.ref C) (ds.map Value.ref) = some (ds.any fun d => decide (C = d ∨ d = Dr)) := by
      clear q hp rvs tA lz
      induction ds with
      | nil => rfl
      | cons d ds ih =>
        rw [List.map_cons, List.any_cons]
        unfold PySem.W.kitAny
        rw [xt.is C hC d (hds d List.mem_cons_self)]
        cases e : decide (C = d ∨ d = Dr) with
        | true => rfl
        | false =>
          rw [Bool.false_or]
          exact ih fun y hy => hds y (List.mem_cons_of_mem _ hy)
    obtain ⟨⟨oc, od, da, sl⟩, g1, g2, n, g3⟩ := tA
    cases (show oc = _ from g2)
    cases (show da = _ from g3)
    exact PySem.W.kia_tup Z I.kIn hφ g1 ka (fun z => nomatch z) fun tk => ⟨.bl _, H, I.tok _, rfl, q⟩
end
end L2

set_option Elab.async false
set_option linter.all false
set_option maxRecDepth 100000
namespace L2
open PySem PySem.Spec PyProof.Rows
section
variable {X : Cx} {tg : Expr}
end
end L2

set_option Elab.async false
set_option linter.all false
set_option maxRecDepth 100000
namespace L2
open PySem PySem.Spec PyProof.Rows
section
variable {prog : Program} {w : World} {A : Around} {E : Value → Shared → Prop} {s : Shared}
end
end L2

set_option Elab.async false
set_option linter.all false
set_option maxRecDepth 100000
namespace L2
open PySem PySem.Spec PyProof.Rows
section
variable {X : Cx} {pins : List (Addr × Obj)} {σ : St} {H : Hp} {s : Shared}
end
section
variable {X : Cx} {tg : Expr}
end
end L2

set_option Elab.async false
set_option linter.all false
set_option maxRecDepth 100000
namespace L2
open PySem PySem.Spec PyProof.Rows
theorem hex_small : ∀ c : Nat, c < 128 → (Nat.toDigits 16 c).length ≤ 2 := by decide +kernel
theorem reprChar_le (q c : Nat) (h : c < 128) : (Builtin.Str.reprChar q c).length ≤ 4 := by
  have hx := hex_small c h
  unfold Builtin.Str.reprChar
  simp only
  split
  · simp
  · split
    · simp
    · split
      · simp
      · split
        · simp
        · split
          · simp
          · rw [if_pos (by omega)]
            simp
            omega
theorem fold_le {q : Nat} : ∀ (cs : List Nat) (out : Array Nat), (∀ c ∈ cs, c < 128) → (cs.foldl (fun out c => out ++ (Builtin.Str.reprChar q c).toArray) out).size ≤ out.size + 4 * cs.length
  | [], out, _ => by simp
  | c :: r, out, h => by
    have ih := fold_le (q := q) r (out ++ (Builtin.Str.reprChar q c).toArray) fun x hx => h x (List.mem_cons_of_mem _ hx)
    have := reprChar_le q c (h c List.mem_cons_self)
    rw [List.foldl_cons, List.length_cons]
    have e1 : (out ++ (Builtin.Str.reprChar q c).toArray).size = out.size + (Builtin.Str.reprChar q c).length := by simp
    rw [e1] at ih
    omega
theorem reprText_le {x : Str} (h : x.cps.all (· < 128) = true) : (reprText x).length ≤ 4 * x.length + 2 := by
  have := fold_le (q := reprQuote x) x.cps.toList #[reprQuote x] fun c hc => by
    have := Array.all_eq_true'.mp h c (Array.mem_toList_iff.mp hc)
    simpa using this
  unfold reprText
  show (Array.push (Array.foldl _ _ x.cps) _).size ≤ _
  rw [Array.size_push, ← Array.foldl_toList]
  show _ ≤ 4 * x.cps.size + 2
  rw [Array.length_toList] at this
  have e : (#[reprQuote x] : Array Nat).size = 1 := rfl
  omega
theorem repl_acc (a : Array Nat) : ∀ (k : Nat) (out : Array Nat), ((List.replicate k a).foldl (fun x1 x2 => x1 ++ x2) out).size = out.size + k * a.size
  | 0, out => by simp
  | k + 1, out => by
    rw [List.replicate_succ, List.foldl_cons, repl_acc a k, Array.size_append, Nat.succ_mul]
    omega
theorem repl_size (a : Array Nat) (k : Nat) : ((List.replicate k a).foldl (fun x1 x2 => x1 ++ x2) #[]).size = k * a.size := by
  rw [repl_acc]; simp
section
variable {X : Cx}
theorem mt_starts : MtR X "str.startswith" (fun x xs H Q => ∃ z y, x = .str z ∧ xs = [.str y] ∧ Q (.bl (Txt.startswith z y)) H) := by
  intro pins s σ H x xs v us Q I rx rs h
  obtain ⟨z, y, rfl, rfl, q⟩ := h
  obtain ⟨t, rfl⟩ := rx
  obtain ⟨u, rfl, t', rfl⟩ := rs.one
  exact SC.startswith ⟨.bl _, H, I, rfl, q⟩
theorem call_strI : CallR X (.type "str") (fun xs H Q => ∃ i, xs = [.int i] ∧ i.natAbs.log2 < 1920 ∧ Q (.str (Str.ofString (toString i))) H) := by
  intro pins s σ H xs us Q I r h
  obtain ⟨i, rfl, hl, q⟩ := h
  obtain ⟨u, rfl, t, rfl⟩ := vals1 r
  exact P.str_of_int hl ⟨.str _, H, I.tok _, ⟨_, rfl⟩, q⟩
theorem call_intT : CallR X (.type "int") (fun xs H Q => ∃ z n, xs = [.str z] ∧ intText? z = some n ∧ z.length ≤ 640 ∧ Q (.int n) H) := by
  intro pins s σ H xs us Q I r h
  obtain ⟨z, n, rfl, hn, hl, q⟩ := h
  obtain ⟨u, rfl, t, rfl⟩ := vals1 r
  exact W.KIN.call_text hn hl ⟨.int n, H, I.tok _, ⟨_, rfl⟩, q⟩
def rMulS : V → V → Hp → VK → Prop := fun x y H Q => ∃ z n, x = .str z ∧ y = .int n ∧ n < 2 ^ 62 ∧ -(2 ^ 62) ≤ n ∧ z.length * n.toNat ≤ sizeLine ∧ Q (.str (Txt.mul z n)) H
theorem op_mulS : OpR X (binaryOp .Mult) rMulS := by
  intro pins s σ H x y v u Q I rx ry h
  obtain ⟨z, n, rfl, rfl, h1, h2, hz, q⟩ := h
  obtain ⟨t, rfl⟩ := rx
  obtain ⟨t', rfl⟩ := ry
  have sz : (sizeLine : Nat) = 16777216 := sizeLine_eq
  refine P.mul_str (by simp; omega) (fun a b => ?_) (fun a b => ?_) ?_
  · have n1 : 1 ≤ n := by omega
    have e : ((z.length * n.toNat : Nat) : Int) = (z.length : Int) * n := by
      rw [Int.natCast_mul, Int.toNat_of_nonneg (by omega)]
    have : (z.length : Int) * n ≤ 2 ^ 63 - 1 := by rw [← e]; omega
    have := (Int.le_ediv_iff_mul_le (by omega : 0 < n)).mpr this
    omega
  · unfold Builtin.Str.tooLong
    simp
    omega
  · unfold Txt.mul at q
    split
    · rename_i c
      rw [if_pos c] at q
      exact ⟨by decide, ⟨.str _, H, I.tok _, ⟨_, rfl⟩, q⟩⟩
    · rename_i c
      rw [if_neg c] at q
      split
      · rename_i d
        rw [if_pos d] at q
        exact ⟨.str _, H, I, ⟨_, rfl⟩, q⟩
      · rename_i d
        rw [if_neg d] at q
        exact ⟨by rw [show Str.length _ = _ from repl_size z.cps n.toNat, Nat.mul_comm]; exact hz, ⟨.str _, H, I.tok _, ⟨_, rfl⟩, q⟩⟩
end
end L2

set_option Elab.async false
set_option linter.all false
set_option maxRecDepth 100000
namespace L2
open PySem PySem.Spec PyProof.Rows
section
variable {X : Cx}
end
section
variable {prog : Program} {w : World} {A : Around} {E : Value → Shared → Prop} {s : Shared}
end
section
variable {X : Cx}
end
end L2

set_option Elab.async false
set_option linter.all false
set_option maxRecDepth 100000
namespace L2
namespace STb
open PySem
def f5 (N i : Nat) : Nat := (i * 5 + 1) % N
def pos (t : SetTable) : Nat → SetTable.Probe → SetTable.Probe
  | 0, p => p
  | a + 1, p => pos t a (t.advance p)
structure POk (t : SetTable) (p : SetTable.Probe) : Prop where
  i : p.i ≤ t.mask
  j : p.j + p.more ≤ t.mask
  d : p.dummy = none
  m : p.more ≤ 9
section
variable {prog : Program} {w : World} {A : Around} {E : Value → Shared → Prop} {s : Shared}
end
section
variable {prog : Program} {w : World} {A : Around} {R : Result → Shared → Prop} {I : Addr} {fp wr : List Addr} {G : Array GenState → Array GenState → Prop} {n : Nat} {P : Nat → Value → Prop} {St : Nat → Shared → Prop}
end
section
variable {prog : Program} {w : World} {A : Around} {E : Value → Shared → Prop} {s : Shared}
end
end STb

open PySem PySem.Spec PyProof.Rows STb
section
variable {X : Cx}
end
end L2

set_option Elab.async false
set_option linter.all false
set_option maxRecDepth 100000
namespace L2
open PySem PySem.Spec PyProof.Rows
end L2

set_option Elab.async false
set_option linter.all false
set_option maxRecDepth 100000
namespace L2
open PySem PySem.Spec PyProof.Rows
theorem str_eq_of' {x y : Str} (h : x.cps.toList = y.cps.toList) : x = y := by
  obtain ⟨x⟩ := x
  obtain ⟨y⟩ := y
  congr 1
  exact Array.toList_inj.mp h
theorem vals_strsFrom : ∀ (tk : Nat) (zs : List Str), Vals (zs.map V.str) (strsFrom tk zs)
  | _, [] => .nil
  | tk, z :: zs => .cons ⟨tk, rfl⟩ (vals_strsFrom (tk + 1) zs)
section
variable {X : Cx}
def rSplit : V → List V → Hp → VK → Prop := fun x xs H Q => ∃ z y, x = .str z ∧ xs = [.str y] ∧ (y.length == 0) = false ∧ z.length + 2 ≤ sizeLine ∧ (Txt.split z y).length ≤ sizeLine ∧ ∀ l : Addr, H l = none → Q (.ref l) (upd H l (.lst ((Txt.split z y).map V.str)))
theorem mt_split : MtR X "str.split" rSplit := by
  intro pins s σ H x xs v us Q I rx rs h
  obtain ⟨z, y, rfl, rfl, hy, hz, hn, q⟩ := h
  obtain ⟨t, rfl⟩ := rx
  obtain ⟨u, rfl, t', rfl⟩ := rs.one
  have fin : ∀ (tk : Nat) (its : List Value), Vals ((Txt.split z y).map V.str) its → wants (EP X pins σ Q) X.xe (.ok (.ret (.ref s.heap.objs.size))) { s with toks := tk, heap := s.heap.push { cls := .type "list", data := .seq its.toArray } } := by
    intro tk its r
    have zl : ((Txt.split z y).map V.str).length ≤ sizeLine := by rw [List.length_map]; exact hn
    exact ⟨.ref s.heap.objs.size, _, I.laid (t' := tk) (o := .lst ((Txt.split z y).map V.str)) (h' := s.heap.push { cls := .type "list", data := .seq its.toArray }) (fun _ _ e => Heap.get?_push_of_some _ e) (Nat.le_refl _) ⟨zl, its, 0, r, Heap.get?_push_size _ rfl⟩, rfl, q _ (I.hok.fresh (Nat.le_refl _))⟩
  by_cases h1 : (decide (z.length < y.length) || decide (Builtin.Str.strKind z < Builtin.Str.strKind y)) = true
  · have e : Txt.split z y = [z] := by unfold Txt.split; rw [if_pos h1]
    refine call_meets PySem.F.slot_str_split (typeIs_str _ _ _) PySem.F.entry_str_split (PySem.F.args_str_split_2 _ _) (meets_str_split_cannot_occur z y t t' h1) ?_
    refine fin s.toks [.str z t] ?_
    rw [e]; exact .cons ⟨t, rfl⟩ .nil
  · rw [Bool.not_eq_true] at h1
    by_cases h2 : (Builtin.Str.occurrences z y 0 z.length (z.length + 1)).isEmpty = true
    · have e : Txt.split z y = [z] := by unfold Txt.split; rw [if_neg (by rw [h1]; simp), if_pos h2]
      refine call_meets PySem.F.slot_str_split (typeIs_str _ _ _) PySem.F.entry_str_split (PySem.F.args_str_split_2 _ _) (meets_str_split_not_found z y t t' h1 hy h2) ?_
      refine fin s.toks [.str z t] ?_
      rw [e]; exact .cons ⟨t, rfl⟩ .nil
    · have e : Txt.split z y = Builtin.Str.partsBetween z (Builtin.Str.occurrences z y 0 z.length (z.length + 1)) y.length := by unfold Txt.split; rw [if_neg (by rw [h1]; simp), if_neg h2]
      rw [Bool.not_eq_true] at h2
      refine call_meets PySem.F.slot_str_split (typeIs_str _ _ _) PySem.F.entry_str_split (PySem.F.args_str_split_2 _ _) (meets_str_split_sep z y t t' h1 hy h2 (by omega) (by rw [← e]; exact hn)) ?_
      refine fin _ _ ?_
      rw [← e]; exact vals_strsFrom _ _
/-- f'a{text}b{text}c{int}' -/
def tFstr3 (a b c : Str) (t1 t2 ti : TE) : TE := fun σ H Q => t1 σ H fun x H1 => ∃ z1, x = .str z1 ∧ z1.length ≤ 10000 ∧ t2 σ H1 fun y H2 => ∃ z2, y = .str z2 ∧ z2.length ≤ 10000 ∧ ti σ H2 fun n H3 => ∃ i, n = .int i ∧ i.natAbs.log2 < 1920 ∧ Q (.str (a ++ z1 ++ b ++ z2 ++ c ++ Str.ofString (toString i))) H3
theorem pe_fstr3 {a b c : Str} {j1 j2 j3 : Nat} {p1 p2 p3 p4 p5 p6 pos : Pos} {e1 e2 e3 : Expr} {t1 t2 ti : TE} (ha : a.length ≤ 1000) (hb : b.length ≤ 1000) (hc : c.length ≤ 1000) (h1 : PE X e1 t1) (h2 : PE X e2 t2) (h3 : PE X e3 ti) :
    PE X (.JoinedStr [.Constant (.str a) j1 p1, .FormattedValue e1 (-1) none p2, .Constant (.str b) j2 p3, .FormattedValue e2 (-1) none p4, .Constant (.str c) j3 p5, .FormattedValue e3 (-1) none p6] pos) (tFstr3 a b c t1 t2 ti) := by
  intro pins s σ H Q I h
  have h0 : Str.empty.length = 0 := rfl
  have e0 : ∀ x : Str, Str.empty ++ x = x := fun x => str_eq_of' (by show (#[] ++ x.cps).toList = _; simp)
  refine JoinedStr_many (joinParts_cons (Calls.Constant_str ⟨?_, joinParts_cons (FormattedValue_plain ?_)⟩))
  · rw [strLen_append, sizeLine_eq]
    omega
  · refine thn (h1 pins _ σ H _ (I.tok _) h) fun v s1 ⟨x, H1, I1, r1, z1, ex, l1, q1⟩ => ?_
    subst ex
    obtain ⟨t, rfl⟩ := r1
    refine formatField_str (fun t' tk => ?_) (by rw [sizeLine_eq]; omega)
    refine ⟨by rw [strLen_append, strLen_append, sizeLine_eq]; omega, ?_⟩
    show wpAny _ _ (joinParts _ (eval (.Constant (.str b) j2 p3) X.env :: eval (.FormattedValue e2 (-1) none p4) X.env :: eval (.Constant (.str c) j3 p5) X.env :: eval (.FormattedValue e3 (-1) none p6) X.env :: [])) _ _ _
    refine joinParts_cons (Calls.Constant_str ⟨?_, joinParts_cons (FormattedValue_plain ?_)⟩)
    · rw [strLen_append, strLen_append, strLen_append, sizeLine_eq]; omega
    · refine thn (h2 pins _ σ H1 _ ((I1.tok _).tok _) q1) fun v s2 ⟨y, H2, I2, r2, z2, ey, l2, q2⟩ => ?_
      subst ey
      obtain ⟨t2, rfl⟩ := r2
      refine formatField_str (fun t3 tk3 => ?_) (by rw [sizeLine_eq]; omega)
      refine ⟨by rw [strLen_append, strLen_append, strLen_append, strLen_append, sizeLine_eq]; omega, ?_⟩
      refine joinParts_cons (Calls.Constant_str ⟨?_, joinParts_cons (FormattedValue_plain ?_)⟩)
      · rw [strLen_append, strLen_append, strLen_append, strLen_append, strLen_append, sizeLine_eq]; omega
      · refine thn (h3 pins _ σ H2 _ ((I2.tok _).tok _) q2) fun v s3 ⟨n, H3, I3, r3, i, en, li, q3⟩ => ?_
        subst en
        obtain ⟨t4, rfl⟩ := r3
        have hi := int_text_len_1921 li
        refine formatField_int_small li ?_
        rw [e0] 
        refine ⟨?_, joinParts_nil ⟨.str _, H3, (I3.tok _).tok _, ⟨_, rfl⟩, q3⟩ ?_⟩
        · rw [strLen_append, strLen_append, strLen_append, strLen_append, strLen_append, sizeLine_eq]
          show _ + (Str.ofString (toString i)).length ≤ _
          omega
        · rw [strLen_append, strLen_append, strLen_append, strLen_append, strLen_append, sizeLine_eq]
          show _ + (Str.ofString (toString i)).length ≤ _
          omega
end
theorem join_list (c : Nat) : ∀ (x : Str) (zs : List Str), (Str.join ⟨#[c]⟩ (x :: zs)).cps.toList = x.cps.toList ++ zs.flatMap fun z => c :: z.cps.toList
  | x, [] => by simp [Str.join]
  | x, y :: zs => by
    show (x ++ ⟨#[c]⟩ ++ Str.join ⟨#[c]⟩ (y :: zs)).cps.toList = _
    have e : (x ++ ⟨#[c]⟩ ++ Str.join ⟨#[c]⟩ (y :: zs)).cps.toList = x.cps.toList ++ [c] ++ (Str.join ⟨#[c]⟩ (y :: zs)).cps.toList := by
      show ((x.cps ++ #[c]) ++ (Str.join ⟨#[c]⟩ (y :: zs)).cps).toList = _
      simp
    rw [e, join_list c y zs]
    simp
theorem cut_first {c : Nat} : ∀ {a b r s : List Nat}, c ∉ a → c ∉ b → a ++ r = b ++ s → (r = [] ∨ r.head? = some c) → (s = [] ∨ s.head? = some c) → a = b ∧ r = s
  | [], [], r, s, _, _, e, _, _ => ⟨rfl, e⟩
  | [], y :: b, r, s, _, nb, e, hr, _ => by
    rw [List.nil_append] at e
    subst e
    rcases hr with h | h
    · cases h
    · simp at h; exact absurd (by simp [h]) nb
  | x :: a, [], r, s, na, _, e, _, hs => by
    rw [List.nil_append] at e
    subst e
    rcases hs with h | h
    · cases h
    · simp at h; exact absurd (by simp [h]) na
  | x :: a, y :: b, r, s, na, nb, e, hr, hs => by
    rw [List.cons_append, List.cons_append] at e
    injection e with e1 e2
    obtain ⟨h1, h2⟩ := cut_first (fun h => na (List.mem_cons_of_mem _ h)) (fun h => nb (List.mem_cons_of_mem _ h)) e2 hr hs
    exact ⟨by rw [e1, h1], h2⟩
theorem str_eq_of {x y : Str} (h : x.cps.toList = y.cps.toList) : x = y := by
  obtain ⟨x⟩ := x
  obtain ⟨y⟩ := y
  congr 1
  exact Array.toList_inj.mp h
theorem flat_inj {c : Nat} : ∀ {as bs : List Str}, (∀ a ∈ as, c ∉ a.cps.toList) → (∀ b ∈ bs, c ∉ b.cps.toList) → (as.flatMap fun z => c :: z.cps.toList) = (bs.flatMap fun z => c :: z.cps.toList) → as = bs
  | [], [], _, _, _ => rfl
  | [], b :: bs, _, _, e => by simp at e
  | a :: as, [], _, _, e => by simp at e
  | a :: as, b :: bs, ha, hb, e => by
    simp only [List.flatMap_cons, List.cons_append] at e
    injection e with _ e
    have hd : ∀ l : List Str, ((l.flatMap fun z => c :: z.cps.toList) = [] ∨ (l.flatMap fun z => c :: z.cps.toList).head? = some c) := fun l => by cases l <;> simp
    obtain ⟨h1, h2⟩ := cut_first (ha a (by simp)) (hb b (by simp)) e (hd _) (hd _)
    rw [str_eq_of h1, flat_inj (fun x hx => ha x (by simp [hx])) (fun x hx => hb x (by simp [hx])) h2]
/-- lines without the sign, joined by it, are what split finds -/
theorem split_join {c : Nat} {zs : List Str} (h0 : zs ≠ []) (h : ∀ z ∈ zs, c ∉ z.cps.toList) : Txt.split (Str.join ⟨#[c]⟩ zs) ⟨#[c]⟩ = zs := by
  have e := StrLaws.join_split (Str.join ⟨#[c]⟩ zs) ⟨#[c]⟩
  have f := StrLaws.split_free (Str.join ⟨#[c]⟩ zs) c
  generalize hs : Txt.split (Str.join ⟨#[c]⟩ zs) ⟨#[c]⟩ = ss at e f
  obtain ⟨z, zs, rfl⟩ : ∃ z r, zs = z :: r := by cases zs with | nil => exact absurd rfl h0 | cons z r => exact ⟨z, r, rfl⟩
  have hd : ∀ l : List Str, ((l.flatMap fun z => c :: z.cps.toList) = [] ∨ (l.flatMap fun z => c :: z.cps.toList).head? = some c) := fun l => by cases l <;> simp
  cases ss with
  | nil =>
    unfold Txt.split at hs
    split at hs
    · cases hs
    · split at hs
      · cases hs
      · rw [StrLaws.partsBetween_eq] at hs
        cases ho : Builtin.Str.occurrences (Str.join ⟨#[c]⟩ (z :: zs)) ⟨#[c]⟩ 0 (Str.join ⟨#[c]⟩ (z :: zs)).length ((Str.join ⟨#[c]⟩ (z :: zs)).length + 1) <;> rw [ho] at hs <;> cases hs
  | cons s ss =>
    have e2 : (Str.join ⟨#[c]⟩ (s :: ss)).cps.toList = (Str.join ⟨#[c]⟩ (z :: zs)).cps.toList := by rw [e]
    rw [join_list, join_list] at e2
    obtain ⟨h1, h2⟩ := cut_first (f s (by simp)) (h z (by simp)) e2 (hd _) (hd _)
    rw [str_eq_of h1, flat_inj (fun x hx => f x (by simp [hx])) (fun x hx => h x (by simp [hx])) h2]
end L2

set_option Elab.async false
set_option linter.all false
set_option maxRecDepth 100000
namespace L2
open PySem PySem.Spec PyProof.Rows
section
variable {X : Cx}
/-- f'text{text!r}' -/
def tFstrRB (te : TE) : TE := fun σ H Q => te σ H fun x H1 => ∃ z, x = .str z ∧ z.cps.all (· < 128) = true ∧ z.length ≤ 2000000 ∧ ∀ y, Q (.str y) H1
theorem pe_fstrRB {a : Str} {j : Nat} {p1 p2 pos : Pos} {e : Expr} {te : TE} (ha : a.length ≤ 1000) (he : PE X e te) : PE X (.JoinedStr [.Constant (.str a) j p1, .FormattedValue e 114 none p2] pos) (tFstrRB te) := by
  intro pins s σ H Q I h
  refine JoinedStr_many (joinParts_cons (Calls.Constant_str ⟨?_, joinParts_cons (wpAny_FormattedValue_repr ?_)⟩))
  · rw [strLen_append, sizeLine_eq]
    show Str.empty.length + a.length ≤ _
    have : Str.empty.length = 0 := rfl
    omega
  · refine thn (he pins _ σ H _ (I.tok _) h) fun v s1 ⟨x, H1, I1, r1, z, e1, ha', hl, q⟩ => ?_
    subst e1
    obtain ⟨t, rfl⟩ := r1
    have hrl := reprText_le ha'
    have h0 : Str.empty.length = 0 := rfl
    refine wpAny_pyReprObj_str ?_ (by rw [sizeLine_eq]; omega)
    refine formatField_str (fun t' tk => ?_) (by rw [sizeLine_eq]; omega)
    refine ⟨?_, joinParts_nil ⟨.str _, H1, (I1.tok _).tok _, ⟨_, rfl⟩, q _⟩ ?_⟩
    · rw [strLen_append, strLen_append, sizeLine_eq]
      omega
    · rw [strLen_append, strLen_append, sizeLine_eq]
      omega
/-- f'text{int}text{text!r}' -/
def tFstrIRB (ti te : TE) : TE := fun σ H Q => ti σ H fun x H1 => ∃ i, x = .int i ∧ i.natAbs.log2 < 1920 ∧ te σ H1 fun y H2 => ∃ z, y = .str z ∧ z.cps.all (· < 128) = true ∧ z.length ≤ 2000000 ∧ ∀ y, Q (.str y) H2
theorem pe_fstrIRB {a b : Str} {j j2 : Nat} {p1 p2 p3 p4 pos : Pos} {e1 e2 : Expr} {ti te : TE} (ha : a.length ≤ 1000) (hb : b.length ≤ 1000) (h1 : PE X e1 ti) (h2 : PE X e2 te) :
    PE X (.JoinedStr [.Constant (.str a) j p1, .FormattedValue e1 (-1) none p2, .Constant (.str b) j2 p3, .FormattedValue e2 114 none p4] pos) (tFstrIRB ti te) := by
  intro pins s σ H Q I h
  have h0 : Str.empty.length = 0 := rfl
  refine JoinedStr_many (joinParts_cons (Calls.Constant_str ⟨?_, joinParts_cons (FormattedValue_plain ?_)⟩))
  · rw [strLen_append, sizeLine_eq]
    omega
  · refine thn (h1 pins _ σ H _ (I.tok _) h) fun v s1 ⟨x, H1, I1, r1, i, ex, hl, q⟩ => ?_
    subst ex
    obtain ⟨t, rfl⟩ := r1
    refine formatField_int_small hl ?_
    have hi := int_text_len_1921 hl
    refine ⟨?_, ?_⟩
    · rw [strLen_append, strLen_append, sizeLine_eq]
      show _ + (Str.ofString (toString i)).length ≤ _
      omega
    show wpAny _ _ (joinParts _ (eval (.Constant (.str b) j2 p3) X.env :: eval (.FormattedValue e2 114 none p4) X.env :: [])) _ _ _
    refine joinParts_cons (Calls.Constant_str ⟨?_, joinParts_cons (wpAny_FormattedValue_repr ?_)⟩)
    · rw [strLen_append, strLen_append, strLen_append, sizeLine_eq]
      show _ + (Str.ofString (toString i)).length + _ ≤ _
      omega
    · refine thn (h2 pins _ σ H1 _ (((I1.tok _).tok _).tok _) q) fun v s2 ⟨y, H2, I2, r2, z, ey, ha', hz, q2⟩ => ?_
      subst ey
      obtain ⟨t2, rfl⟩ := r2
      have hrl := reprText_le ha'
      refine wpAny_pyReprObj_str ?_ (by rw [sizeLine_eq]; omega)
      refine formatField_str (fun t' tk => ?_) (by rw [sizeLine_eq]; omega)
      refine ⟨?_, joinParts_nil ⟨.str _, H2, (I2.tok _).tok _, ⟨_, rfl⟩, q2 _⟩ ?_⟩
      · rw [strLen_append, strLen_append, strLen_append, strLen_append, sizeLine_eq]
        show _ + (Str.ofString (toString i)).length + _ + _ ≤ _
        omega
      · rw [strLen_append, strLen_append, strLen_append, strLen_append, sizeLine_eq]
        show _ + (Str.ofString (toString i)).length + _ + _ ≤ _
        omega
/-- f'a{text}c' -/
def tFstrSC (te : TE) : TE := fun σ H Q => te σ H fun x H1 => ∃ z, x = .str z ∧ z.length ≤ 2000000 ∧ ∀ y, Q (.str y) H1
theorem pe_fstrSC {a c : Str} {j1 j2 : Nat} {p1 p2 p3 pos : Pos} {e1 : Expr} {t1 : TE} (ha : a.length ≤ 1000) (hc : c.length ≤ 1000) (h1 : PE X e1 t1) :
    PE X (.JoinedStr [.Constant (.str a) j1 p1, .FormattedValue e1 (-1) none p2, .Constant (.str c) j2 p3] pos) (tFstrSC t1) := by
  intro pins s σ H Q I h
  have h0 : Str.empty.length = 0 := rfl
  refine JoinedStr_many (joinParts_cons (Calls.Constant_str ⟨?_, joinParts_cons (FormattedValue_plain ?_)⟩))
  · rw [strLen_append, sizeLine_eq]
    omega
  · refine thn (h1 pins _ σ H _ (I.tok _) h) fun v s1 ⟨x, H1, I1, r1, z1, ex, l1, q1⟩ => ?_
    subst ex
    obtain ⟨t, rfl⟩ := r1
    refine formatField_str (fun t' tk => ?_) (by rw [sizeLine_eq]; omega)
    refine ⟨by rw [strLen_append, strLen_append, sizeLine_eq]; omega, ?_⟩
    refine joinParts_cons (Calls.Constant_str ⟨?_, joinParts_nil ⟨.str _, H1, ((I1.tok _).tok _).tok _, ⟨_, rfl⟩, q1 _⟩ ?_⟩)
    · rw [strLen_append, strLen_append, strLen_append, sizeLine_eq]; omega
    · rw [strLen_append, strLen_append, strLen_append, sizeLine_eq]; omega
end
end L2

set_option Elab.async false
set_option linter.all false
set_option maxRecDepth 100000
namespace L2
open PySem PySem.Spec PyProof.Rows
section
variable {M : Model} {A : Around} {E : Value → Shared → Prop} {s : Shared}
/-- an exception leaves a def, wherever it flew last -/
theorem leaves_any {base : Heap} {env : Env} {outer : List Env} {L e : Addr} {cls a0 fl : Value} {Q : Unit → Shared → Prop}
    (hfr : A.frames = some (env :: outer)) (hf : env.frame = some L) (k1 : base.StaysIn s.heap) (k2 : base.get? e = none) (k3 : s.heap.FunFrames base (env :: outer)) (k4 : s.heap.TracedAtW base e cls a0 fl)
    (hQ : ∀ h', Heap.FlyingW base outer e cls a0 h' → s.heap.UpToSlots h' → Q () { s with heap := h' }) : wpAny M A (leaving env (.ref e)) Q E s := by
  by_cases c : fl = rawInt L
  · subst c
    unfold leaving
    refine wpAny_bind (wpAny_noteFrame_againW hf k4 ?_)
    refine wpAny_landsW ⟨k1, k2, k3, k4⟩ fun h' hfl up => ?_
    obtain ⟨j1, j2, ⟨_, _, j3⟩, j4⟩ := hfl
    exact hQ h' ⟨j1, j2, j3, j4⟩ up
  · obtain ⟨oe, vs, T, oT, ts, he, ⟨hcls, h0⟩, hd, h1, hnT, hTe, hT, hdT, h3⟩ := k4
    subst hcls
    have keep : ∀ (b : Addr) (o : Obj), s.heap.get? b = some o → b ≠ T → (s.heap.update T (Obj.mapFields (·.setIfInBounds 3 Value.none))).get? b = some o := fun b o g n => (Heap.get?_update_other _ _ (Ne.symm n)).trans g
    have nT : ∀ (b : Addr) (o : Obj), s.heap.get? b = some o → (∀ vs, o.data ≠ .fields vs) → b ≠ T := fun b o g n z => by
      rw [z, hT] at g
      cases g
      exact n ts hdT
    unfold leaving noteFrame
    simp only [hf]
    refine wpAny_bind (wpAny_bind (wpAny_field he hd h1 ?_))
    rw [if_pos (show (Value.ref T != Value.none) = true by simp)]
    refine wpAny_bind (wpAny_field hT hdT h3 ?_)
    rw [if_neg (show ¬ ((fl == rawInt L) = true) by simpa using c)]
    refine wpAny_bind (wpAny_setField hT hdT (Array.getElem?_eq_some_iff.mp h3).1 ?_)
    refine wpAny_newEntryW hfr (k3.of_keeps fun b o g n => ⟨o, keep b o g (nT b o g n), rfl⟩) hf (keep e _ he (Ne.symm hTe)) (fun b o g => keep b o (k1 b o g) fun z => by rw [z, hnT] at g; cases g) k2 hd (Array.getElem?_eq_some_iff.mp h1).1 h0 fun h' hL => ?_
    obtain ⟨x1, ⟨_, _, x2⟩, x3, x4⟩ := hL
    exact hQ h' ⟨x1, k2, x2, x3⟩ fun b o g n => x4 b o (keep b o g (nT b o g n)) n
end
/-- what X asks of an exception that flies in its body, wherever it flew last -/
def PassesT (X : Cx) (E : XK) : Prop := ∀ (pins : List (Addr × Obj)) (σ : St) (H : Hp) (s : Shared) (ea t C : Addr) (B : Heap) (fl : Value), Inv X pins σ H s → B.StaysIn s.heap → B.get? ea = none → s.heap.FunFrames B X.stack →
  s.heap.TracedAtW B ea (.ref C) (.ref t) fl → (∀ b o, s.heap.get? b = some o → b ∉ frs X.stack → ((∃ u, H b = some u) ∨ ∃ o', X.s₀.heap.get? b = some o') → B.get? b = some o) → E (.ref C) none H → X.xe (.ref ea) s
section
variable {P : Program} {w : World} {K : PySem.W.Frag} {mg : Str → Option Value} {base : Heap} {N : List Str} {qual : Str} {scope : Scope} {f : Addr} {cd : Value} {A : Around} {outer : List Env} {s₀ : Shared} {H₀ : Hp} {E : XK}
theorem passesT_cx : PassesT (cxOf (CX1 P w) P w K mg base N qual scope f cd A outer s₀ H₀ E) E := by
  intro pins σ H s ea t C B fl I k1 k2 k3 k4 hB hE
  show wpAny (model P w) (A.deeper (envOfC qual scope s₀.heap.objs.size f cd)) (leaving (envOfC qual scope s₀.heap.objs.size f cd) (.ref ea)) (fun _ s'' => CX1 P w outer H₀ s₀ E (.ref ea) s'') (fun e' s'' => CX1 P w outer H₀ s₀ E e' s'') s
  refine leaves_any I.ok.frames rfl k1 k2 k3 k4 fun h2 x1 x2 => ?_
  exact fly_out I hB x1 x2 rfl rfl hE
end
theorem funFrames_keep {h h' base : Heap} : ∀ {l : List Env}, (∀ L ∈ frs l, ∀ o, h.get? L = some o → (∀ vs, o.data ≠ .fields vs) → ∃ o', h'.get? L = some o' ∧ o'.data = o.data) → h.FunFrames base l → h'.FunFrames base l
  | [], _, _ => trivial
  | env :: l, k, ⟨hk, ⟨L, o, hf, hn, ho, hd⟩, hr⟩ => by
    have m : L ∈ frs (env :: l) := List.mem_filterMap.mpr ⟨env, by simp, hf⟩
    obtain ⟨o', ho', hd'⟩ := k L m o ho hd
    exact ⟨hk, ⟨L, o', hf, hn, ho', by rw [hd']; exact hd⟩, funFrames_keep (fun L' m' => k L' (by obtain ⟨e, he, q⟩ := List.mem_filterMap.mp m'; exact List.mem_filterMap.mpr ⟨e, by simp [he], q⟩)) hr⟩
theorem Un.slideX {fs ex : List Addr} {H H' : Hp} {h0 h1 h2 : Heap} (u : Un fs ex H H' h0 h1) (k : ∀ b o, (∃ o', h0.get? b = some o') → h1.get? b = some o → b ∉ fs → b ∉ ex → h2.get? b = some o)
    (sl : ∀ b o, h1.get? b = some o → b ∈ fs → ∃ s, h2.get? b = some { o with slots := s }) : Un fs ex H H' h0 h2 where
  keep := fun b o q n hb hx => k b o ⟨o, q⟩ (u.keep b o q n hb hx) hb hx
  slot := fun b o q n hb hx => by
    obtain ⟨s1, e1⟩ := u.slot b o q n hb hx
    obtain ⟨s2, e2⟩ := sl b _ e1 hb
    exact ⟨s2, e2⟩
  free := u.free
  there := fun b o q hx => by
    obtain ⟨o1, e1⟩ := u.there b o q hx
    by_cases hb : b ∈ fs
    · obtain ⟨s2, e2⟩ := sl b _ e1 hb
      exact ⟨_, e2⟩
    · exact ⟨o1, k b o1 ⟨o, q⟩ e1 hb hx⟩
  tups := u.tups
  frzs := u.frzs
  tbls := u.tbls
def cxCompX (X : Cx) (scope : Scope) (N' : List Str) (C : Addr) (ex : List Addr) (s : Shared) (H : Hp) (W : Value → Shared → Prop) : Cx := { cxComp X scope N' C ex s H with xe := W }
theorem Inv.wx {X : Cx} {pins : List (Addr × Obj)} {σ : St} {H : Hp} {s : Shared} (I : Inv X pins σ H s) (W : Value → Shared → Prop) : Inv { X with xe := W } pins σ H s :=
  ⟨⟨I.ok.mod, I.ok.kind, I.ok.glob, I.ok.blt, I.ok.above, I.ok.inj, I.ok.has, I.ok.cab, I.ok.hd, I.ok.frames, I.ok.stk, I.ok.exf, I.ok.bs, I.ok.bsz, I.ok.noex, I.ok.exfs, I.ok.funs, I.ok.frf⟩,
    I.os, I.bare, I.base, I.loc, I.cell, I.free, I.freeC, I.pin, I.hok, I.len⟩
section
variable {X : Cx} {pins : List (Addr × Obj)} {σ : St} {H : Hp} {s : Shared} {scope : Scope} {N' : List Str} {cap : List (Option Nat)}
/-- an exception of the element is let out of the block, and out of the def -/
theorem passesC {E0 : XK} (hX : PassesT X E0) (hstk : X.stack = X.env :: X.outer) (hfr : X.env.frame = some X.env.locals) (hex : X.ex = []) {c : CompOk X scope N' cap} (I1 : Inv X pins σ H s) {fp : List Addr} (hf : ∀ b ∈ fp, FpOk X pins H b) (ho : ∀ b ∈ fp, ∃ o, s.heap.get? b = some o)
    {W : Value → Shared → Prop} {RE : Value → Shared → Prop}
    (hRX : ∀ e s', (∃ m, s'.heap.Ns s.heap.objs.size m ∧ ∀ h', Heap.SameBut s.heap.objs.size s'.heap h' → ∀ cenv : Env, cenv.locals = s.heap.objs.size → wpAny (model X.prog X.w) X.A (PySem.passOn "comprehension.variables-let-go" e cenv : Sem Value) (fun _ _ => False) X.xe { s' with heap := h' }) → RE e s')
    (hW : W = notedBy (model X.prog X.w) X.A (compEnvC scope (clOf X.env scope.names []) s.heap.objs.size X.env) RE) :
    Passes (CX1 X.prog X.w) (cxCompX X scope N' s.heap.objs.size fp s H W) E0 := by
  intro pins' σ' H8 s8 e s2 J hq
  obtain ⟨ea, t, C', B, H', rfl, os, bare, un, hok, fl, hB, hE⟩ := hq
  have un : Un (frs X.stack) [] H8 H' s8.heap s2.heap := un
  have hok : HOk X.prog X.w H' s2.heap := hok
  have hB : ∀ b o, s2.heap.get? b = some o → b ∉ frs X.stack → ((∃ u, H' b = some u) ∨ ∃ o', s8.heap.get? b = some o') → B.get? b = some o := hB
  have J2 : Inv (cxCompX X scope N' s.heap.objs.size fp s H W) pins' σ' H' s2 := J.call' os un hok bare (ch := []) (fun b z => absurd z (by simp))
  have fl : Heap.FlyingW B (X.env :: X.outer) ea (.ref C') (.ref t) s2.heap := by rw [← hstk]; exact fl
  have frm : X.A.frames = some (X.env :: X.outer) := by rw [← hstk]; exact I1.ok.frames
  show W (.ref ea) s2
  rw [hW]
  show wpAny (model X.prog X.w) X.A (noteFrame (.ref ea) X.env) (fun _ s'' => RE (.ref ea) s'') RE s2
  refine wpAny_looks_onW frm hfr fl fun h4 held4 sm4 => ?_
  have J4 := (J.flown (s' := s2) un hok os bare hB held4.1 sm4).1
  obtain ⟨m, hn, _⟩ := J4.loc
  have hn : h4.Ns s.heap.objs.size m := hn
  refine hRX _ _ ⟨m, hn, fun h' sb cenv hcv => ?_⟩
  obtain ⟨k1, k2, k3, oe, vs, T, oT, ts, he, hcls, hd, h1, hnT, hTe, hT, hdT, h3⟩ := held4
  obtain ⟨oC, es, ep, hoC, hdC, _⟩ := hn
  have eC : ea ≠ s.heap.objs.size := fun z => by
    rw [z, hoC] at he
    cases he
    rw [hdC] at hd; cases hd
  have TC : T ≠ s.heap.objs.size := fun z => by
    rw [z, hoC] at hT
    cases hT
    rw [hdC] at hdT; cases hdT
  have he' := sb.extBut ea oe eC he
  have hT' := sb.extBut T oT TC hT
  have lt3 := (Array.getElem?_eq_some_iff.mp h3).1
  have fC : s.heap.objs.size ∉ frs X.stack := fun z => by
    obtain ⟨_, o, g, _⟩ := I1.stack.mem z
    exact absurd (Heap.lt_size g) (Nat.lt_irrefl _)
  unfold PySem.passOn
  refine wpAny_bind (wpAny_field he' hd h1 ?_)
  rw [if_neg (show ¬ ((Value.ref T == Value.none) = true) by simp)]
  refine wpAny_bind ?_
  unfold setFlight
  refine wpAny_bind (wpAny_field he' hd h1 ?_)
  rw [if_pos (show (Value.ref T != Value.none) = true by simp)]
  refine wpAny_setField hT' hdT lt3 ?_
  refine wpAny_throw ?_
  generalize hv : (cenv.frame.elim Value.none fun f => rawInt f) = v
  have get_ : ∀ (b : Addr) (o : Obj), h'.get? b = some o → b ≠ T → (h'.update T (Obj.mapFields (·.setIfInBounds 3 v))).get? b = some o := fun b o g n => (Heap.get?_update_other _ _ (Ne.symm n)).trans g
  have self_ := Heap.get?_update_self (h := h') (Obj.mapFields (·.setIfInBounds 3 v)) hT' (Obj.isFreed_of_fields (Obj.data_mapFields hdT _))
  revert get_ self_
  generalize h'.update T (Obj.mapFields (·.setIfInBounds 3 v)) = h5
  intro get_ self_
  have up : ∀ (b : Addr) (o : Obj), s2.heap.get? b = some o → (∀ vs, o.data ≠ .fields vs) → b ≠ s.heap.objs.size → ∃ sl, h5.get? b = some { o with slots := sl } := fun b o g n nc => by
    obtain ⟨sl, e4⟩ := sm4 b o g n
    refine ⟨sl, get_ b _ (sb.extBut b _ nc e4) fun z => ?_⟩
    rw [z, hT] at e4
    cases e4
    exact n ts hdT
  have st : (PySem.W.hideAll B [s.heap.objs.size]).StaysIn h5 := fun b o g => by
    have gB := PySem.W.of_hideAll _ g
    have nc : b ≠ s.heap.objs.size := fun z => by
      rw [PySem.W.hideAll_none _ (by rw [z]; simp)] at g
      cases g
    exact get_ b o (sb.extBut b o nc (k1 b o gB)) fun z => by rw [z, hnT] at gB; cases gB
  have inB : (PySem.W.hideAll B [s.heap.objs.size]).StaysIn B := fun b o g => PySem.W.of_hideAll _ g
  have toB : ∀ (b : Addr) (o : Obj), B.get? b = some o → b ≠ s.heap.objs.size → (PySem.W.hideAll B [s.heap.objs.size]).get? b = some o := fun b o g nc => PySem.W.hideAll_get _ g (by simpa using nc)
  have H'C : H' s.heap.objs.size = none := J2.free
  have nC : ∀ c v, H' c = some v → c ≠ s.heap.objs.size := fun c v q z => by rw [z, H'C] at q; cases q
  have nf : ∀ c v, H' c = some v → c ∉ frs X.stack := fun c v q z => by
    have := J2.stkFree c z
    rw [this] at q; cases q
  have lt : ∀ (b : Addr) (o : Obj), s.heap.get? b = some o → b ≠ s.heap.objs.size := fun b o g => Nat.ne_of_lt (Heap.lt_size g)
  have there8 : ∀ (b : Addr) (o : Obj), s.heap.get? b = some o → b ∉ fp → ∃ o', s8.heap.get? b = some o' := fun b o g n => J.base.there b o g n
  have un5 : Un (frs X.stack) fp H H' s.heap h5 := Un.slideX (h1 := s2.heap) J2.base (fun b o ⟨o', q⟩ g hb hx => st b o (toB b o (hB b o g hb (.inr (there8 b o' q hx))) (lt b o' q))) fun b o g hb => by
    obtain ⟨_, o1, g1, d1⟩ := J2.stack.mem hb
    rw [g1] at g
    cases g
    exact up b o g1 d1 fun z => fC (z ▸ hb)
  have kk : ∀ c o, (∃ v, H' c = some v) → s2.heap.get? c = some o → h5.get? c = some o := fun c o ⟨v, q⟩ g => st c o (toB c o (hB c o g (nf c v q) (.inl ⟨v, q⟩)) (nC c v q))
  have hok5 : HOk X.prog X.w H' h5 := fun a u e => by
    refine (hok a u e).stay (fun c v hc g => kk c v ?_ g) (fun _ q => q) fun _ _ q => q
    rcases hc with rfl | hc
    · exact ⟨_, e⟩
    · exact ⟨_, hc⟩
  have I5 : Inv X pins σ H' { s2 with heap := h5 } := I1.call' (s' := { s2 with heap := h5 }) (ch := fp) J2.os un5 hok5 bare fun b hb => by
    obtain ⟨_, f1, f2, f3, f4, f5⟩ := hf b hb
    exact ⟨f3, f1, f4, f5⟩
  refine hX pins σ H' { s2 with heap := h5 } ea t C' (PySem.W.hideAll B [s.heap.objs.size]) v I5 st (PySem.W.fresh_of_stays inB k2) ?_ ⟨oe, vs, T, _, _, get_ ea _ he' (Ne.symm hTe), hcls, hd, h1, PySem.W.fresh_of_stays inB hnT, hTe, self_, Obj.data_mapFields hdT _, by simp [lt3]⟩ (fun b o g hb z => ?_) hE
  · rw [hstk]
    refine funFrames_keep (fun L m o g n => ?_) (PySem.W.funFrames_base inB k3)
    have nc : L ≠ s.heap.objs.size := fun z => fC (by rw [hstk, ← z]; exact m)
    exact ⟨o, get_ L o (sb.extBut L o nc g) (fun z => by rw [z, hT] at g; cases g; exact n ts hdT), rfl⟩
  · have fin : ∀ o1, s2.heap.get? b = some o1 → ((∃ u, H' b = some u) ∨ ∃ o', s8.heap.get? b = some o') → b ≠ s.heap.objs.size → (PySem.W.hideAll B [s.heap.objs.size]).get? b = some o := fun o1 g1 z1 nc => by
      have b1 := toB b o1 (hB b o1 g1 hb z1) nc
      have := st b o1 b1
      rw [show h5.get? b = some o from g] at this
      cases this
      exact b1
    rcases z with ⟨u, q⟩ | ⟨o', q⟩
    · obtain ⟨o1, g1⟩ := HOk.obj hok q
      exact fin o1 g1 (.inl ⟨u, q⟩) (nC b u q)
    · obtain ⟨o1, g1⟩ := I1.base.there b o' q (by rw [hex]; simp)
      have nfp : b ∉ fp := fun m => by
        rcases (hf b m).2.2.2.1 with y | y
        · rw [hex] at y; cases y
        · exact absurd (Heap.lt_size q) (Nat.not_lt.mpr y)
      obtain ⟨o8, g8⟩ := there8 b o1 g1 nfp
      obtain ⟨o2, g2⟩ := J2.base.there b o1 g1 nfp
      exact fin o2 g2 (.inr ⟨o8, g8⟩) (lt b o1 g1)
theorem comp_coreX {E0 : XK} {tg elt iter : Expr} {ifs : List Expr} {pos : Pos} {g : TG} {tt : TT} {te : TE} {it : Addr} {fp : List Addr} {tn : Nat → Heap → Prop} {J : It} {RR : Value → Addr → Result → Shared → Prop} {Q : VK} {E : Value → Shared → Prop}
    (hX : PassesT X E0) (hstk : X.stack = X.env :: X.outer) (hfr : X.env.frame = some X.env.locals) (hex : X.ex = []) (c : CompOk X scope N' cap) (hc : X.calm = true) (I : Inv X pins σ H s) (T : Turn X.prog X.w X.K tg J fp it tn) (st : tn 0 s.heap) (hf : ∀ b ∈ fp, FpOk X pins H b)
    (hg : ∀ C ex s H W, PG (cxCompX X scope N' C ex s H W) tg g) (hk : GKp (ownOf cap) g) (hi : ∀ C ex s H W, PIfs (cxCompX X scope N' C ex s H W) ifs tt) (he : ∀ C ex s H W, Passes (CX1 X.prog X.w) (cxCompX X scope N' C ex s H W) E0 → PE (cxCompX X scope N' C ex s H W) elt te)
    (h : ∀ D, H D = none →
      ∃ W : Nat → Nat → List V → Hp → Prop, (∃ m, W 0 m [] (upd H D (.lst []))) ∧ ∀ i m ys H2, W i m ys H2 → H2 D = some (.lst ys) ∧
        ((J.stop i H2 ∧ Q (.ref D) H2) ∨ (J.go i H2 ∧ ys.length < sizeLine ∧ ∃ N : List V → Hp → Prop, (∀ ys' H', N ys' H' → ∃ m', m' < m ∧ W (i + 1) m' ys' H') ∧ ∀ x H3, J.yld i H2 x H3 → g x (capSt cap σ) H3 fun σ4 H4 => tt σ4 H4 fun b H5 =>
          if b = true then te σ4 H5 fun y H6 => H6 D = some (.lst ys) ∧ N (ys ++ [y]) (upd H6 D (.lst (ys ++ [y]))) else N ys H5)))
    (hRR : ∀ D C H' s', Inv X pins σ H' s' → FpOk X pins H' C → (∃ m, s'.heap.Ns C m) → Q (.ref D) H' → RR (.ref D) C (.ok .next) s')
    (hRX : ∀ D C e s', (∃ m, s'.heap.Ns C m ∧ ∀ h', Heap.SameBut C s'.heap h' → ∀ cenv : Env, cenv.locals = C → wpAny (model X.prog X.w) X.A (PySem.passOn "comprehension.variables-let-go" e cenv : Sem Value) (fun _ _ => False) X.xe { s' with heap := h' }) → RR (.ref D) C (.error e) s') :
    wpAny (model X.prog X.w) X.A (newList []) (fun acc s₃ => wpAny (model X.prog X.w) X.A (newFunctionEnv scope X.env.globals (clOf X.env scope.names []) [] X.env.qual none .none (some X.env)) (fun cenv s₄ =>
      codeAny (model X.prog X.w) X.A (.compStart (.ListComp elt [⟨tg, iter, ifs, 0⟩] scope pos) 0 (.ref it) acc { cenv with scope := relabel scope X.env }) (RR acc cenv.locals) s₄) E s₃) E s := by
  refine wpAny_newObj_type (wpAny_newFunctionEnv c.nocell (by intro y hy; simp at hy) (fun h₁ hns₁ hsb₁ => ?_) c.kind)
  dsimp only at hns₁ hsb₁ ⊢
  have hD : H s.heap.objs.size = none := I.hok.fresh (Nat.le_refl _)
  have I1 : Inv X pins σ (upd H s.heap.objs.size (.lst [])) { s with heap := s.heap.push { cls := .type "list", dict := none, data := .seq ([] : List Value).toArray } } :=
    I.laid (t' := s.toks) (fun b u e => Heap.get?_push_of_some _ e) (Nat.le_refl _) ⟨Nat.zero_le _, [], 0, .nil, Heap.get?_push_size _ rfl⟩
  have ob : ∀ b ∈ fp, ∃ o, s.heap.get? b = some o ∧ ∀ v, o.data ≠ .cell v := T.obj 0 _ st
  have hf1 : ∀ b ∈ fp, FpOk X pins (upd H s.heap.objs.size (.lst [])) b := fun b hb => by
    obtain ⟨o, e, _⟩ := ob b hb
    have : b ≠ s.heap.objs.size := Nat.ne_of_lt (Heap.lt_size e)
    exact ⟨by rw [upd_ne this]; exact (hf b hb).1, (hf b hb).2⟩
  generalize hs1 : ({ s with heap := s.heap.push { cls := .type "list", dict := none, data := .seq ([] : List Value).toArray } } : Shared) = s1 at I1
  have hh : s.heap.push { cls := .type "list", dict := none, data := .seq ([] : List Value).toArray } = s1.heap := by rw [← hs1]
  have old1 : ∀ b o, s.heap.get? b = some o → s1.heap.get? b = some o := fun b o e => by rw [← hh]; exact Heap.get?_push_of_some _ e
  rw [hh] at hns₁ hsb₁ ⊢
  have old2 : ∀ b o, s1.heap.get? b = some o → h₁.get? b = some o := fun b o e => hsb₁.extBut b o (Nat.ne_of_lt (Heap.lt_size e)) (Heap.get?_push_of_some _ e)
  have J0 : Inv (cxComp X scope N' s1.heap.objs.size fp s1 (upd H s.heap.objs.size (.lst []))) [] (capSt cap σ) (upd H s.heap.objs.size (.lst [])) { s1 with heap := h₁, toks := s.toks + ([] : List (Str × Value)).length } :=
    comp_start c I1 hf1 (fun b hb => (ob b hb).imp fun o e => old1 b o e.1) hns₁ old2
  have es4 : ({ heap := h₁, gens := s.gens, drawn := s.drawn, toks := s.toks + ([] : List (Str × Value)).length, os := s.os } : Shared) = { s1 with heap := h₁, toks := s.toks + ([] : List (Str × Value)).length } := by rw [← hs1]
  have st4 : tn 0 ({ s1 with heap := h₁, toks := s.toks + ([] : List (Str × Value)).length } : Shared).heap := T.keep 0 _ _ st fun b hb o e => old2 b o (old1 b o e)
  rw [es4]
  generalize ({ s1 with heap := h₁, toks := s.toks + ([] : List (Str × Value)).length } : Shared) = s4 at J0 st4 ⊢
  obtain ⟨W, ⟨m0, w0⟩, step⟩ := h _ hD
  have PX := passesC (c := c) hX hstk hfr hex I1 hf1 (fun b hb => (ob b hb).imp fun o e => old1 b o e.1) (W := notedBy (model X.prog X.w) X.A (compEnvC scope (clOf X.env scope.names []) s1.heap.objs.size X.env) fun e s' => RR (.ref s.heap.objs.size) s1.heap.objs.size (.error e) s') (N' := N') (hRX _ _) rfl
  have J0 : Inv (cxCompX X scope N' s1.heap.objs.size fp s1 (upd H s.heap.objs.size (.lst [])) (notedBy (model X.prog X.w) X.A (compEnvC scope (clOf X.env scope.names []) s1.heap.objs.size X.env) fun e s' => RR (.ref s.heap.objs.size) s1.heap.objs.size (.error e) s')) [] (capSt cap σ) (upd H s.heap.objs.size (.lst [])) s4 := J0.wx _
  generalize hY : cxCompX X scope N' s1.heap.objs.size fp s1 (upd H s.heap.objs.size (.lst [])) (notedBy (model X.prog X.w) X.A (compEnvC scope (clOf X.env scope.names []) s1.heap.objs.size X.env) fun e s' => RR (.ref s.heap.objs.size) s1.heap.objs.size (.error e) s') = Y at J0 PX
  have stat : ∀ {H' : Hp}, (∀ b ∈ fp, H' b = none) → ∀ b ∈ fp, FpOk Y [] H' b := fun hn b hb => by
    obtain ⟨o, e, _⟩ := ob b hb
    have e1 := old1 b o e
    subst hY
    refine ⟨hn b hb, Nat.ne_of_lt (Heap.lt_size e1), fun z => ?_, .inl hb, fun x a q => (J0.ok.exf b hb).2 x a q, fun p hp => by simp [cxCompX, cxComp] at hp⟩
    exact J0.ok.exfs b hb z
  have loop : codeAny (model X.prog X.w) X.A (.compLoop (.ListComp elt [⟨tg, iter, ifs, 0⟩] scope pos) 0 (.ref it) (.ref s.heap.objs.size) (compEnvC scope (clOf X.env scope.names []) s1.heap.objs.size X.env)) (RR (.ref s.heap.objs.size) s1.heap.objs.size) s4 := by
    refine compLoop_any (fun n s' => ∃ i ys H', Inv Y [] (capSt cap σ) H' s' ∧ tn i s'.heap ∧ (∀ b ∈ fp, H' b = none) ∧ W i n ys H') ?_ m0 ⟨0, [], _, J0, st4, fun b hb => (hf1 b hb).1, w0⟩
    rintro n s3 ⟨i, ys, H3, I3, st3, fr3, w3⟩
    obtain ⟨hDl, alt⟩ := step i n ys H3 w3
    rcases alt with ⟨stop, q⟩ | ⟨go, hlen, NN, hNN, stp⟩
    · have := T.done Y (by rw [← hY]; rfl) (by rw [← hY]; rfl) (by rw [← hY]; rfl) (by rw [← hY]; exact hc) i [] s3 (capSt cap σ) H3 (notedBy (model X.prog X.w) X.A (compEnvC scope (clOf X.env scope.names []) s1.heap.objs.size X.env) fun e s' => RR (.ref s.heap.objs.size) s1.heap.objs.size (.error e) s') I3 (stat fr3) st3 stop
      subst hY
      refine thn this fun r s5 ⟨hr, I5⟩ => ?_
      subst hr
      refine hRR _ _ H3 s5 (I1.call' I5.os I5.base I5.hok I5.bare fun b hb => ?_) (I1.fpOk (Nat.le_refl _) I5.free) (I5.loc.imp fun m z => z.1) q
      obtain ⟨_, f1, f2, f3, f4, f5⟩ := hf1 b hb
      exact ⟨f3, f1, f4, f5⟩
    · have := T.item Y (by rw [← hY]; rfl) (by rw [← hY]; rfl) (by rw [← hY]; rfl) (by rw [← hY]; exact hc) i [] s3 (capSt cap σ) H3 (notedBy (model X.prog X.w) X.A (compEnvC scope (clOf X.env scope.names []) s1.heap.objs.size X.env) fun e s' => RR (.ref s.heap.objs.size) s1.heap.objs.size (.error e) s') I3 (stat fr3) st3 go
      have hgY := hg s1.heap.objs.size fp s1 (upd H s.heap.objs.size (.lst [])) (notedBy (model X.prog X.w) X.A (compEnvC scope (clOf X.env scope.names []) s1.heap.objs.size X.env) fun e s' => RR (.ref s.heap.objs.size) s1.heap.objs.size (.error e) s')
      have hiY := hi s1.heap.objs.size fp s1 (upd H s.heap.objs.size (.lst [])) (notedBy (model X.prog X.w) X.A (compEnvC scope (clOf X.env scope.names []) s1.heap.objs.size X.env) fun e s' => RR (.ref s.heap.objs.size) s1.heap.objs.size (.error e) s')
      have heY := he s1.heap.objs.size fp s1 (upd H s.heap.objs.size (.lst [])) (notedBy (model X.prog X.w) X.A (compEnvC scope (clOf X.env scope.names []) s1.heap.objs.size X.env) fun e s' => RR (.ref s.heap.objs.size) s1.heap.objs.size (.error e) s')
      rw [hY] at hgY hiY heY
      have heY := heY PX
      have nox : ∀ e s', Y.xe e s' → notedBy (model X.prog X.w) X.A (compEnvC scope (clOf X.env scope.names []) s1.heap.objs.size X.env) (fun e s' => RR (.ref s.heap.objs.size) s1.heap.objs.size (.error e) s') e s' := fun e s' z => by subst hY; exact z
      have eA : Y.A = X.A := by rw [← hY]; rfl
      have eP : Y.prog = X.prog := by rw [← hY]; rfl
      have eW : Y.w = X.w := by rw [← hY]; rfl
      have eE : Y.env = compEnvC scope (clOf X.env scope.names []) s1.heap.objs.size X.env := by rw [← hY]; rfl
      rw [← eA, ← eP, ← eW, ← eE] at this nox ⊢
      refine thn this fun r s5 ⟨u, hr, h5⟩ => ?_
      subst hr
      refine thn h5 fun _ s6 ⟨x, H6, I6, rx, y6, st6, fr6⟩ => ?_
      have I6' := I6.pinned (stat fr6) (T.obj _ _ st6)
      refine wpAny_mono (hgY _ s6 (capSt cap σ) H6 x u _ I6' rx (hk _ _ _ _ (stp x H6 y6))) (fun _ s7 ⟨σ7, H7, I7, ⟨k1, k2⟩, q7⟩ => ?_) nox
      refine thn (hiY _ s7 σ7 H7 _ _ I7 q7) fun ok s8 ⟨H8, I8, q8⟩ => ?_
      have again : ∀ {H9 : Hp} {s9 : Shared} {σ9 : St} {ys' : List V}, Inv Y ([] ++ pinsAt fp s6.heap) σ9 H9 s9 → σ9.length = (capSt cap σ).length → (∀ (i : Nat) v, (capSt cap σ)[i]? = some (some v) → σ9[i]? = some (some v)) → (∃ m', m' < n ∧ W (i + 1) m' ys' H9) → ∃ m, m < n ∧ ∃ i ys H', Inv Y [] (capSt cap σ) H' s9 ∧ tn i s9.heap ∧ (∀ b ∈ fp, H' b = none) ∧ W i m ys H' := by
        rintro H9 s9 σ9 ys' I9 hl hw ⟨m', hm, w9⟩
        refine ⟨m', hm, i + 1, ys', H9, I9.unpinned.weak hl.symm hw, T.keep _ _ _ st6 fun b hb o e => (I9.pin (b, o) (List.mem_append_right _ (List.mem_append_right _ (mem_pinsAt hb e)))).1, fun b hb => ?_, w9⟩
        obtain ⟨o, e, d⟩ := T.obj _ _ st6 b hb
        exact (I9.pin (b, o) (List.mem_append_right _ (List.mem_append_right _ (mem_pinsAt hb e)))).2.1
      have kw : ∀ (i : Nat) v, (capSt cap σ)[i]? = some (some v) → σ7[i]? = some (some v) := fun i v e => by
        rw [k2 i ?_]
        · exact e
        · unfold ownOf
          cases q : cap[i]? with
          | none => rfl
          | some o =>
            cases o with
            | none =>
              unfold capSt at e
              rw [List.getElem?_map, q] at e
              cases e
            | some j => rfl
      cases ok with
      | false =>
        rw [if_neg Bool.false_ne_true] at q8 ⊢
        exact again I8 k1 kw (hNN _ _ q8)
      | true =>
        rw [if_pos rfl] at q8 ⊢
        refine wpAny_mono (heY _ s8 σ7 H8 _ I8 q8) (fun u9 s9 ⟨y, H9, I9, ry, hD9, q9⟩ => ?_) nox
        refine wpAny_mono (mt_append (X := Y) _ s9 σ7 H9 (.ref s.heap.objs.size) [y] (.ref s.heap.objs.size) [u9] (fun _ H10 => NN (ys ++ [y]) H10) I9 rfl (.cons ry .nil) ⟨_, ys, y, rfl, rfl, hD9, hlen, q9⟩) (fun _ s10 ⟨_, H10, I10, _, q10⟩ => ?_) nox
        exact again I10 k1 kw (hNN _ _ q10)
  exact codeAny_compStart_list loop (T.self X.A 0 _ _ _ st4 loop)

/-- name = a list comprehension -/
theorem ps_setcX {E0 : XK} {i : Nat} {x : Str} {px spos : Pos} {tg elt iter : Expr} {ifs : List Expr} {pos : Pos} {wi : TI} {g : TG} {tt : TT} {te : TE} (hN : X.N.Nodup) (hx0 : X.N[i]? = some x) (hx : Loc X.env.scope x)
    (c : CompOk X scope N' cap) (hc : X.calm = true) (hit : PI X tg iter wi)
    (hg : ∀ C ex s H W, PG (cxCompX X scope N' C ex s H W) tg g) (hk : GKp (ownOf cap) g) (hi : ∀ C ex s H W, PIfs (cxCompX X scope N' C ex s H W) ifs tt) (he : ∀ C ex s H W, Passes (CX1 X.prog X.w) (cxCompX X scope N' C ex s H W) E0 → PE (cxCompX X scope N' C ex s H W) elt te) (hX : PassesT X E0)
    (hstk : X.stack = X.env :: X.outer := by rfl) (hfr : X.env.frame = some X.env.locals := by rfl) (hex : X.ex = [] := by rfl)
    (hsw : swapsWith (.ListComp elt [⟨tg, iter, ifs, 0⟩] scope pos) (some (.Name x px)) spos.line X.env = pure true := by rfl)
    (hs : ∀ x, foldedSetIterable iter X.env x = pure x := by intro _; rfl) (hf : X.fn x = true ∨ X.env.scope.names.lookup x = some .local := by first | exact .inl rfl | exact .inr rfl | assumption) : PS X (.Assign [.Name x px] (.ListComp elt [⟨tg, iter, ifs, 0⟩] scope pos) spos) (tAsg (tComp cap wi g tt te) (gName i)) := by
  intro pins s σ H D0 I h
  rw [exec_Assign_Name_used _ _ _ _ hsw]
  refine wpAny_bind (wpAny_standAt (wpAny_bind ?_))
  show wpAny _ X.A (do let _ ← comprehension (.ListComp elt [⟨tg, iter, ifs, 0⟩] scope pos) scope X.env _ (newList []) false (eval iter X.env) (some (assign (.Name x px) X.env))) _ _ s
  refine wpAny_bind (wpAny_mono (wpAny_comprehension_free (use := some (assign (.Name x px) X.env)) (Q := fun _ s' => SP X pins D0 .next s') rfl hs (closureFor_ok (c.clos I)) c.kind c.names
    (thn (hit pins s σ H _ I h) fun v s1 h1 => thn h1 fun itv s2 h2 => ?_)) (fun _ s' hq => wpAny_pure (wpAny_pure hq)) fun _ _ e => e)
  obtain ⟨it, fp, tn, J, H2, e, I2, T, st2, f2, q⟩ := h2
  subst e
  refine comp_coreX (Q := fun v H1 => gName i v σ H1 D0.nx) hX hstk hfr hex c hc I2 T st2 f2 hg hk hi he q (fun D C H' s' I' fC hn hq => ?_) fun D C e s' z => z
  obtain ⟨m, hn⟩ := hn
  refine wpAny_assign_Name (store_ok2 (v := .ref D) I' hN hx0 hx rfl (fun s'' I'' ⟨a, sb, ha⟩ => ?_) hf)
  have hne : C ≠ a := by
    rcases ha with z | z
    · rw [z]; exact fC.2.1
    · exact fun e => fC.2.2.2.2.1 x a z e.symm
  exact ⟨m, hn.sameBut sb hne, fun h' hs' => ⟨σ.set i (some (.ref D)), H', turned_of I'' fC hs', hq⟩⟩
end
end L2

set_option Elab.async false
set_option linter.all false
set_option maxRecDepth 100000
namespace Law
open PySem L2
local macro_rules | `(tactic| simp! [$ls,*]) => `(tactic| simp only [tSeq, tAsg, gName, tVar, tC, tOp, tUn, rI0, rI, rU, tCB, tCons, tNil, tRet, tRetN, tIfS, tTest, tB, tAnd, tOr, tNot, tAndV, tOrV, tNotV, tIf, tDrop, tNext, tCall, tMeth, tIsN, tNotN, L2.start, List.map_cons, List.map_nil, List.length_cons, List.length_nil, List.nil_append, List.cons_append, List.append_nil, Nat.reduceAdd, Nat.reduceSub, Nat.sub_self, List.replicate_succ, List.replicate_zero, List.set_cons_zero, List.set_cons_succ, List.getElem?_cons_zero, List.getElem?_cons_succ, Option.some.injEq, V.int.injEq, V.bl.injEq, V.str.injEq, V.ref.injEq, List.cons.injEq, exists_eq_left', exists_eq_left, exists_and_left, and_true, true_and, if_true, if_false, ite_true, ite_false, Bool.true_eq_false, Bool.false_eq_true, decide_eq_true_eq, Bool.not_true, Bool.not_false, Bool.not_eq_true', decide_eq_false_iff_not, reduceCtorEq, false_and, and_false, exists_false, tTup, tLst, sizeLine_eq, Nat.reduceLeDiff, Nat.zero_le, rEq, rNe, rIxF, rEqF, gSub, rSetL, HO.lst.injEq, HO.tup.injEq, HO.ins.injEq, HO.dK.injEq, scal_int, scal_bl, scal_str, tyF_ref, tyF_int, tyF_bl, tyF_str, tyF_non, lenF_ref, seqV_eq, kindV_eq, tyO_lst, tyO_frz, tyO_tup, tyO_dK, lenO_lst, lenO_frz, lenO_tup, seqO_lst, seqO_frz, seqO_tup, kindO_lst, kindO_frz, kindO_tup, isTys, and_assoc, atI_0, atI_1, atI_2, atI_3, atI_4, upd_same, V.ty.injEq, eq_self_iff_true, and_self, String.reduceEq, or_false, or_true, false_or, true_or, Bool.or_true, Bool.or_false, Bool.true_or, Bool.false_or, Bool.and_false, Bool.false_and, Bool.and_true, Bool.true_and, String.reduceBEq, beq_self_eq_true, tDGetF, tDInF, tDNotInF, sDPutF, keyOf_int, keyOf_str, sFld, tFld, tDNewK, tRaise, tMethE, EX, tFstr, tMake, cxOf_K, Nat.reduceLT, Option.join_some, Option.join_none, not_true_eq_false, not_false_eq_true, gCons, gNil, tChain, rEqE, tAug, ipI, $ls,*])
def kd_PARTS : PyData := .dict [(.str "put", .str "pn"), (.str "nil", .str "p"), (.str "copy", .str "pp"), (.str "plus", .str "ppp"), (.str "less", .str "ppp"), (.str "make", .str "pkk"), (.str "fetch", .str "ppk"), (.str "read", .str "ppk"), (.str "hang", .str "pkp"), (.str "write", .str "pkp"), (.str "into", .str "ppk"), (.str "look", .str "ppp"), (.str "lay", .str "ppp"), (.str "jump", .str "t"), (.str "zero", .str "pt"), (.str "none", .str "pt"), (.str "same", .str "ppt"), (.str "call", .str "pfq"), (.str "back", .str "p"), (.str "tell", .str "p"), (.str "rest", .str "")]
def top (i : Nat) : Stmt := PySem.Challenge.pw_knownholds_k18_whole_one_text.main.body.getD i (.Pass ⟨0, 0, 0, 0⟩)
abbrev s_parts_of : Stmt := top 10
abbrev s_read_whole : Stmt := top 14
abbrev s_shown_row : Stmt := top 15
abbrev s_shown : Stmt := top 16
abbrev s_read_takes : Stmt := top 17
abbrev s_read_head : Stmt := top 18
abbrev s_read_row : Stmt := top 19
abbrev s_read : Stmt := top 20
abbrev s_law_bag : Stmt := top 22
abbrev s_law_draw : Stmt := top 23
abbrev s_law_letters : Stmt := top 24
abbrev s_law_number : Stmt := top 25
abbrev s_law_part : Stmt := top 26
abbrev s_law_row : Stmt := top 27
abbrev s_law_rows : Stmt := top 28
abbrev s_law_signs : Stmt := top 29
abbrev s_law_program : Stmt := top 30
abbrev s_law_written : Stmt := top 31
abbrev s_law_any_sign : Stmt := top 32
abbrev s_law_run : Stmt := top 33
abbrev s_law_bent_text : Stmt := top 34
abbrev s_law_part_good : Stmt := top 35
abbrev s_law_row_good : Stmt := top 36
abbrev s_law_formed : Stmt := top 37
abbrev s_law_read : Stmt := top 38
abbrev s_law_copy : Stmt := top 39
abbrev s_law_alike : Stmt := top 40
abbrev s_law_turned : Stmt := top 41
abbrev s_law : Stmt := top 42
set_option genInjectivity false in
set_option genSizeOf false in
structure Ad where
  f_parts_of : Addr
  d_parts_of : FuncData
  f_read_whole : Addr
  d_read_whole : FuncData
  f_shown_row : Addr
  d_shown_row : FuncData
  f_shown : Addr
  d_shown : FuncData
  f_read_takes : Addr
  d_read_takes : FuncData
  f_read_head : Addr
  d_read_head : FuncData
  f_read_row : Addr
  d_read_row : FuncData
  f_read : Addr
  d_read : FuncData
  f_law_bag : Addr
  d_law_bag : FuncData
  f_law_draw : Addr
  d_law_draw : FuncData
  f_law_letters : Addr
  d_law_letters : FuncData
  f_law_number : Addr
  d_law_number : FuncData
  f_law_part : Addr
  d_law_part : FuncData
  f_law_row : Addr
  d_law_row : FuncData
  f_law_rows : Addr
  d_law_rows : FuncData
  f_law_signs : Addr
  d_law_signs : FuncData
  f_law_program : Addr
  d_law_program : FuncData
  f_law_written : Addr
  d_law_written : FuncData
  f_law_any_sign : Addr
  d_law_any_sign : FuncData
  f_law_run : Addr
  d_law_run : FuncData
  f_law_bent_text : Addr
  d_law_bent_text : FuncData
  f_law_part_good : Addr
  d_law_part_good : FuncData
  f_law_row_good : Addr
  d_law_row_good : FuncData
  f_law_formed : Addr
  d_law_formed : FuncData
  f_law_read : Addr
  d_law_read : FuncData
  f_law_copy : Addr
  d_law_copy : FuncData
  f_law_alike : Addr
  d_law_alike : FuncData
  f_law_turned : Addr
  d_law_turned : FuncData
  f_law : Addr
  d_law : FuncData
  c_NoText : Addr
  c_HoldError : Addr
  c_NoSpot : Addr
  c_NoThing : Addr
  c_NotFormed : Addr
  c_NoTable : Addr
  c_Faulty : Addr
  t_FIGURES : Nat
  t_MOST_FIGURES : Nat
  g_PARTS : Addr
structure Txt (K : PySem.W.Frag) (mg : Str → Option Value) (a : Ad) : Prop where
  x_NoText : XCls K a.c_NoText
  m_NoText : mg "NoText" = some (.ref a.c_NoText)
  m_HoldError : mg "HoldError" = some (.ref a.c_HoldError)
  m_NoSpot : mg "NoSpot" = some (.ref a.c_NoSpot)
  m_NoThing : mg "NoThing" = some (.ref a.c_NoThing)
  m_NotFormed : mg "NotFormed" = some (.ref a.c_NotFormed)
  m_NoTable : mg "NoTable" = some (.ref a.c_NoTable)
  m_Faulty : mg "Faulty" = some (.ref a.c_Faulty)
  xt : HT.XTab K a.c_HoldError [a.c_HoldError, a.c_NoSpot, a.c_NoThing, a.c_NoText, a.c_NotFormed, a.c_NoTable, a.c_Faulty]
  F_parts_of : Fun K "parts_of" "parts_of" s_parts_of a.f_parts_of a.d_parts_of
  b_parts_of : Binds K a.d_parts_of ["word"] []
  m_parts_of : mg "parts_of" = some (.ref a.f_parts_of)
  F_read_whole : Fun K "read_whole" "read_whole" s_read_whole a.f_read_whole a.d_read_whole
  b_read_whole : Binds K a.d_read_whole ["text", "most"] []
  m_read_whole : mg "read_whole" = some (.ref a.f_read_whole)
  F_shown_row : Fun K "shown_row" "shown_row" s_shown_row a.f_shown_row a.d_shown_row
  b_shown_row : Binds K a.d_shown_row ["row"] []
  m_shown_row : mg "shown_row" = some (.ref a.f_shown_row)
  F_shown : Fun K "shown" "shown" s_shown a.f_shown a.d_shown
  b_shown : Binds K a.d_shown ["program"] []
  m_shown : mg "shown" = some (.ref a.f_shown)
  F_read_takes : Fun K "read_takes" "read_takes" s_read_takes a.f_read_takes a.d_read_takes
  b_read_takes : Binds K a.d_read_takes ["part"] []
  m_read_takes : mg "read_takes" = some (.ref a.f_read_takes)
  F_read_head : Fun K "read_head" "read_head" s_read_head a.f_read_head a.d_read_head
  b_read_head : Binds K a.d_read_head ["parts"] []
  m_read_head : mg "read_head" = some (.ref a.f_read_head)
  F_read_row : Fun K "read_row" "read_row" s_read_row a.f_read_row a.d_read_row
  b_read_row : Binds K a.d_read_row ["parts"] []
  m_read_row : mg "read_row" = some (.ref a.f_read_row)
  F_read : Fun K "read" "read" s_read a.f_read a.d_read
  b_read : Binds K a.d_read ["text"] []
  m_read : mg "read" = some (.ref a.f_read)
  F_law_bag : Fun K "_law_bag" "_law_bag" s_law_bag a.f_law_bag a.d_law_bag
  b_law_bag : Binds K a.d_law_bag ["script"] []
  m_law_bag : mg "_law_bag" = some (.ref a.f_law_bag)
  F_law_draw : Fun K "_law_draw" "_law_draw" s_law_draw a.f_law_draw a.d_law_draw
  b_law_draw : Binds K a.d_law_draw ["bag", "many"] []
  m_law_draw : mg "_law_draw" = some (.ref a.f_law_draw)
  F_law_letters : Fun K "_law_letters" "_law_letters" s_law_letters a.f_law_letters a.d_law_letters
  b_law_letters : Binds K a.d_law_letters [] []
  m_law_letters : mg "_law_letters" = some (.ref a.f_law_letters)
  F_law_number : Fun K "_law_number" "_law_number" s_law_number a.f_law_number a.d_law_number
  b_law_number : Binds K a.d_law_number ["bag"] []
  m_law_number : mg "_law_number" = some (.ref a.f_law_number)
  F_law_part : Fun K "_law_part" "_law_part" s_law_part a.f_law_part a.d_law_part
  b_law_part : Binds K a.d_law_part ["bag", "letter", "words", "many", "signs"] []
  m_law_part : mg "_law_part" = some (.ref a.f_law_part)
  F_law_row : Fun K "_law_row" "_law_row" s_law_row a.f_law_row a.d_law_row
  b_law_row : Binds K a.d_law_row ["bag", "word", "words", "many", "signs"] []
  m_law_row : mg "_law_row" = some (.ref a.f_law_row)
  F_law_rows : Fun K "_law_rows" "_law_rows" s_law_rows a.f_law_rows a.d_law_rows
  b_law_rows : Binds K a.d_law_rows ["bag", "words", "many", "signs"] []
  m_law_rows : mg "_law_rows" = some (.ref a.f_law_rows)
  F_law_signs : Fun K "_law_signs" "_law_signs" s_law_signs a.f_law_signs a.d_law_signs
  b_law_signs : Binds K a.d_law_signs ["bag", "many"] []
  m_law_signs : mg "_law_signs" = some (.ref a.f_law_signs)
  F_law_program : Fun K "_law_program" "_law_program" s_law_program a.f_law_program a.d_law_program
  b_law_program : Binds K a.d_law_program ["bag"] []
  m_law_program : mg "_law_program" = some (.ref a.f_law_program)
  F_law_written : Fun K "_law_written" "_law_written" s_law_written a.f_law_written a.d_law_written
  b_law_written : Binds K a.d_law_written ["program"] []
  m_law_written : mg "_law_written" = some (.ref a.f_law_written)
  F_law_any_sign : Fun K "_law_any_sign" "_law_any_sign" s_law_any_sign a.f_law_any_sign a.d_law_any_sign
  b_law_any_sign : Binds K a.d_law_any_sign ["bag"] []
  m_law_any_sign : mg "_law_any_sign" = some (.ref a.f_law_any_sign)
  F_law_run : Fun K "_law_run" "_law_run" s_law_run a.f_law_run a.d_law_run
  b_law_run : Binds K a.d_law_run ["bag"] []
  m_law_run : mg "_law_run" = some (.ref a.f_law_run)
  F_law_bent_text : Fun K "_law_bent_text" "_law_bent_text" s_law_bent_text a.f_law_bent_text a.d_law_bent_text
  b_law_bent_text : Binds K a.d_law_bent_text ["text", "pick", "bag"] []
  m_law_bent_text : mg "_law_bent_text" = some (.ref a.f_law_bent_text)
  F_law_part_good : Fun K "_law_part_good" "_law_part_good" s_law_part_good a.f_law_part_good a.d_law_part_good
  b_law_part_good : Binds K a.d_law_part_good ["program", "one", "letter", "part"] []
  m_law_part_good : mg "_law_part_good" = some (.ref a.f_law_part_good)
  F_law_row_good : Fun K "_law_row_good" "_law_row_good" s_law_row_good a.f_law_row_good a.d_law_row_good
  b_law_row_good : Binds K a.d_law_row_good ["program", "one", "row"] []
  m_law_row_good : mg "_law_row_good" = some (.ref a.f_law_row_good)
  F_law_formed : Fun K "_law_formed" "_law_formed" s_law_formed a.f_law_formed a.d_law_formed
  b_law_formed : Binds K a.d_law_formed ["program"] []
  m_law_formed : mg "_law_formed" = some (.ref a.f_law_formed)
  F_law_read : Fun K "_law_read" "_law_read" s_law_read a.f_law_read a.d_law_read
  b_law_read : Binds K a.d_law_read ["text"] []
  m_law_read : mg "_law_read" = some (.ref a.f_law_read)
  F_law_copy : Fun K "_law_copy" "_law_copy" s_law_copy a.f_law_copy a.d_law_copy
  b_law_copy : Binds K a.d_law_copy ["program"] []
  m_law_copy : mg "_law_copy" = some (.ref a.f_law_copy)
  F_law_alike : Fun K "_law_alike" "_law_alike" s_law_alike a.f_law_alike a.d_law_alike
  b_law_alike : Binds K a.d_law_alike ["found", "due"] []
  m_law_alike : mg "_law_alike" = some (.ref a.f_law_alike)
  F_law_turned : Fun K "_law_turned" "_law_turned" s_law_turned a.f_law_turned a.d_law_turned
  b_law_turned : Binds K a.d_law_turned ["text", "pick"] []
  m_law_turned : mg "_law_turned" = some (.ref a.f_law_turned)
  F_law : Fun K "law" "law" s_law a.f_law a.d_law
  b_law : Binds K a.d_law ["script"] []
  m_law : mg "law" = some (.ref a.f_law)
  z_ValueError : mg "ValueError" = none
  z_abs : mg "abs" = none
  z_all : mg "all" = none
  z_bool : mg "bool" = none
  z_int : mg "int" = none
  z_isinstance : mg "isinstance" = none
  z_len : mg "len" = none
  z_list : mg "list" = none
  z_range : mg "range" = none
  z_str : mg "str" = none
  z_tuple : mg "tuple" = none
  m_FIGURES : mg "FIGURES" = some (.str "0123456789" a.t_FIGURES)
  m_MOST_FIGURES : mg "MOST_FIGURES" = some (.int (60) a.t_MOST_FIGURES)
  m_PARTS : mg "PARTS" = some (.ref a.g_PARTS)
  k_PARTS : rdK K 6 (.ref a.g_PARTS) = some kd_PARTS
theorem sc_parts_of : FnScope ["word"] ["word"] (defScope s_parts_of) := ⟨rfl, rfl, rfl, by decide +kernel, rfl, by decide +kernel, by decide +kernel⟩
theorem sc_read_whole : FnScope ["text", "most", "figures"] ["text", "most"] (defScope s_read_whole) := ⟨rfl, rfl, rfl, by decide +kernel, rfl, by decide +kernel, by decide +kernel⟩
theorem sc_shown_row : FnScope ["row", "parts", "part"] ["row"] (defScope s_shown_row) := ⟨rfl, rfl, rfl, by decide +kernel, rfl, by decide +kernel, by decide +kernel⟩
theorem sc_shown : FnScope ["program", "lines", "takes", "gives", "words", "rows", "letters"] ["program"] (defScope s_shown) := ⟨rfl, rfl, rfl, by decide +kernel, rfl, by decide +kernel, by decide +kernel⟩
theorem sc_read_takes : FnScope ["part"] ["part"] (defScope s_read_takes) := ⟨rfl, rfl, rfl, by decide +kernel, rfl, by decide +kernel, by decide +kernel⟩
theorem sc_read_head : FnScope ["parts", "gives"] ["parts"] (defScope s_read_head) := ⟨rfl, rfl, rfl, by decide +kernel, rfl, by decide +kernel, by decide +kernel⟩
theorem sc_read_row : FnScope ["parts", "word", "kinds", "numbers"] ["parts"] (defScope s_read_row) := ⟨rfl, rfl, rfl, by decide +kernel, rfl, by decide +kernel, by decide +kernel⟩
theorem sc_read : FnScope ["text", "program", "line", "parts"] ["text"] (defScope s_read) := ⟨rfl, rfl, rfl, by decide +kernel, rfl, by decide +kernel, by decide +kernel⟩
theorem sc_law_bag : FnScope ["script", "stir", "cell"] ["script"] (defScope s_law_bag) := ⟨rfl, rfl, rfl, by decide +kernel, rfl, by decide +kernel, by decide +kernel⟩
theorem sc_law_draw : FnScope ["bag", "many", "found"] ["bag", "many"] (defScope s_law_draw) := ⟨rfl, rfl, rfl, by decide +kernel, rfl, by decide +kernel, by decide +kernel⟩
theorem sc_law_letters : FnScope [] [] (defScope s_law_letters) := ⟨rfl, rfl, rfl, by decide +kernel, rfl, by decide +kernel, by decide +kernel⟩
theorem sc_law_number : FnScope ["bag"] ["bag"] (defScope s_law_number) := ⟨rfl, rfl, rfl, by decide +kernel, rfl, by decide +kernel, by decide +kernel⟩
theorem sc_law_part : FnScope ["bag", "letter", "words", "many", "signs"] ["bag", "letter", "words", "many", "signs"] (defScope s_law_part) := ⟨rfl, rfl, rfl, by decide +kernel, rfl, by decide +kernel, by decide +kernel⟩
theorem sc_law_row : FnScope ["bag", "word", "words", "many", "signs", "row", "letter", "args"] ["bag", "word", "words", "many", "signs"] (defScope s_law_row) := ⟨rfl, rfl, rfl, by decide +kernel, rfl, by decide +kernel, by decide +kernel⟩
theorem sc_law_rows : FnScope ["bag", "words", "many", "signs", "rows", "k", "word"] ["bag", "words", "many", "signs"] (defScope s_law_rows) := ⟨rfl, rfl, rfl, by decide +kernel, rfl, by decide +kernel, by decide +kernel⟩
theorem sc_law_signs : FnScope ["bag", "many", "signs", "k", "takes"] ["bag", "many"] (defScope s_law_signs) := ⟨rfl, rfl, rfl, by decide +kernel, rfl, by decide +kernel, by decide +kernel⟩
theorem sc_law_program : FnScope ["bag", "big", "many", "signs", "program", "takes", "gives", "words", "size"] ["bag"] (defScope s_law_program) := ⟨rfl, rfl, rfl, by decide +kernel, rfl, by decide +kernel, by decide +kernel⟩
theorem sc_law_written : FnScope ["program", "lines", "takes", "gives", "words", "rows", "row", "line", "part"] ["program"] (defScope s_law_written) := ⟨rfl, rfl, rfl, by decide +kernel, rfl, by decide +kernel, by decide +kernel⟩
theorem sc_law_any_sign : FnScope ["bag", "some"] ["bag"] (defScope s_law_any_sign) := ⟨rfl, rfl, rfl, by decide +kernel, rfl, by decide +kernel, by decide +kernel⟩
theorem sc_law_run : FnScope ["bag", "way", "many"] ["bag"] (defScope s_law_run) := ⟨rfl, rfl, rfl, by decide +kernel, rfl, by decide +kernel, by decide +kernel⟩
theorem sc_law_bent_text : FnScope ["text", "pick", "bag", "at", "starts", "gone"] ["text", "pick", "bag"] (defScope s_law_bent_text) := ⟨rfl, rfl, rfl, by decide +kernel, rfl, by decide +kernel, by decide +kernel⟩
theorem sc_law_part_good : FnScope ["program", "one", "letter", "part", "most"] ["program", "one", "letter", "part"] (defScope s_law_part_good) := ⟨rfl, rfl, rfl, by decide +kernel, rfl, by decide +kernel, by decide +kernel⟩
theorem sc_law_row_good : FnScope ["program", "one", "row", "letters", "k"] ["program", "one", "row"] (defScope s_law_row_good) := ⟨rfl, rfl, rfl, by decide +kernel, rfl, by decide +kernel, by decide +kernel⟩
theorem sc_law_formed : FnScope ["program", "one", "takes", "gives", "words", "rows"] ["program"] (defScope s_law_formed) := ⟨rfl, rfl, rfl, by decide +kernel, rfl, by decide +kernel, by decide +kernel⟩
theorem sc_law_read : FnScope ["text", "found", "told", "e", "others"] ["text"] (defScope s_law_read) := ⟨rfl, rfl, rfl, by decide +kernel, rfl, by decide +kernel, by decide +kernel⟩
theorem sc_law_copy : FnScope ["program"] ["program"] (defScope s_law_copy) := ⟨rfl, rfl, rfl, by decide +kernel, rfl, by decide +kernel, by decide +kernel⟩
theorem sc_law_alike : FnScope ["found", "due", "k"] ["found", "due"] (defScope s_law_alike) := ⟨rfl, rfl, rfl, by decide +kernel, rfl, by decide +kernel, by decide +kernel⟩
theorem sc_law_turned : FnScope ["text", "pick", "lines", "one", "two", "kept"] ["text", "pick"] (defScope s_law_turned) := ⟨rfl, rfl, rfl, by decide +kernel, rfl, by decide +kernel, by decide +kernel⟩
theorem sc_law : FnScope ["script", "bag", "picks", "k", "text", "pick", "found", "told", "kept", "again"] ["script"] (defScope s_law) := ⟨rfl, rfl, rfl, by decide +kernel, rfl, by decide +kernel, by decide +kernel⟩
section
variable {P : Program} {w : World} {K : PySem.W.Frag} {mg : Str → Option Value} {base : Heap} {a : Ad}

structure BagOk (cs : List Int) (i v st n : Int) : Prop where
  i0 : 0 ≤ i
  i1 : i ≤ cs.length
  v0 : 0 ≤ v
  s0 : 0 ≤ st
  s1 : st < 2147483647
  n0 : 0 ≤ n
def bagL (c : Addr) (i v st n : Int) : List V := [.ref c, .int i, .int v, .int st, .int n]
structure BagAt (H : Hp) (b c : Addr) (cs : List Int) : Prop where
  ex : ∃ i v st n, H b = some (.lst (bagL c i v st n)) ∧ BagOk cs i v st n
  at_ : H c = some (.lst (cs.map V.int))
  ne : c ≠ b
  pos : ∀ z ∈ cs, 0 ≤ z
  len : cs.length ≤ 63
/-- all but b is as it was -/
def Kp (b : Addr) (H H' : Hp) : Prop := ∀ q o, H q = some o → q ≠ b → H' q = some o
theorem Kp.refl {b : Addr} {H : Hp} : Kp b H H := fun _ _ h _ => h
theorem Kp.trans {b : Addr} {H H1 H2 : Hp} (x : Kp b H H1) (y : Kp b H1 H2) : Kp b H H2 := fun q o h n => y q o (x q o h n) n
theorem Kp.laid {b p : Addr} {H H1 : Hp} {u : HO} (x : Kp b H H1) (hp : H1 p = none) : Kp b H (upd H1 p u) := fun q o h n => upd_old (x q o h n) hp
theorem Kp.at_ {b : Addr} {H : Hp} {u : HO} : Kp b H (upd H b u) := fun q o h n => by rw [upd_ne n]; exact h
theorem BagAt.laid {H : Hp} {b c p : Addr} {cs : List Int} {u : HO} (x : BagAt H b c cs) (hp : H p = none) : BagAt (upd H p u) b c cs := by
  obtain ⟨⟨i, v, st, n, e, k⟩, h2, ne, pos, len⟩ := x
  exact ⟨⟨i, v, st, n, upd_old e hp, k⟩, upd_old h2 hp, ne, pos, len⟩
theorem BagAt.other {H : Hp} {b c p : Addr} {cs : List Int} {u : HO} (x : BagAt H b c cs) (h1 : p ≠ b) (h2 : p ≠ c) : BagAt (upd H p u) b c cs := by
  obtain ⟨⟨i, v, st, n, e, k⟩, h3, ne, pos, len⟩ := x
  exact ⟨⟨i, v, st, n, by rw [upd_ne h1.symm]; exact e, k⟩, by rw [upd_ne h2.symm]; exact h3, ne, pos, len⟩
theorem BagAt.keep {H H' : Hp} {b c : Addr} {cs : List Int} (x : BagAt H b c cs) (hs : ∀ q o, H q = some o → H' q = some o) : BagAt H' b c cs := by
  obtain ⟨⟨i, v, st, n, e, k⟩, h3, ne, pos, len⟩ := x
  exact ⟨⟨i, v, st, n, hs _ _ e, k⟩, hs _ _ h3, ne, pos, len⟩
theorem pow3_lt {x : Int} (h0 : 0 ≤ x) : 0 ≤ x ^ 3 := Int.pow_nonneg h0
def sp_draw : Sp := fun vs H Q _ => ∃ (b c : Addr) (cs : List Int) (many : Int), vs = [.ref b, .int many] ∧ BagAt H b c cs ∧ 0 < many ∧ many ≤ 10 ^ 70 ∧ ∀ (r : Int) (H' : Hp), 0 ≤ r → r < many → BagAt H' b c cs → Kp b H H' → Q (.int r) H'
theorem ixN5_0 : ixN 5 0 = some 0 := rfl
theorem ixN5_1 : ixN 5 1 = some 1 := rfl
theorem ixN5_2 : ixN 5 2 = some 2 := rfl
theorem ixN5_3 : ixN 5 3 = some 3 := rfl
theorem ixN5_4 : ixN 5 4 = some 4 := rfl
set_option maxHeartbeats 4000000 in
theorem ok_law_draw (T : Txt K mg a) : FnOk P w K mg base (CX1 P w) 1 a.f_law_draw a.d_law_draw ["bag", "many"] sp_draw := by
  refine T.F_law_draw.okC sc_law_draw (fun vs H Q E h => ?_) (fun cdv A outer s H vs Q E hr h => ?_)
  · obtain ⟨b, c, cs, m, rfl, _⟩ := h
    rfl
  · obtain ⟨b, c, cs, m, rfl, ⟨⟨i, v, st, n, hb, i0, i1, v0, s0, s1, n0⟩, hc, ne, pos, len⟩, m0, m1, q⟩ := h
    have hu := hu_of hr
    refine ⟨_, (pss_cons (ps_if (PW.pt (pw_and (pt_cmpR op_eq (pe_ix ix_F (pv 0) pe_int (fun _ _ => rfl)) pe_int (nomark _)) (pw_and1 (pt_cmpR op_lt (pe_ix ix_F (pv 0) pe_int (fun _ _ => rfl)) (pe_callB call_lenF (by rfl) T.z_len (by decide +kernel) (pa_cons (pe_ix ix_F (pv 0) pe_int (fun _ _ => rfl)) pa_nil)) (nomark _))))) (pss_cons (ps_asg (pe_ix ix_F (pe_ix ix_F (pv 0) pe_int (fun _ _ => rfl)) (pe_ix ix_F (pv 0) pe_int (fun _ _ => rfl)) (fun _ _ => rfl)) (pg_sub (pv 0) pe_int set_list))
      (pss_one (ps_asg (pe_op op_add (pe_ix ix_F (pv 0) pe_int (fun _ _ => rfl)) pe_int) (pg_sub (pv 0) pe_int set_list)))) (pss_one (ps_if (pt_cmpR op_eq (pe_ix ix_F (pv 0) pe_int (fun _ _ => rfl)) pe_int (nomark _)) (pss_cons (ps_asg (pe_op op_add (pe_ix ix_F (pv 0) pe_int (fun _ _ => rfl)) pe_int) (pg_sub (pv 0) pe_int set_list))
      (pss_cons (ps_asg (pe_op op_mod (pe_op op_add (pe_op op_add (pe_op op_add (pe_op op_pow (pe_ix ix_F (pv 0) pe_int (fun _ _ => rfl)) pe_int) (pe_op op_mul pe_int (pe_ix ix_F (pv 0) pe_int (fun _ _ => rfl)))) (pe_op op_mul pe_int (pe_ix ix_F (pv 0) pe_int (fun _ _ => rfl)))) pe_int) pe_int) (pg_sub (pv 0) pe_int set_list))
      (pss_one (ps_ret (pe_op op_mod (pe_op op_fdivB (pe_ix ix_F (pv 0) pe_int (fun _ _ => rfl)) pe_int) (pv 1)))))) pss_nil)))
      (pss_cons (ps_set (i := 2) sc_law_draw.nd (by rfl) (Or.inl rfl) (pe_op op_mod (pe_ix ix_F (pv 0) pe_int (fun _ _ => rfl)) (pv 1)))
      (pss_cons (ps_asg (pe_op op_fdivB (pe_ix ix_F (pv 0) pe_int (fun _ _ => rfl)) (pv 1)) (pg_sub (pv 0) pe_int set_list))
      (pss_one (ps_ret (pv 2)))))), ?_⟩
    simp! [hb, hc, bagL, ixN5_0, ixN5_1, ixN5_2, ixN5_3, ixN5_4, upd_upd, List.length_map]
    have fin : ∀ (r i' v' st' n' : Int), 0 ≤ r → r < m → BagOk cs i' v' st' n' → Q (.int r) (upd H b (.lst [.ref c, .int i', .int v', .int st', .int n'])) := fun r i' v' st' n' h1 h2 h3 =>
      q r _ h1 h2 ⟨⟨i', v', st', n', upd_same, h3⟩, by rw [upd_ne ne]; exact hc, ne, pos, len⟩ Kp.at_
    have e3 : (3 : Int).toNat = 3 := rfl
    rw [e3]
    have p3 := pow3_lt s0
    have B1 : CPow st 3 ∧ CMul 69621 st ∧ CMul 1009 (n + 1) ∧ (0 : Int) < 2147483647 ∧ CDivB ((st ^ 3 + 69621 * st + 1009 * (n + 1) + 1) % 2147483647) 16 ∧ 0 < m ∧ Q (V.int ((st ^ 3 + 69621 * st + 1009 * (n + 1) + 1) % 2147483647 / 16 % m)) (upd H b (HO.lst [V.ref c, V.int i, V.int v, V.int ((st ^ 3 + 69621 * st + 1009 * (n + 1) + 1) % 2147483647), V.int (n + 1)])) := by
      refine ⟨⟨by decide, by decide, by omega⟩, .inl ⟨by decide, by decide⟩, .inl ⟨by decide, by decide⟩, by decide, ⟨by decide, by decide⟩, m0, ?_⟩
      generalize (st ^ 3 + 69621 * st + 1009 * (n + 1) + 1) = y
      exact fin _ _ _ _ _ (Int.emod_nonneg _ (by omega)) (Int.emod_lt_of_pos _ m0) ⟨i0, i1, v0, by omega, by omega, by omega⟩
    have B2 : 0 < m ∧ CDivB v m ∧ Q (V.int (v % m)) (upd H b (HO.lst [V.ref c, V.int i, V.int (v / m), V.int st, V.int n])) :=
      ⟨m0, ⟨m0, m1⟩, fin _ _ _ _ _ (Int.emod_nonneg _ (by omega)) (Int.emod_lt_of_pos _ m0) ⟨i0, i1, Int.ediv_nonneg v0 (by omega), s0, s1, n0⟩⟩
    have B3 : i < cs.length → ∃ x, atI (cs.map V.int) i = some x ∧ ∃ i_1, x = V.int i_1 ∧ 0 < m ∧ ∃ i_2, x = V.int i_2 ∧ CDivB i_2 m ∧ Q (V.int (i_1 % m)) (upd H b (HO.lst [V.ref c, V.int (i + 1), V.int (i_2 / m), V.int st, V.int n])) := fun hi => by
      have hj : i.toNat < cs.length := by omega
      have e1 : (cs.map V.int)[i.toNat]? = some (V.int cs[i.toNat]) := by rw [List.getElem?_map, List.getElem?_eq_getElem hj]; rfl
      have e2 := atI_nat e1
      rw [show ((i.toNat : Nat) : Int) = i by omega] at e2
      have p := pos _ (List.getElem_mem hj)
      refine ⟨_, e2, _, rfl, m0, _, rfl, ⟨m0, m1⟩, ?_⟩
      exact fin _ _ _ _ _ (Int.emod_nonneg _ (by omega)) (Int.emod_lt_of_pos _ m0) ⟨by omega, by omega, Int.ediv_nonneg p (by omega), s0, s1, n0⟩
    refine ite2 (fun h1 => ite2 B3 fun h2 => ite2 (fun _ => B1) fun _ => B2) fun h1 => ite2 (fun _ => B1) fun _ => B2

theorem cut63 (ns : List Int) : ∃ zs : List Int, cutV (ns.map V.int) none (some 63) = zs.map V.int ∧ zs.length ≤ 63 ∧ zs.length ≤ ns.length := by
  refine ⟨(ns.drop (HT.sIx (ns.map V.int).length 0 none)).take (HT.sIx (ns.map V.int).length (ns.map V.int).length (some 63) - HT.sIx (ns.map V.int).length 0 none), ?_, ?_, ?_⟩
  · unfold cutV
    rw [List.map_take, List.map_drop]
  · rw [List.length_take, List.length_drop, List.length_map]
    have : HT.sIx ns.length ns.length (some 63) ≤ 63 := by unfold HT.sIx; simp; omega
    omega
  · rw [List.length_take, List.length_drop]; omega
def sp_bag (K : PySem.W.Frag) : Sp := fun vs H Q _ => ∃ (r : Addr) (ns : List Int), vs = [.ref r] ∧ SqL K H r (ns.map V.int) ∧ ∀ (b c : Addr) (cs : List Int) (H' : Hp), H b = none → H c = none → BagAt H' b c cs → Same H H' → Q (.ref b) H'
set_option maxHeartbeats 4000000 in
theorem ok_law_bag (T : Txt K mg a) : FnOk P w K mg base (CX1 P w) 1 a.f_law_bag a.d_law_bag ["script"] (sp_bag K) := by
  refine T.F_law_bag.okC sc_law_bag (fun vs H Q E h => ?_) (fun cdv A outer s H vs Q E hr h => ?_)
  · obtain ⟨r, ns, rfl, _⟩ := h
    rfl
  · obtain ⟨r, ns, rfl, hS, q⟩ := h
    have hu := hu_of hr
    obtain ⟨zs, ez, lz, _⟩ := cut63 ns
    refine ⟨_, (pss_cons (ps_set (i := 1) sc_law_bag.nd (by rfl) (Or.inl rfl) pe_int)
      (pss_cons (ps_for PassesOwn.never (by rfl) (pi_list (pe_slice sl_list (pv 0) po_none (po_some pe_int))) (pg_name (i := 2) sc_law_bag.nd (by rfl) (Or.inl rfl))
      (pss_one (ps_set (i := 1) sc_law_bag.nd (by rfl) (Or.inl rfl) (pe_op op_mod (pe_op op_add (pe_op op_add (pe_op op_mul (pv 1) pe_int) (pe_op op_mod (pv 2) pe_int)) pe_int) pe_int))))
      (pss_one (ps_ret (pe_lst (pa_cons (pe_comp (N' := ["cell"]) (cap := [none]) ⟨rfl, (by decide +kernel), (by decide +kernel), (by rfl), rfl, (by rfl)⟩ (by rfl) (pi_list (pe_slice sl_list (pv 0) po_none (po_some pe_int))) (fun C_ ex_ s_ H_ => (pg_name (i := 0) (show (["cell"] : List Str).Nodup by decide +kernel) (by rfl) (Or.inl rfl))) gkp_name (fun C_ ex_ s_ H_ => pifs_nil) (fun C_ ex_ s_ H_ => (pe_op op_mod (pe_callB call_abs (by rfl) T.z_abs (by decide +kernel) (pa_cons (pv 0) pa_nil)) (pe_op op_pow pe_int pe_int)))) (pa_cons pe_int (pa_cons pe_int (pa_cons (pv 1) (pa_cons pe_int pa_nil)))))))))), ?_⟩
    refine ⟨_, rfl, 63, rfl, r, _, rfl, hS, fun l1 hl1 => ?_⟩
    rw [ez]
    refine ⟨l1, rfl, ⟨_, .of upd_same⟩, for_list (xs := zs.map V.int) (fun i σ H2 => ∃ (st : Int) (v2 : Option V), σ = [some (.ref r), some (.int st), v2] ∧ H2 = upd H l1 (.lst (zs.map V.int)) ∧ 0 ≤ st ∧ st < 2147483647)
      ⟨7, _, rfl, rfl, by decide, by decide⟩ (fun i σ H2 _ ⟨_, _, _, e, _⟩ => by rw [e]; exact .of upd_same) ?_ ?_⟩
    · rintro i x σ H2 hi ⟨st, v2, rfl, rfl, s0, s1⟩
      obtain ⟨z, _, rfl⟩ := of_map_get hi
      simp! []
      exact ⟨.inr ⟨by decide, by decide⟩, by decide, by decide, Int.emod_nonneg _ (by decide), Int.emod_lt_of_pos _ (by decide)⟩
    · rintro σ H2 ⟨st, v2, rfl, rfl, s0, s1⟩
      have hS1 : SqL K (upd H l1 (.lst (zs.map V.int))) r (ns.map V.int) := (Same.laid hl1).seq hS
      refine ⟨_, rfl, 63, rfl, r, _, rfl, hS1, fun l2 hl2 => ?_⟩
      rw [ez]
      refine ⟨l2, rfl, ⟨_, .of upd_same⟩, fun D hD => ?_⟩
      refine comp_list (xs := zs.map V.int) (fun i ys H2 => ∃ ws : List Int, ys = ws.map V.int ∧ ws.length = i ∧ (∀ z ∈ ws, 0 ≤ z) ∧ H2 = upd (upd (upd H l1 (.lst (zs.map V.int))) l2 (.lst (zs.map V.int))) D (.lst ys))
        ⟨[], rfl, rfl, by simp, rfl⟩ (fun i ys H2 _ ⟨ws, e1, e2, _, e3⟩ => ?_) (by rw [sizeLine_eq]; simp; omega) ?_ ?_
      · rw [e3]
        exact ⟨.of (upd_old upd_same hD), upd_same, by rw [e1]; simp; omega⟩
      · rintro i x ys H2 hi ⟨ws, rfl, e2, e3, rfl⟩
        obtain ⟨z, _, rfl⟩ := of_map_get hi
        simp! [tTrue, capSt]
        refine ⟨⟨by decide, by decide, by decide⟩, by decide, ws ++ [(if z < 0 then -z else z) % 10 ^ Int.toNat 60], by simp, by simp; omega, ?_, upd_upd⟩
        intro y hy
        rcases List.mem_append.mp hy with hy | hy
        · exact e3 y hy
        · rw [List.mem_singleton.mp hy]
          exact Int.emod_nonneg _ (by decide)
      · rintro ys H2 ⟨ws, rfl, e2, e3, rfl⟩
        simp! []
        intro b hb
        have n1 : H b = none := Same.free (((Same.laid hl1).step hl2).step hD) hb
        have n2 : H D = none := Same.free ((Same.laid hl1).step hl2) hD
        rw [List.length_map] at e2
        exact q b D ws _ n1 n2 ⟨⟨0, 0, st, 0, upd_same, by decide, by omega, by decide, s0, s1, by decide⟩, upd_old upd_same hb, ne_of_none upd_same hb, e3, by omega⟩ ((((Same.laid hl1).step hl2).step hD).step hb)

end
section
variable {P : Program} {w : World} {K : PySem.W.Frag} {mg : Str → Option Value} {base : Heap} {a : Ad}

def LW : List (Str × Str) := [("put", "pi"), ("nil", "p"), ("copy", "pp"), ("plus", "ppp"), ("less", "ppp"), ("make", "pkk"), ("fetch", "ppk"), ("read", "ppk"), ("hang", "pkp"), ("write", "pkp"), ("into", "ppk"), ("look", "ppp"), ("lay", "ppp"), ("jump", "t"), ("zero", "pt"), ("none", "pt"), ("same", "ppt"), ("call", "pfq"), ("back", "p"), ("tell", "p"), ("rest", "")]
def LET : List (Key × V) := LW.map fun p => (.inr p.1, .str p.2)
def sp_letters : Sp := fun vs H Q _ => vs = [] ∧ ∀ p H', Same H H' → H p = none → H' p = some (.dK LET) → Q (.ref p) H'
set_option maxHeartbeats 2000000 in
theorem ok_law_letters (T : Txt K mg a) : FnOk P w K mg base (CX1 P w) 1 a.f_law_letters a.d_law_letters [] sp_letters := by
  refine T.F_law_letters.okC sc_law_letters (fun vs H Q E h => ?_) (fun cdv A outer s H vs Q E hr h => ?_)
  · obtain ⟨rfl, _⟩ := h
    rfl
  · obtain ⟨rfl, q⟩ := h
    refine ⟨tRet (tDispL [(tC (.str "put"), tC (.str "pi")), (tC (.str "nil"), tC (.str "p")), (tC (.str "copy"), tC (.str "pp")), (tC (.str "plus"), tC (.str "ppp")), (tC (.str "less"), tC (.str "ppp")), (tC (.str "make"), tC (.str "pkk")), (tC (.str "fetch"), tC (.str "ppk")), (tC (.str "read"), tC (.str "ppk")), (tC (.str "hang"), tC (.str "pkp")), (tC (.str "write"), tC (.str "pkp")), (tC (.str "into"), tC (.str "ppk")), (tC (.str "look"), tC (.str "ppp")), (tC (.str "lay"), tC (.str "ppp")), (tC (.str "jump"), tC (.str "t")), (tC (.str "zero"), tC (.str "pt")), (tC (.str "none"), tC (.str "pt")), (tC (.str "same"), tC (.str "ppt"))] [(tC (.str "call"), tC (.str "pfq")), (tC (.str "back"), tC (.str "p")), (tC (.str "tell"), tC (.str "p")), (tC (.str "rest"), tC (.str ""))]), pss_one ?_, ?_⟩
    · refine ps_ret ?_
      refine pe_dispL ?_ ?_ ?_
      rotate_left
      · simp only [List.length_cons, List.length_nil]
        omega
      · simp only [List.length_cons, List.length_nil]
        omega
      · exact (plp_one pe_str pe_str (plp_one pe_str pe_str (plp_one pe_str pe_str (plp_one pe_str pe_str (plp_one pe_str pe_str (plp_one pe_str pe_str (plp_one pe_str pe_str (plp_one pe_str pe_str (plp_one pe_str pe_str (plp_one pe_str pe_str (plp_one pe_str pe_str (plp_one pe_str pe_str (plp_one pe_str pe_str (plp_one pe_str pe_str (plp_one pe_str pe_str (plp_one pe_str pe_str (plp_one pe_str pe_str (plp_two pe_str pe_str (plp_two pe_str pe_str (plp_two pe_str pe_str (plp_two pe_str pe_str plp_nil)))))))))))))))))))))
    · intro p hp
      simp only [tPuts, tPairs, tC, keyOf_str, upd_upd, upd_same, Option.some.injEq, HO.dK.injEq, exists_eq_left', exists_eq_left]
      refine ⟨_, _, rfl, rfl, small1000 (by decide +kernel), ⟨_, _, rfl, rfl, small1000 (by decide +kernel), ⟨_, _, rfl, rfl, small1000 (by decide +kernel), ⟨_, _, rfl, rfl, small1000 (by decide +kernel), ⟨_, _, rfl, rfl, small1000 (by decide +kernel), ⟨_, _, rfl, rfl, small1000 (by decide +kernel), ⟨_, _, rfl, rfl, small1000 (by decide +kernel), ⟨_, _, rfl, rfl, small1000 (by decide +kernel), ⟨_, _, rfl, rfl, small1000 (by decide +kernel), ⟨_, _, rfl, rfl, small1000 (by decide +kernel), ⟨_, _, rfl, rfl, small1000 (by decide +kernel), ⟨_, _, rfl, rfl, small1000 (by decide +kernel), ⟨_, _, rfl, rfl, small1000 (by decide +kernel), ⟨_, _, rfl, rfl, small1000 (by decide +kernel), ⟨_, _, rfl, rfl, small1000 (by decide +kernel), ⟨_, _, rfl, rfl, small1000 (by decide +kernel), ⟨_, _, rfl, rfl, small1000 (by decide +kernel), ?_⟩⟩⟩⟩⟩⟩⟩⟩⟩⟩⟩⟩⟩⟩⟩⟩⟩
      intro p2 hp2
      have np : p ≠ p2 := fun e => by rw [e] at hp2; rw [upd_same] at hp2; cases hp2
      have g1 : ∀ u : HO, upd (upd H p u) p2 (.dK []) p = some u := fun u => by rw [upd_ne np]; exact upd_same
      have h2 : H p2 = none := by rw [upd_ne np.symm] at hp2; exact hp2
      refine ⟨_, [(.inr "call", .str "pfq"), (.inr "back", .str "p"), (.inr "tell", .str "p"), (.inr "rest", .str "")], g1 _, by decide +kernel, True.intro, rfl, by decide +kernel, by decide +kernel, q _ _ ?_ hp ?_⟩
      · intro c o e
        rw [upd_ne (ne_of_none e hp), upd_ne (ne_of_none e h2), upd_ne (ne_of_none e hp)]
        exact e
      · rw [upd_same]
        rfl

end
section
variable {P : Program} {w : World} {K : PySem.W.Frag} {mg : Str → Option Value} {base : Heap} {a : Ad}

abbrev Part := Int ⊕ List Int
abbrev Row := Str × List Part
abbrev Sg := Str × Str
def PartAt (H : Hp) (v : V) : Part → Prop
  | .inl x => v = .int x
  | .inr l => ∃ q, v = .ref q ∧ H q = some (.tup (l.map V.int))
structure PartsAt (H : Hp) (vs : List V) (ps : List Part) : Prop where
  len : vs.length = ps.length
  at_ : ∀ (i : Nat) (v : V) (p : Part), vs[i]? = some v → ps[i]? = some p → PartAt H v p
def RowAt (H : Hp) (p : Addr) (r : Row) : Prop := ∃ vs, H p = some (.tup (.str r.1 :: vs)) ∧ PartsAt H vs r.2
/-- the lists of signs: takes and gives -/
structure SgAt (H : Hp) (sl : Addr) (as : List Addr) (sg : List Sg) : Prop where
  top : H sl = some (.lst (as.map V.ref))
  len : as.length = sg.length
  row : ∀ (i : Nat) (p : Addr) (x : Sg), as[i]? = some p → sg[i]? = some x → H p = some (.tup [.str x.1, .str x.2])
def PartFit (words many : Int) (sg : List Sg) (ps : List Part) (c : Nat) (p : Part) : Prop :=
  (c = 112 ∧ ∃ x, p = .inl x ∧ 0 ≤ x ∧ x < 8 + words) ∨ (c = 107 ∧ ∃ x, p = .inl x ∧ 0 ≤ x ∧ x < 10) ∨ (c = 116 ∧ ∃ x, p = .inl x ∧ 0 ≤ x ∧ x < many) ∨ (c = 102 ∧ ∃ x, p = .inl x ∧ 0 ≤ x ∧ x < sg.length) ∨
  (c = 105 ∧ ∃ x, p = .inl x ∧ -(10 ^ 60) < x ∧ x < 10 ^ 60) ∨ (c = 113 ∧ ∃ (f : Nat) (l : List Int) (z : Sg), ps[1]? = some (.inl (f : Int)) ∧ sg[f]? = some z ∧ p = .inr l ∧ l.length = z.1.cps.size ∧ ∀ x ∈ l, 0 ≤ x ∧ x < 8 + words)
structure PartsFit (words many : Int) (sg : List Sg) (ls : Str) (ps : List Part) : Prop where
  at_ : ∀ (i c : Nat) (p : Part), ls.cps[i]? = some c → ps[i]? = some p → PartFit words many sg ps c p
def RowFit (words many : Int) (sg : List Sg) (r : Row) : Prop := ∃ ls, (r.1, ls) ∈ LW ∧ r.2.length = ls.cps.size ∧ PartsFit words many sg ls r.2
def sp_number : Sp := fun vs H Q _ => ∃ (b c : Addr) (cs : List Int), vs = [.ref b] ∧ BagAt H b c cs ∧ ∀ (r : Int) (H' : Hp), -(10 ^ 60) < r → r < 10 ^ 60 → BagAt H' b c cs → Kp b H H' → Q (.int r) H'
theorem ok_law_number (T : Txt K mg a) : FnOk P w K mg base (CX1 P w) 2 a.f_law_number a.d_law_number ["bag"] sp_number := by
  refine T.F_law_number.okC sc_law_number (fun vs H Q E h => ?_) (fun cdv A outer s H vs Q E hr h => ?_)
  · obtain ⟨b, c, cs, rfl, _⟩ := h
    rfl
  · obtain ⟨b, c, cs, rfl, hb, q⟩ := h
    have hu := hu_of hr
    refine ⟨_, (pss_cons (ps_if (pt_cmpR op_eq (pe_call (ok_law_draw T) (hr.mono (by decide)) (by rfl) T.m_law_draw T.F_law_draw.kp T.b_law_draw .nil pass1 (pa_cons (pv 0) (pa_cons pe_int pa_nil))) pe_int (nomark _)) (pss_one (ps_ret (pe_op op_mul (pe_op op_sub (pe_op op_mul (pe_call (ok_law_draw T) (hr.mono (by decide)) (by rfl) T.m_law_draw T.F_law_draw.kp T.b_law_draw .nil pass1 (pa_cons (pv 0) (pa_cons pe_int pa_nil))) pe_int) pe_int) (pe_call (ok_law_draw T) (hr.mono (by decide)) (by rfl) T.m_law_draw T.F_law_draw.kp T.b_law_draw .nil pass1 (pa_cons (pv 0) (pa_cons (pe_op op_pow pe_int pe_int) pa_nil)))))) pss_nil)
      (pss_one (ps_ret (pe_op op_sub (pe_call (ok_law_draw T) (hr.mono (by decide)) (by rfl) T.m_law_draw T.F_law_draw.kp T.b_law_draw .nil pass1 (pa_cons (pv 0) (pa_cons pe_int pa_nil))) pe_int)))), ?_⟩
    simp! []
    refine ⟨b, c, cs, 3, rfl, hb, by decide, by decide, fun r H1 r0 r1 hb1 k1 => ?_⟩
    simp! []
    have p60 : (7 : Int) < 10 ^ 60 := by decide
    refine ite2 (fun _ => ⟨b, c, cs, _, rfl, hb1, by decide, by decide, fun r H2 r0 r1 hb2 k2 => ?_⟩) fun _ => ⟨b, c, cs, _, rfl, hb1, by decide, by decide, fun r H2 r0 r1 hb2 k2 => ?_⟩
    · simp! []
      refine ⟨.inl ⟨by omega, by omega⟩, ⟨by decide, by decide, by decide⟩, b, c, cs, _, rfl, hb2, by decide, by decide, fun r' H3 r0' r1' hb3 k3 => ?_⟩
      simp! []
      have p60' : (10 : Int) ^ Int.toNat 60 = 10 ^ 60 := rfl
      have two : r = 0 ∨ r = 1 := by omega
      refine ⟨.inl ⟨by omega, by omega⟩, q _ _ ?_ ?_ hb3 ((k1.trans k2).trans k3)⟩
      · rcases two with rfl | rfl <;> omega
      · rcases two with rfl | rfl <;> omega
    · simp! []
      exact q _ _ (by omega) (by omega) hb2 (k1.trans k2)
def sp_part : Sp := fun vs H Q _ => ∃ (b c sl : Addr) (cs : List Int) (ch : Nat) (words many : Int) (as : List Addr) (sg : List Sg), vs = [.ref b, .str ⟨#[ch]⟩, .int words, .int many, .ref sl] ∧ BagAt H b c cs ∧ SgAt H sl as sg ∧ sl ≠ b ∧
  (ch = 112 ∨ ch = 107 ∨ ch = 116 ∨ ch = 102 ∨ ch = 105) ∧ 0 ≤ words ∧ words ≤ 16 ∧ 0 < many ∧ many ≤ 1000 ∧ (ch = 102 → 0 < sg.length) ∧ sg.length ≤ 1000 ∧
  ∀ (r : Int) (H' : Hp), (∀ ps, PartFit words many sg ps ch (.inl r)) → BagAt H' b c cs → Kp b H H' → Q (.int r) H'
theorem ok_law_part (T : Txt K mg a) : FnOk P w K mg base (CX1 P w) 3 a.f_law_part a.d_law_part ["bag", "letter", "words", "many", "signs"] sp_part := by
  refine T.F_law_part.okC sc_law_part (fun vs H Q E h => ?_) (fun cdv A outer s H vs Q E hr h => ?_)
  · obtain ⟨b, c, sl, cs, ch, words, many, as, sg, rfl, _⟩ := h
    rfl
  · obtain ⟨b, c, sl, cs, ch, words, many, as, sg, rfl, hb, hs, nb, hch, w0, w1, m0, m1, hf, sl1, q⟩ := h
    have hu := hu_of hr
    refine ⟨_, (pss_cons (ps_if (pt_cmpR op_eq (pv 1) pe_str (nomark _)) (pss_one (ps_ret (pe_call (ok_law_draw T) (hr.mono (by decide)) (by rfl) T.m_law_draw T.F_law_draw.kp T.b_law_draw .nil pass1 (pa_cons (pv 0) (pa_cons (pe_op op_add pe_int (pv 2)) pa_nil))))) pss_nil)
      (pss_cons (ps_if (pt_cmpR op_eq (pv 1) pe_str (nomark _)) (pss_one (ps_ret (pe_call (ok_law_draw T) (hr.mono (by decide)) (by rfl) T.m_law_draw T.F_law_draw.kp T.b_law_draw .nil pass1 (pa_cons (pv 0) (pa_cons pe_int pa_nil))))) pss_nil)
      (pss_cons (ps_if (pt_cmpR op_eq (pv 1) pe_str (nomark _)) (pss_one (ps_ret (pe_call (ok_law_draw T) (hr.mono (by decide)) (by rfl) T.m_law_draw T.F_law_draw.kp T.b_law_draw .nil pass1 (pa_cons (pv 0) (pa_cons (pv 3) pa_nil))))) pss_nil)
      (pss_cons (ps_if (pt_cmpR op_eq (pv 1) pe_str (nomark _)) (pss_one (ps_ret (pe_call (ok_law_draw T) (hr.mono (by decide)) (by rfl) T.m_law_draw T.F_law_draw.kp T.b_law_draw .nil pass1 (pa_cons (pv 0) (pa_cons (pe_callB call_lenF (by rfl) T.z_len (by decide +kernel) (pa_cons (pv 4) pa_nil)) pa_nil))))) pss_nil)
      (pss_one (ps_ret (pe_call (ok_law_number T) (hr.mono (by decide)) (by rfl) T.m_law_number T.F_law_number.kp T.b_law_number .nil pass1 (pa_cons (pv 0) pa_nil)))))))), ?_⟩
    have top := hs.top
    simp! [top, List.length_map]
    have e1 : ∀ {x y : Nat}, ((⟨#[x]⟩ : Str) = ⟨#[y]⟩) → x = y := fun h => by injection h with h; simpa using h
    rw [show Str.ofString "p" = ⟨#[112]⟩ by decide, show Str.ofString "k" = ⟨#[107]⟩ by decide, show Str.ofString "t" = ⟨#[116]⟩ by decide, show Str.ofString "f" = ⟨#[102]⟩ by decide]
    refine ite2 (fun h => ?_) fun n1 => ite2 (fun h => ?_) fun n2 => ite2 (fun h => ?_) fun n3 => ite2 (fun h => ?_) fun n4 => ?_
    · exact ⟨b, c, cs, _, rfl, hb, by omega, by omega, fun r H1 r0 r1 hb1 k1 => q r H1 (fun ps => .inl ⟨e1 h, r, rfl, r0, r1⟩) hb1 k1⟩
    · exact ⟨b, c, cs, _, rfl, hb, by omega, by omega, fun r H1 r0 r1 hb1 k1 => q r H1 (fun ps => .inr (.inl ⟨e1 h, r, rfl, r0, r1⟩)) hb1 k1⟩
    · exact ⟨b, c, cs, _, rfl, hb, by omega, by omega, fun r H1 r0 r1 hb1 k1 => q r H1 (fun ps => .inr (.inr (.inl ⟨e1 h, r, rfl, r0, r1⟩))) hb1 k1⟩
    · have lp := hf (e1 h)
      have ll := hs.len
      exact ⟨b, c, cs, _, rfl, hb, by omega, by omega, fun r H1 r0 r1 hb1 k1 => q r H1 (fun ps => .inr (.inr (.inr (.inl ⟨e1 h, r, rfl, r0, by omega⟩)))) hb1 k1⟩
    · have hi : ch = 105 := by
        rcases hch with rfl | rfl | rfl | rfl | h
        · exact absurd rfl n1
        · exact absurd rfl n2
        · exact absurd rfl n3
        · exact absurd rfl n4
        · exact h
      exact ⟨b, c, cs, rfl, hb, fun r H1 r0 r1 hb1 k1 => q r H1 (fun ps => .inr (.inr (.inr (.inr (.inl ⟨hi, r, rfl, r0, r1⟩))))) hb1 k1⟩

end
section
variable {P : Program} {w : World} {K : PySem.W.Frag} {mg : Str → Option Value} {base : Heap} {a : Ad}

theorem LW_ok : ∀ p ∈ LW, p.2.cps.size ≤ 3 ∧ p.2.cps.all (· < 128) = true ∧ valV LET (.inr p.1) = some (.str p.2) := by
  intro p hp
  simp only [LW, List.mem_cons, List.not_mem_nil, or_false] at hp
  rcases hp with rfl | rfl | rfl | rfl | rfl | rfl | rfl | rfl | rfl | rfl | rfl | rfl | rfl | rfl | rfl | rfl | rfl | rfl | rfl | rfl | rfl
  all_goals exact ⟨by decide +kernel, by decide +kernel, by rfl⟩
theorem LW_letter : ∀ p ∈ LW, ∀ (i c : Nat), p.2.cps[i]? = some c → (c = 112 ∨ c = 107 ∨ c = 116 ∨ c = 102 ∨ c = 105) ∨ (c = 113 ∧ i = 2 ∧ p.2.cps[1]? = some 102) := by
  have key : (LW.all fun p => (List.range 3).all fun i => match p.2.cps[i]? with
    | none => true
    | some c => decide ((c = 112 ∨ c = 107 ∨ c = 116 ∨ c = 102 ∨ c = 105) ∨ (c = 113 ∧ i = 2 ∧ p.2.cps[1]? = some 102))) = true := by decide +kernel
  intro p hp i c hc
  have h3 := (LW_ok p hp).1
  have hi : i < 3 := by
    have := (Array.getElem?_eq_some_iff.mp hc).1
    omega
  have := List.all_eq_true.mp (List.all_eq_true.mp key p hp) i (List.mem_range.mpr hi)
  rw [hc] at this
  exact of_decide_eq_true this
theorem BagAt.has {H : Hp} {b c : Addr} {cs : List Int} (x : BagAt H b c cs) : ∃ o, H b = some o := by obtain ⟨⟨i, v, s, n, e, _⟩, _⟩ := x; exact ⟨_, e⟩
theorem BagAt.tup {H H' : Hp} {b c q : Addr} {cs : List Int} {xs : List V} (x : BagAt H b c cs) (k : Kp b H H') (h : H q = some (.tup xs)) : H' q = some (.tup xs) := by
  refine k q _ h (fun e => ?_)
  obtain ⟨⟨i, v, st, n, hb, _⟩, _⟩ := x
  rw [e, hb] at h
  cases h
theorem PartAt.kp {H H' : Hp} {b c : Addr} {cs : List Int} {v : V} {p : Part} (x : BagAt H b c cs) (k : Kp b H H') (h : PartAt H v p) : PartAt H' v p := by
  cases p with
  | inl y => exact h
  | inr l => obtain ⟨q, e, h⟩ := h; exact ⟨q, e, x.tup k h⟩
theorem PartsAt.kp {H H' : Hp} {b c : Addr} {cs : List Int} {vs : List V} {ps : List Part} (x : BagAt H b c cs) (k : Kp b H H') (h : PartsAt H vs ps) : PartsAt H' vs ps := ⟨h.len, fun i v p h1 h2 => (h.at_ i v p h1 h2).kp x k⟩
theorem RowAt.kp {H H' : Hp} {b c q : Addr} {cs : List Int} {r : Row} (x : BagAt H b c cs) (k : Kp b H H') (h : RowAt H q r) : RowAt H' q r := by
  obtain ⟨vs, e, h⟩ := h
  exact ⟨vs, x.tup k e, h.kp x k⟩
theorem SgAt.kp {H H' : Hp} {b c sl : Addr} {cs : List Int} {as : List Addr} {sg : List Sg} (x : BagAt H b c cs) (k : Kp b H H') (n : sl ≠ b) (h : SgAt H sl as sg) : SgAt H' sl as sg := ⟨k _ _ h.top n, h.len, fun i p y h1 h2 => x.tup k (h.row i p y h1 h2)⟩
theorem SgAt.at_ {H : Hp} {sl : Addr} {as : List Addr} {sg : List Sg} (x : SgAt H sl as sg) {f : Nat} {z : Sg} (h : sg[f]? = some z) : ∃ p, as[f]? = some p ∧ H p = some (.tup [.str z.1, .str z.2]) := by
  have hf := (List.getElem?_eq_some_iff.mp h).1
  have hf' : f < as.length := by rw [x.len]; exact hf
  exact ⟨as[f], List.getElem?_eq_getElem hf', x.row f _ z (List.getElem?_eq_getElem hf') h⟩
theorem PartFit.app {words many : Int} {sg : List Sg} {ps : List Part} {c : Nat} {p y : Part} (h : PartFit words many sg ps c p) : PartFit words many sg (ps ++ [y]) c p := by
  rcases h with h | h | h | h | h | ⟨e, f, l, z, h1, h2⟩
  · exact .inl h
  · exact .inr (.inl h)
  · exact .inr (.inr (.inl h))
  · exact .inr (.inr (.inr (.inl h)))
  · exact .inr (.inr (.inr (.inr (.inl h))))
  · refine .inr (.inr (.inr (.inr (.inr ⟨e, f, l, z, ?_, h2⟩))))
    rw [List.getElem?_append_left (List.getElem?_eq_some_iff.mp h1).1]
    exact h1
theorem PartsFit.snoc {words many : Int} {sg : List Sg} {ls : Str} {ps : List Part} {c : Nat} {p : Part} (h : PartsFit words many sg ls ps) (hc : ls.cps[ps.length]? = some c) (hp : PartFit words many sg (ps ++ [p]) c p) : PartsFit words many sg ls (ps ++ [p]) := ⟨fun i c' p' h1 h2 => by
  by_cases d : i < ps.length
  · rw [List.getElem?_append_left d] at h2
    exact (h.at_ i c' p' h1 h2).app
  · have e : i = ps.length := by
      have := (List.getElem?_eq_some_iff.mp h2).1
      rw [List.length_append, List.length_singleton] at this
      omega
    rw [e] at h1 h2
    rw [hc] at h1
    cases h1
    rw [List.getElem?_append_right (Nat.le_refl _), Nat.sub_self] at h2
    cases h2
    exact hp⟩
theorem PartsAt.snoc {H : Hp} {vs : List V} {ps : List Part} {v : V} {p : Part} (h : PartsAt H vs ps) (hp : PartAt H v p) : PartsAt H (vs ++ [v]) (ps ++ [p]) := ⟨by rw [List.length_append, List.length_append, h.len]; rfl, fun i v' p' h1 h2 => by
  by_cases d : i < ps.length
  · rw [List.getElem?_append_left d] at h2
    rw [List.getElem?_append_left (by rw [h.len]; exact d)] at h1
    exact h.at_ i v' p' h1 h2
  · have e : i = ps.length := by
      have := (List.getElem?_eq_some_iff.mp h2).1
      rw [List.length_append, List.length_singleton] at this
      omega
    rw [e] at h1 h2
    rw [List.getElem?_append_right (Nat.le_refl _), Nat.sub_self] at h2
    rw [← h.len, List.getElem?_append_right (Nat.le_refl _), Nat.sub_self] at h1
    cases h1
    cases h2
    exact hp⟩
def sp_row : Sp := fun vs H Q _ => ∃ (b c sl : Addr) (cs : List Int) (word ls : Str) (words many : Int) (as : List Addr) (sg : List Sg), vs = [.ref b, .str word, .int words, .int many, .ref sl] ∧ BagAt H b c cs ∧ SgAt H sl as sg ∧ sl ≠ b ∧
  (word, ls) ∈ LW ∧ 0 ≤ words ∧ words ≤ 16 ∧ 0 < many ∧ many ≤ 1000 ∧ (102 ∈ ls.cps.toList → 0 < sg.length) ∧ sg.length ≤ 1000 ∧ (∀ x ∈ sg, x.1.cps.size ≤ 6 ∧ x.1.cps.all (· < 128) = true) ∧
  ∀ (p : Addr) (ps : List Part) (H' : Hp), RowAt H' p (word, ps) → RowFit words many sg (word, ps) → BagAt H' b c cs → Kp b H H' → Q (.ref p) H'
set_option maxHeartbeats 1000000 in
theorem ok_law_row (T : Txt K mg a) : FnOk P w K mg base (CX1 P w) 4 a.f_law_row a.d_law_row ["bag", "word", "words", "many", "signs"] sp_row := by
  refine T.F_law_row.okC sc_law_row (fun vs H Q E h => ?_) (fun cdv A outer s H vs Q E hr h => ?_)
  · obtain ⟨b, c, sl, cs, word, ls, words, many, as, sg, rfl, _⟩ := h
    rfl
  · obtain ⟨b, c, sl, cs, word, ls, words, many, as, sg, rfl, hb, hs, nb, hw, w0, w1, m0, m1, hf, sl1, tk, q⟩ := h
    have hu := hu_of hr
    refine ⟨_, (pss_cons (ps_set (i := 5) sc_law_row.nd (by rfl) (Or.inl rfl) (pe_tup (pa_cons (pv 1) pa_nil)))
      (pss_cons (ps_for PassesOwn.never (by rfl) (pi_str (pe_dgetF hu (pe_call0 (ok_law_letters T) (hr.mono (by decide)) (by rfl) T.m_law_letters T.F_law_letters.kp T.b_law_letters .nil pass1) (pv 1) (fun _ _ => rfl))) (pg_name (i := 6) sc_law_row.nd (by rfl) (Or.inl rfl))
      (pss_one (ps_if (pt_cmpR op_eq (pv 6) pe_str (nomark _)) (pss_cons (ps_setc (i := 7) sc_law_row.nd (by rfl) (Or.inl rfl) (N' := ["one", "bag", "words"]) (cap := [none, some 0, some 2]) ⟨rfl, (by decide +kernel), (by decide +kernel), (by rfl), rfl, (by rfl)⟩ (by rfl) (pi_str (pe_ix ix_F (pe_ix ix_F (pv 4) (pe_ix ix_F (pv 5) pe_int (fun _ _ => rfl)) (fun _ _ => rfl)) pe_int (fun _ _ => rfl))) (fun C_ ex_ s_ H_ => (pg_name (i := 0) (show (["one", "bag", "words"] : List Str).Nodup by decide +kernel) (by rfl) (Or.inl rfl))) gkp_name (fun C_ ex_ s_ H_ => pifs_nil) (fun C_ ex_ s_ H_ => (pe_call (ok_law_draw T) (by exact hr.mono (by decide)) (by rfl) T.m_law_draw T.F_law_draw.kp T.b_law_draw .nil pass1 (pa_cons (pv 1) (pa_cons (pe_op op_add pe_int (pv 2)) pa_nil)))))
      (pss_one (ps_set (i := 5) sc_law_row.nd (by rfl) (Or.inl rfl) (pe_op op_catT (pv 5) (pe_tup (pa_cons (pe_callTy call_tuple_of (by rfl) T.z_tuple (by decide +kernel) (pa_cons (pv 7) pa_nil)) pa_nil)))))) (pss_one (ps_set (i := 5) sc_law_row.nd (by rfl) (Or.inl rfl) (pe_op op_catT (pv 5) (pe_tup (pa_cons (pe_call (ok_law_part T) (hr.mono (by decide)) (by rfl) T.m_law_part T.F_law_part.kp T.b_law_part .nil pass1 (pa_cons (pv 0) (pa_cons (pv 6) (pa_cons (pv 2) (pa_cons (pv 3) (pa_cons (pv 4) pa_nil)))))) pa_nil))))))))
      (pss_one (ps_ret (pv 5))))), ?_⟩
    obtain ⟨ls3, lsa, lsv⟩ := LW_ok _ hw
    have lsl := LW_letter _ hw
    simp! []
    intro r0 hr0
    refine forS_ (fun z H1 => z = ls ∧ Same (upd H r0 (.tup [.str word])) H1) (fun Q2 hQ => ?_) ?_
    · simp! []
      refine ⟨rfl, fun p H' S hp e => ?_⟩
      simp! [e, lsv]
      exact hQ _ _ ⟨rfl, S⟩
    rintro z H1 ⟨rfl, S1⟩
    have hb1 : BagAt H1 b c cs := (hb.laid hr0).keep S1
    have k1 : Kp b H H1 := fun q o h _ => S1 _ _ (upd_old h hr0)
    refine forS (H1 := H1) z (fun Q2 h2 => h2) lsa (fun i σ H2 => ∃ (rp : Addr) (ps : List Part) (v6 v7 : Option V), σ = [some (.ref b), some (.str word), some (.int words), some (.int many), some (.ref sl), some (.ref rp), v6, v7] ∧ ps.length = i ∧ RowAt H2 rp (word, ps) ∧ PartsFit words many sg z ps ∧ BagAt H2 b c cs ∧ Kp b H H2)
      ⟨r0, [], _, _, rfl, rfl, ⟨[], S1 _ _ upd_same, rfl, fun i v p h => by simp at h⟩, ⟨fun i c p _ h => by simp at h⟩, hb1, k1⟩ ?_ ?_
    · rintro i ch σ H2 hch ⟨rp, ps, v6, v7, rfl, li, R, F, hb2, k2⟩
      have hs2 := hs.kp hb k2 nb
      obtain ⟨vs, hrp, PA⟩ := R
      have vl := PA.len
      have i3 : i < 3 := by
        have := (Array.getElem?_eq_some_iff.mp hch).1
        have : z.cps.size ≤ 3 := ls3
        omega
      simp! []
      rw [show Str.ofString "q" = ⟨#[113]⟩ by decide]
      have e1 : ∀ {x y : Nat}, ((⟨#[x]⟩ : Str) = ⟨#[y]⟩) → x = y := fun h => by injection h with h; simpa using h
      refine ite2 (fun h => ?_) fun h => ?_
      · have eq := e1 h
        subst eq
        obtain ⟨_, rfl, h102⟩ : (113 : Nat) = 113 ∧ i = 2 ∧ z.cps[1]? = some 102 := by
          rcases lsl i 113 hch with hl | hl
          · omega
          · exact hl
        obtain ⟨f, hf1, f0, f1⟩ : ∃ f : Int, ps[1]? = some (.inl f) ∧ 0 ≤ f ∧ f < sg.length := by
          have h1 : 1 < ps.length := by omega
          have := F.at_ 1 102 ps[1] h102 (List.getElem?_eq_getElem h1)
          rcases this with ⟨e, _⟩ | ⟨e, _⟩ | ⟨e, _⟩ | ⟨_, x, e, x0, x1⟩ | ⟨e, _⟩ | ⟨e, _⟩
          · omega
          · omega
          · omega
          · exact ⟨x, by rw [List.getElem?_eq_getElem h1, e], x0, x1⟩
          · omega
          · omega
        obtain ⟨fN, rfl⟩ := Int.eq_ofNat_of_zero_le f0
        have hfN : fN < sg.length := by omega
        have hz := List.getElem?_eq_getElem hfN
        obtain ⟨tk1, tk2⟩ := tk _ (List.getElem_mem hfN)
        obtain ⟨sp', hsp, hspt⟩ := hs2.at_ hz
        revert hz hspt tk1 tk2
        generalize sg[fN] = zz
        intro hz tk1 tk2 hspt
        have hv1 : vs[1]? = some (.int fN) := by
          have h1 : 1 < vs.length := by rw [vl]; simp; omega
          have := PA.at_ 1 vs[1] _ (List.getElem?_eq_getElem h1) hf1
          rw [List.getElem?_eq_getElem h1, this]
        have a1 : atI (V.str word :: vs) 2 = some (.int fN) := atI_nat (j := 2) (by rw [List.getElem?_cons_succ]; exact hv1)
        have top2 := hs2.top
        have a2 : atI (as.map V.ref) ((fN : Nat) : Int) = some (.ref sp') := atI_nat (by rw [List.getElem?_map, hsp]; rfl)
        refine compS (H1 := H2) zz.1 (fun Q2 hQ => by simp! [hrp, a1, top2, a2, hspt]; exact hQ) tk2 (fun D i ys H3 => ∃ l : List Int, l.length = i ∧ ys = l.map V.int ∧ (∀ x ∈ l, 0 ≤ x ∧ x < 8 + words) ∧ H3 D = some (.lst ys) ∧ BagAt H3 b c cs ∧ Kp b H2 H3)
          (fun D hD => ⟨[], rfl, rfl, by simp, upd_same, hb2.laid hD, Kp.refl.laid hD⟩) ?_ (by rw [sizeLine_eq]; omega) ?_ ?_
        · rintro D hD i ys H3 hi ⟨l, l1, rfl, l2, hd, hb3, k3⟩
          exact ⟨hd, by rw [List.length_map]; omega⟩
        · rintro D hD i ch ys H3 hi ⟨l, l1, rfl, l2, hd, hb3, k3⟩
          simp! [capSt, tTrue]
          refine ⟨b, c, cs, _, rfl, hb3, by omega, by omega, fun x H4 x0 x1 hb4 k4 => ?_⟩
          have nD : D ≠ b := fun e => by
            obtain ⟨o, h⟩ := hb2.has
            rw [← e, hD] at h; cases h
          have nc : D ≠ c := fun e => by
            have h := hb2.at_
            rw [← e, hD] at h; cases h
          have hd4 := k4 _ _ hd nD
          refine ⟨hd4, l ++ [x], by rw [List.length_append, l1]; rfl, by simp, fun y hy => ?_, hb4.other nD nc, fun q o h n => ?_⟩
          · rcases List.mem_append.mp hy with h | h
            · exact l2 y h
            · rw [List.mem_singleton.mp h]; exact ⟨x0, x1⟩
          · rw [upd_ne (ne_of_none h hD)]
            exact k4 _ _ (k3 _ _ h n) n
        · rintro D hD ys H3 ⟨l, l1, rfl, l2, hd, hb3, k3⟩
          refine ⟨D, rfl, _, .inl ⟨.of hd, fun tq htq p1 hp1 => ?_⟩⟩
          have hrp3 := hb2.tup k3 hrp
          refine ⟨rp, p1, _, _, rfl, rfl, .of (upd_old (upd_old hrp3 htq) hp1), .of upd_same, by simp, ?_, (fun e => by cases e), fun _ p2 hp2 => ?_⟩
          · rw [sizeLine_eq]; simp; simp at vl; omega
          · have K4 := ((k3.laid (u := .tup (l.map V.int)) htq).laid (u := .tup [.ref tq]) hp1).laid (u := .tup (.str word :: vs ++ [.ref tq])) hp2
            have S4 := ((Same.laid (u := .tup (l.map V.int)) htq).step (u := .tup [.ref tq]) hp1).step (u := .tup (.str word :: vs ++ [.ref tq])) hp2
            refine ⟨p2, rfl, ps ++ [.inr l], by rw [List.length_append, li]; rfl, ⟨vs ++ [.ref tq], upd_same, (PA.kp hb2 K4).snoc (v := .ref tq) (p := .inr l) ⟨tq, rfl, upd_old (upd_old upd_same hp1) hp2⟩⟩, F.snoc (by rw [li]; exact hch) ?_, hb3.keep S4, k2.trans K4⟩
            refine .inr (.inr (.inr (.inr (.inr ⟨rfl, fN, l, zz, ?_, hz, rfl, l1, l2⟩))))
            rw [List.getElem?_append_left (by omega)]
            exact hf1
      · have nq : ch ≠ 113 := fun e => h (by rw [e])
        rcases lsl i ch hch with hl | ⟨hl, _⟩
        · refine ⟨b, c, sl, cs, ch, words, many, as, sg, rfl, hb2, hs2, nb, hl, w0, w1, m0, m1, fun e => hf (by rw [← e]; exact Array.mem_toList_iff.mpr (Array.mem_of_getElem? hch)), sl1, fun x H3 fit hb3 k3 => ?_⟩
          simp! []
          intro p1 hp1
          have hrp3 := hb2.tup k3 hrp
          have P3 := PA.kp hb2 k3
          refine ⟨rp, p1, _, _, rfl, rfl, .of (upd_old hrp3 hp1), .of upd_same, by simp, ?_, (fun e => by cases e), fun _ p2 hp2 => ?_⟩
          · rw [sizeLine_eq]; simp; simp at vl; omega
          · have S4 : Same H3 (upd (upd H3 p1 (.tup [.int x])) p2 (.tup (.str word :: vs ++ [.int x]))) := (Same.laid hp1).step hp2
            have K4 : Kp b H2 (upd (upd H3 p1 (.tup [.int x])) p2 (.tup (.str word :: vs ++ [.int x]))) := (k3.laid hp1).laid hp2
            refine ⟨p2, rfl, ps ++ [.inl x], by rw [List.length_append, li]; rfl, ⟨vs ++ [.int x], upd_same, (PA.kp hb2 K4).snoc (v := .int x) (p := .inl x) rfl⟩, F.snoc (by rw [li]; exact hch) (fit _), hb3.keep S4, k2.trans K4⟩
        · exact absurd hl nq
    · rintro σ H2 ⟨rp, ps, v6, v7, rfl, li, R, F, hb2, k2⟩
      simp! []
      exact q rp ps H2 R ⟨z, hw, li, F⟩ hb2 k2

end
section
variable {P : Program} {w : World} {K : PySem.W.Frag} {mg : Str → Option Value} {base : Heap} {a : Ad}

structure RowsOf (H : Hp) (rl : Addr) (rs : List Addr) (rws : List Row) : Prop where
  top : H rl = some (.lst (rs.map V.ref))
  len : rs.length = rws.length
  row : ∀ (i : Nat) (p : Addr) (r : Row), rs[i]? = some p → rws[i]? = some r → RowAt H p r
theorem RowsOf.kp {H H' : Hp} {b c rl : Addr} {cs : List Int} {rs : List Addr} {rws : List Row} (x : BagAt H b c cs) (k : Kp b H H') (n : rl ≠ b) (h : RowsOf H rl rs rws) : RowsOf H' rl rs rws := ⟨k _ _ h.top n, h.len, fun i p y h1 h2 => (h.row i p y h1 h2).kp x k⟩
theorem RowAt.fr {H H' : Hp} {M : Addr → Prop} {q : Addr} {r : Row} (f : Fr M H H') (h : RowAt H q r) : RowAt H' q r := by
  obtain ⟨vs, e, hl, h⟩ := h
  refine ⟨vs, f.tups _ _ e, hl, fun i v p h1 h2 => ?_⟩
  have := h i v p h1 h2
  cases p with
  | inl y => exact this
  | inr l => obtain ⟨t, e, h⟩ := this; exact ⟨t, e, f.tups _ _ h⟩
theorem RowsOf.snoc {H H' : Hp} {M : Addr → Prop} {rl p : Addr} {rs : List Addr} {rws : List Row} {r : Row} (f : Fr M H H') (h : ∀ (i : Nat) (p : Addr) (r : Row), rs[i]? = some p → rws[i]? = some r → RowAt H p r) (len : rs.length = rws.length) (top : H' rl = some (.lst (rs.map V.ref ++ [.ref p]))) (hr : RowAt H' p r) : RowsOf H' rl (rs ++ [p]) (rws ++ [r]) := ⟨by rw [top, List.map_append]; rfl, by rw [List.length_append, List.length_append, len]; rfl, fun i q y h1 h2 => by
  by_cases d : i < rws.length
  · rw [List.getElem?_append_left d] at h2
    rw [List.getElem?_append_left (by rw [len]; exact d)] at h1
    exact (h i q y h1 h2).fr f
  · have e : i = rws.length := by
      have := (List.getElem?_eq_some_iff.mp h2).1
      rw [List.length_append, List.length_singleton] at this
      omega
    rw [e] at h1 h2
    rw [List.getElem?_append_right (Nat.le_refl _), Nat.sub_self] at h2
    rw [← len, List.getElem?_append_right (Nat.le_refl _), Nat.sub_self] at h1
    cases h1
    cases h2
    exact hr⟩
def LastOk (rws : List Row) : Prop := ∃ r, rws.getLast? = some r ∧ (r.1 = "back" ∨ r.1 = "jump")
def sp_rows : Sp := fun vs H Q _ => ∃ (b c sl : Addr) (cs : List Int) (words : Int) (many : Nat) (as : List Addr) (sg : List Sg), vs = [.ref b, .int words, .int many, .ref sl] ∧ BagAt H b c cs ∧ SgAt H sl as sg ∧ sl ≠ b ∧
  0 ≤ words ∧ words ≤ 16 ∧ 0 < many ∧ many ≤ 1000 ∧ 0 < sg.length ∧ sg.length ≤ 1000 ∧ (∀ x ∈ sg, x.1.cps.size ≤ 6 ∧ x.1.cps.all (· < 128) = true) ∧
  ∀ (rl : Addr) (rs : List Addr) (rws : List Row) (H' : Hp), RowsOf H' rl rs rws → rws.length = many → (∀ r ∈ rws, RowFit words many sg r) → LastOk rws → H rl = none → BagAt H' b c cs → Kp b H H' → Q (.ref rl) H'
theorem LET_keys : (LET.map fun p => kV p.1) = LW.map fun p => V.str p.1 := by
  rw [LET, List.map_map]
  rfl
set_option maxHeartbeats 1000000 in
theorem ok_law_rows (T : Txt K mg a) : FnOk P w K mg base (CX1 P w) 5 a.f_law_rows a.d_law_rows ["bag", "words", "many", "signs"] sp_rows := by
  refine T.F_law_rows.okC sc_law_rows (fun vs H Q E h => ?_) (fun cdv A outer s H vs Q E hr h => ?_)
  · obtain ⟨b, c, sl, cs, words, many, as, sg, rfl, _⟩ := h
    rfl
  · obtain ⟨b, c, sl, cs, words, many, as, sg, rfl, hb, hs, nb, w0, w1, m0, m1, g0, g1, tk, q⟩ := h
    have hu := hu_of hr
    refine ⟨_, (pss_cons (ps_set (i := 4) sc_law_rows.nd (by rfl) (Or.inl rfl) (pe_lst pa_nil))
      (pss_cons (ps_for PassesOwn.never (by rfl) (pi_range1 (by rfl) T.z_range (pa_cons (pe_op op_sub (pv 2) pe_int) pa_nil)) (pg_name (i := 5) sc_law_rows.nd (by rfl) (Or.inl rfl))
      (pss_cons (ps_set (i := 6) sc_law_rows.nd (by rfl) (Or.inl rfl) (pe_ix ix_F (pe_callTy (call_list_dict (by rfl)) (by rfl) T.z_list (by decide +kernel) (pa_cons (pe_call0 (ok_law_letters T) (hr.mono (by decide)) (by rfl) T.m_law_letters T.F_law_letters.kp T.b_law_letters .nil pass1) pa_nil)) (pe_call (ok_law_draw T) (hr.mono (by decide)) (by rfl) T.m_law_draw T.F_law_draw.kp T.b_law_draw .nil pass1 (pa_cons (pv 0) (pa_cons pe_int pa_nil))) (fun _ _ => rfl)))
      (pss_one (ps_expr (pe_bm PySem.F.plainAttrs_list PySem.F.slot_list_append PySem.F.type_list_append mt_append (pv 4) (pa_cons (pe_call (ok_law_row T) (hr.mono (by decide)) (by rfl) T.m_law_row T.F_law_row.kp T.b_law_row .nil pass1 (pa_cons (pv 0) (pa_cons (pv 6) (pa_cons (pv 1) (pa_cons (pv 2) (pa_cons (pv 3) pa_nil)))))) pa_nil))))))
      (pss_cons (ps_expr (pe_bm PySem.F.plainAttrs_list PySem.F.slot_list_append PySem.F.type_list_append mt_append (pv 4) (pa_cons (pe_call (ok_law_row T) (hr.mono (by decide)) (by rfl) T.m_law_row T.F_law_row.kp T.b_law_row .nil pass1 (pa_cons (pv 0) (pa_cons (pe_ix ix_F (pe_lst (pa_cons pe_str (pa_cons pe_str pa_nil))) (pe_call (ok_law_draw T) (hr.mono (by decide)) (by rfl) T.m_law_draw T.F_law_draw.kp T.b_law_draw .nil pass1 (pa_cons (pv 0) (pa_cons pe_int pa_nil))) (fun _ _ => rfl)) (pa_cons (pv 1) (pa_cons (pv 2) (pa_cons (pv 3) pa_nil)))))) pa_nil)))
      (pss_one (ps_ret (pv 4)))))), ?_⟩
    simp! []
    intro rl hrl
    have nrl : rl ≠ b := fun e => by
      obtain ⟨o, h⟩ := hb.has
      rw [← e, hrl] at h; cases h
    have nrc : rl ≠ c := fun e => by
      have h := hb.at_
      rw [← e, hrl] at h; cases h
    have step : ∀ {H2 H3 H4 : Hp} {rs : List Addr} {rws : List Row} {p : Addr} {r : Row}, RowsOf H2 rl rs rws → BagAt H2 b c cs → Kp b H H2 → Kp b H2 H3 → BagAt H3 b c cs → RowAt H3 p r → H3 rl = some (.lst (rs.map V.ref)) ∧ RowsOf (upd H3 rl (.lst (rs.map V.ref ++ [.ref p]))) rl (rs ++ [p]) (rws ++ [r]) ∧ BagAt (upd H3 rl (.lst (rs.map V.ref ++ [.ref p]))) b c cs ∧ Kp b H (upd H3 rl (.lst (rs.map V.ref ++ [.ref p]))) := by
      intro H2 H3 H4 rs rws p r R hb2 k2 k3 hb3 hr
      have R3 := R.kp hb2 k3 nrl
      have F : Fr (· = rl) H3 (upd H3 rl (.lst (rs.map V.ref ++ [.ref p]))) := .put rfl (notTup_lst R3.top)
      refine ⟨R3.top, RowsOf.snoc F R3.row R3.len upd_same (hr.fr F), hb3.other nrl nrc, fun q o h n => ?_⟩
      rw [upd_ne (ne_of_none h hrl)]
      exact k3 _ _ (k2 _ _ h n) n
    refine for1 (H1 := upd H rl (.lst [])) ((many : Int) - 1) (fun Q2 h2 => by simp! []; exact h2) (by omega) (by omega) (fun i σ H2 => ∃ (rs : List Addr) (rws : List Row) (v5 v6 : Option V), σ = [some (.ref b), some (.int words), some (.int many), some (.ref sl), some (.ref rl), v5, v6] ∧ RowsOf H2 rl rs rws ∧ rws.length = i ∧ (∀ r ∈ rws, RowFit words many sg r) ∧ BagAt H2 b c cs ∧ Kp b H H2)
      ⟨[], [], _, _, rfl, ⟨upd_same, rfl, fun i p r h => by simp at h⟩, rfl, by simp, hb.laid hrl, Kp.refl.laid hrl⟩ ?_ ?_
    · rintro i σ H2 hi ⟨rs, rws, v5, v6, rfl, R, lr, rf, hb2, k2⟩
      simp! []
      refine ⟨rfl, fun p H3 S3 np e3 => ?_⟩
      simp! [e3]
      intro l hl
      rw [LET_keys]
      have nl : l ≠ b := fun e => by
        obtain ⟨o, h⟩ := (hb2.keep S3).has
        rw [← e, hl] at h; cases h
      refine ⟨b, c, cs, 21, rfl, (hb2.keep S3).laid hl, by decide, by decide, fun x H4 x0 x1 hb4 k4 => ?_⟩
      have k24 : Kp b H2 H4 := (Kp.laid (fun q o h _ => S3 q o h) hl).trans k4
      have hl4 := k4 _ _ upd_same nl
      obtain ⟨xN, rfl⟩ := Int.eq_ofNat_of_zero_le x0
      have hx : xN < LW.length := by
        have : LW.length = 21 := by decide +kernel
        omega
      have hwm := List.getElem_mem hx
      have a1 : atI (LW.map fun p => V.str p.1) ((xN : Nat) : Int) = some (.str LW[xN].1) := atI_nat (by rw [List.getElem?_map, List.getElem?_eq_getElem hx]; rfl)
      revert hwm a1
      generalize LW[xN] = wd
      intro hwm a1
      simp! [hl4, a1, tBM]
      have R4 := R.kp hb2 k24 nrl
      refine ⟨.inl ⟨rfl, _, .of R4.top⟩, b, c, sl, cs, wd.1, wd.2, words, many, as, sg, rfl, hb4, hs.kp hb (k2.trans k24) nb, nb, hwm, w0, w1, by omega, by omega, fun _ => g0, g1, tk, fun p ps H5 RA RF hb5 k5 => ?_⟩
      obtain ⟨t5, R5, hb5', k5'⟩ := step (H4 := H5) R4 hb4 (k2.trans k24) k5 hb5 RA
      refine ⟨rl, _, _, rfl, rfl, t5, ?_, rs ++ [p], rws ++ [(wd.1, ps)], R5, by rw [List.length_append, lr]; rfl, fun r hr => ?_, hb5', k5'⟩
      · rw [sizeLine_eq, List.length_map, R.len]; omega
      · rcases List.mem_append.mp hr with h | h
        · exact rf r h
        · rw [List.mem_singleton.mp h]; exact RF
    · rintro σ H2 ⟨rs, rws, v5, v6, rfl, R, lr, rf, hb2, k2⟩
      simp! [tBM]
      refine ⟨.inl ⟨rfl, _, .of R.top⟩, fun l hl => ?_⟩
      have nl : l ≠ b := fun e => by
        obtain ⟨o, h⟩ := hb2.has
        rw [← e, hl] at h; cases h
      refine ⟨b, c, cs, 2, rfl, hb2.laid hl, by decide, by decide, fun x H4 x0 x1 hb4 k4 => ?_⟩
      have k24 : Kp b H2 H4 := (Kp.refl.laid hl).trans k4
      have hl4 := k4 _ _ upd_same nl
      obtain ⟨xN, rfl⟩ := Int.eq_ofNat_of_zero_le x0
      have R4 := R.kp hb2 k24 nrl
      obtain ⟨wd, a1, wm, wo⟩ : ∃ wd : Str × Str, atI [V.str "back", V.str "jump"] ((xN : Nat) : Int) = some (.str wd.1) ∧ wd ∈ LW ∧ (wd.1 = "back" ∨ wd.1 = "jump") := by
        match xN, x1 with
        | 0, _ => exact ⟨("back", "p"), atI_0, by decide +kernel, .inl rfl⟩
        | 1, _ => exact ⟨("jump", "t"), atI_1, by decide +kernel, .inr rfl⟩
        | n + 2, h => omega
      simp! [hl4, a1]
      refine ⟨b, c, sl, cs, wd.1, wd.2, words, many, as, sg, rfl, hb4, hs.kp hb (k2.trans k24) nb, nb, wm, w0, w1, by omega, by omega, fun _ => g0, g1, tk, fun p ps H5 RA RF hb5 k5 => ?_⟩
      obtain ⟨t5, R5, hb5', k5'⟩ := step (H4 := H5) R4 hb4 (k2.trans k24) k5 hb5 RA
      refine ⟨rl, _, _, rfl, rfl, t5, ?_, ?_⟩
      · rw [sizeLine_eq, List.length_map, R.len]; omega
      · simp! []
        refine q rl _ (rws ++ [(wd.1, ps)]) _ R5 (by rw [List.length_append, lr, List.length_singleton]; omega) (fun r hr => ?_) ⟨_, by rw [List.getLast?_append]; rfl, wo⟩ hrl hb5' k5'
        rcases List.mem_append.mp hr with h | h
        · exact rf r h
        · rw [List.mem_singleton.mp h]; exact RF

end
section
variable {P : Program} {w : World} {K : PySem.W.Frag} {mg : Str → Option Value} {base : Heap} {a : Ad}

theorem glue_ones (l : List Nat) : PySem.Txt.join "" (l.map fun c => (⟨#[c]⟩ : Str)) = ⟨l.toArray⟩ := by
  have key : ∀ (r : List Nat) (acc : Array Nat), (r.map fun c => (⟨#[c]⟩ : Str)).foldl (fun acc p => acc ++ (Str.ofString "").cps ++ p.cps) acc = acc ++ r.toArray := by
    intro r
    induction r with
    | nil => intro acc; simp
    | cons c r ih =>
      intro acc
      rw [List.map_cons, List.foldl_cons, ih]
      rw [show (Str.ofString "").cps = #[] by decide]
      simp
  cases l with
  | nil => rfl
  | cons c r =>
    show (⟨(r.map fun c => (⟨#[c]⟩ : Str)).foldl (fun acc p => acc ++ (Str.ofString "").cps ++ p.cps) #[c]⟩ : Str) = _
    rw [key]
    simp
def NH (c : Nat) : Prop := c = 110 ∨ c = 104
structure SgFit (sg : List Sg) : Prop where
  sz : ∀ x ∈ sg, x.1.cps.size ≤ 6
  let_ : ∀ x ∈ sg, ∀ c ∈ x.1.cps.toList, NH c
  gives : ∀ x ∈ sg, x.2 = ⟨#[110]⟩ ∨ x.2 = ⟨#[104]⟩
  first : ∀ x : Sg, sg[0]? = some x → (∀ c ∈ x.1.cps.toList, c = 110) ∧ x.2 = ⟨#[110]⟩
theorem SgFit.asc {sg : List Sg} (x : SgFit sg) : ∀ y ∈ sg, y.1.cps.size ≤ 6 ∧ y.1.cps.all (· < 128) = true := fun y hy => ⟨x.sz y hy, by
  rw [← Array.all_toList, List.all_eq_true]
  intro c hc
  rcases x.let_ y hy c hc with h | h <;> rw [h] <;> decide⟩
def sp_signs : Sp := fun vs H Q _ => ∃ (b c : Addr) (cs : List Int) (many : Nat), vs = [.ref b, .int many] ∧ BagAt H b c cs ∧ 0 < many ∧ many ≤ 1000 ∧
  ∀ (sl : Addr) (as : List Addr) (sg : List Sg) (H' : Hp), SgAt H' sl as sg → sg.length = many → SgFit sg → H sl = none → BagAt H' b c cs → Kp b H H' → Q (.ref sl) H'
theorem six_n : ∀ k : Nat, k < 7 → (PySem.Txt.slice (Str.ofString "nnnnnn") none (some (k : Int))).cps.size ≤ 6 ∧ ∀ c ∈ (PySem.Txt.slice (Str.ofString "nnnnnn") none (some (k : Int))).cps.toList, c = 110 := by decide +kernel
set_option maxHeartbeats 1000000 in
theorem ok_law_signs (T : Txt K mg a) : FnOk P w K mg base (CX1 P w) 2 a.f_law_signs a.d_law_signs ["bag", "many"] sp_signs := by
  refine T.F_law_signs.okC sc_law_signs (fun vs H Q E h => ?_) (fun cdv A outer s H vs Q E hr h => ?_)
  · obtain ⟨b, c, cs, many, rfl, _⟩ := h
    rfl
  · obtain ⟨b, c, cs, many, rfl, hb, m0, m1, q⟩ := h
    have hu := hu_of hr
    refine ⟨_, (pss_cons (ps_set (i := 2) sc_law_signs.nd (by rfl) (Or.inl rfl) (pe_lst (pa_cons (pe_tup (pa_cons (pe_slice sl_str pe_str po_none (po_some (pe_call (ok_law_draw T) (hr.mono (by decide)) (by rfl) T.m_law_draw T.F_law_draw.kp T.b_law_draw .nil pass1 (pa_cons (pv 0) (pa_cons pe_int pa_nil))))) (pa_cons pe_str pa_nil))) pa_nil)))
      (pss_cons (ps_for PassesOwn.never (by rfl) (pi_range1 (by rfl) T.z_range (pa_cons (pe_op op_sub (pv 1) pe_int) pa_nil)) (pg_name (i := 3) sc_law_signs.nd (by rfl) (Or.inl rfl))
      (pss_cons (ps_set (i := 4) sc_law_signs.nd (by rfl) (Or.inl rfl) (pe_bm PySem.F.plainAttrs_str PySem.F.slot_str_join PySem.F.type_str_join mt_join pe_str (pa_cons (pe_comp (N' := ["j", "bag"]) (cap := [none, some 0]) ⟨rfl, (by decide +kernel), (by decide +kernel), (by rfl), rfl, (by rfl)⟩ (by rfl) (pi_range1 (by rfl) T.z_range (pa_cons (pe_call (ok_law_draw T) (hr.mono (by decide)) (by rfl) T.m_law_draw T.F_law_draw.kp T.b_law_draw .nil pass1 (pa_cons (pv 0) (pa_cons pe_int pa_nil))) pa_nil)) (fun C_ ex_ s_ H_ => (pg_name (i := 0) (show (["j", "bag"] : List Str).Nodup by decide +kernel) (by rfl) (Or.inl rfl))) gkp_name (fun C_ ex_ s_ H_ => pifs_nil) (fun C_ ex_ s_ H_ => (pe_ix ix_str pe_str (pe_call (ok_law_draw T) (by exact hr.mono (by decide)) (by rfl) T.m_law_draw T.F_law_draw.kp T.b_law_draw .nil pass1 (pa_cons (pv 1) (pa_cons pe_int pa_nil))) (fun _ _ => rfl)))) pa_nil)))
      (pss_one (ps_expr (pe_bm PySem.F.plainAttrs_list PySem.F.slot_list_append PySem.F.type_list_append mt_append (pv 2) (pa_cons (pe_tup (pa_cons (pv 4) (pa_cons (pe_ix ix_str pe_str (pe_call (ok_law_draw T) (hr.mono (by decide)) (by rfl) T.m_law_draw T.F_law_draw.kp T.b_law_draw .nil pass1 (pa_cons (pv 0) (pa_cons pe_int pa_nil))) (fun _ _ => rfl)) pa_nil))) pa_nil))))))
      (pss_one (ps_ret (pv 2))))), ?_⟩
    simp! [tSl, tNoPart, tPart, rSlS]
    have nh : Str.ofString "nh" = ⟨#[110, 104]⟩ := by decide
    have pick : ∀ x : Nat, (x : Int) < 2 → ∃ c, atI (Str.ofString "nh").cps.toList (x : Int) = some c ∧ NH c := fun x hx => by
      rw [nh]
      match x, hx with
      | 0, _ => exact ⟨110, atI_0, .inl rfl⟩
      | 1, _ => exact ⟨104, atI_1, .inr rfl⟩
      | n + 2, h => omega
    refine ⟨b, c, cs, 7, rfl, hb, by decide, by decide, fun d H1 d0 d1 hb1 k1 => ⟨d, rfl, by decide, ?_⟩⟩
    obtain ⟨dN, rfl⟩ := Int.eq_ofNat_of_zero_le d0
    obtain ⟨z1, z2⟩ := six_n dN (by omega)
    revert z1 z2
    generalize PySem.Txt.slice (Str.ofString "nnnnnn") none (some (dN : Int)) = t0
    intro z1 z2
    intro p0 hp0 sl hsl
    have n1 : H sl = none := by
      cases e : H sl with
      | none => rfl
      | some o =>
        by_cases eb : sl = b
        · obtain ⟨o', h'⟩ := hb1.has
          have := upd_old (u := .tup [V.str t0, V.str (Str.ofString "n")]) h' hp0
          rw [← eb, hsl] at this; cases this
        · have := upd_old (u := .tup [V.str t0, V.str (Str.ofString "n")]) (k1 _ _ e eb) hp0
          rw [hsl] at this; cases this
    have nb : sl ≠ b := fun e => by
      obtain ⟨o, h⟩ := hb.has
      rw [← e, n1] at h; cases h
    have nc : sl ≠ c := fun e => by
      have h := hb.at_
      rw [← e, n1] at h; cases h
    have en : Str.ofString "n" = ⟨#[110]⟩ := by decide
    rw [en] at hsl ⊢
    refine for1 ((many : Int) - 1) (fun Q2 h2 => by simp! []; exact h2) (by omega) (by omega) (fun i σ H2 => ∃ (as : List Addr) (sg : List Sg) (v3 v4 : Option V), σ = [some (.ref b), some (.int many), some (.ref sl), v3, v4] ∧ SgAt H2 sl as sg ∧ sg.length = i + 1 ∧ SgFit sg ∧ BagAt H2 b c cs ∧ Kp b H H2)
      ⟨[p0], [(t0, ⟨#[110]⟩)], _, _, rfl, ⟨upd_same, rfl, fun i p x h1 h2 => ?_⟩, rfl, ⟨?_, ?_, ?_, ?_⟩, (hb1.laid hp0).laid hsl, (k1.laid hp0).laid hsl⟩ ?_ ?_
    · match i, h1, h2 with
      | 0, h1, h2 =>
        cases h1; cases h2
        exact upd_old upd_same hsl
      | i + 1, h1, h2 => simp at h1
    · intro x hx
      rw [List.mem_singleton.mp hx]; exact z1
    · intro x hx y hy
      rw [List.mem_singleton.mp hx] at hy; exact .inl (z2 y hy)
    · intro x hx
      rw [List.mem_singleton.mp hx]; exact .inl rfl
    · intro x hx
      cases hx
      exact ⟨z2, rfl⟩
    · rintro i σ H2 hi ⟨as, sg, v3, v4, rfl, S, ls, sf, hb2, k2⟩
      simp! [tBM]
      refine ⟨rfl, ?_⟩
      refine comp1_ (fun n H3 => 0 ≤ n ∧ n < 7 ∧ BagAt H3 b c cs ∧ Kp b H2 H3) (fun Q2 hQ => ?_) ?_
      · simp! []
        exact ⟨b, c, cs, 7, rfl, hb2, by decide, by decide, fun r H3 r0 r1 B3 k3 => hQ _ _ ⟨r0, r1, B3, k3⟩⟩
      rintro n H3 ⟨n0, n7, hb3, k3⟩
      refine comp1 (H1 := H3) n (fun Q2 h2 => h2) (by omega) (by omega) (fun D i ys H4 => ∃ l : List Nat, l.length = i ∧ ys = (l.map fun c => (⟨#[c]⟩ : Str)).map V.str ∧ (∀ x ∈ l, NH x) ∧ H4 D = some (.lst ys) ∧ BagAt H4 b c cs ∧ Kp b H3 H4)
        (fun D hD => ⟨[], rfl, rfl, by simp, upd_same, hb3.laid hD, Kp.refl.laid hD⟩) ?_ (by rw [sizeLine_eq]; omega) ?_ ?_
      · rintro D hD i ys H4 hi ⟨l, l1, rfl, l2, hd, hb4, k4⟩
        exact ⟨hd, by rw [List.length_map, List.length_map]; omega⟩
      · rintro D hD i ys H4 hi ⟨l, l1, rfl, l2, hd, hb4, k4⟩
        simp! [capSt, tTrue]
        refine ⟨b, c, cs, _, rfl, hb4, by omega, by omega, fun x H5 x0 x1 hb5 k5 => ?_⟩
        have nD : D ≠ b := fun e => by
          obtain ⟨o, h⟩ := hb3.has
          rw [← e, hD] at h; cases h
        have nDc : D ≠ c := fun e => by
          have h := hb3.at_
          rw [← e, hD] at h; cases h
        have hd5 := k5 _ _ hd nD
        obtain ⟨xN, rfl⟩ := Int.eq_ofNat_of_zero_le x0
        obtain ⟨ch, hc1, hc2⟩ := pick xN x1
        refine ⟨_, _, ch, rfl, rfl, by decide, hc1, hd5, l ++ [ch], by rw [List.length_append, l1]; rfl, by simp, fun y hy => ?_, hb5.other nD nDc, fun q o h n => ?_⟩
        · rcases List.mem_append.mp hy with h | h
          · exact l2 y h
          · rw [List.mem_singleton.mp h]; exact hc2
        · rw [upd_ne (ne_of_none h hD)]
          exact k5 _ _ (k4 _ _ h n) n
      · rintro D hD ys H4 ⟨l, l1, rfl, l2, hd, hb4, k4⟩
        refine ⟨_, D, _, rfl, rfl, hd, ?_, ?_⟩
        · rw [show (Str.ofString "").length = 0 by decide, Nat.mul_zero, List.map_map]
          have e1 : (l.map ((fun x : Str => x.length) ∘ fun c => (⟨#[c]⟩ : Str))) = l.map fun _ => 1 := rfl
          have e2 : (l.map fun _ => 1).sum = l.length := by
            clear l1 l2 hd e1
            induction l with
            | nil => rfl
            | cons x r ih => rw [List.map_cons, List.sum_cons, ih, List.length_cons]; omega
          rw [e1, e2]
          omega
        · rw [glue_ones]
          have k24 := k3.trans k4
          have S4 := S.kp hb2 k24 nb
          have top4 := S4.top
          simp! []
          refine ⟨.inl ⟨rfl, _, .of top4⟩, b, c, cs, 2, rfl, hb4, by decide, by decide, fun x H5 x0 x1 hb5 k5 => ?_⟩
          obtain ⟨xN, rfl⟩ := Int.eq_ofNat_of_zero_le x0
          obtain ⟨ch, hc1, hc2⟩ := pick xN x1
          refine ⟨_, _, ch, rfl, rfl, by decide, hc1, fun p hp => ?_⟩
          have k45 := k24.trans k5
          have S5 := S4.kp hb4 k5 nb
          have top5 := upd_old (u := .tup [V.str ⟨l.toArray⟩, V.str ⟨#[ch]⟩]) S5.top hp
          have F : Fr (· = sl) (upd H5 p (.tup [V.str ⟨l.toArray⟩, V.str ⟨#[ch]⟩])) (upd (upd H5 p (.tup [V.str ⟨l.toArray⟩, V.str ⟨#[ch]⟩])) sl (.lst (as.map V.ref ++ [.ref p]))) := .put rfl (notTup_lst top5)
          have F2 := (Fr.laid (M := (· = sl)) (u := .tup [V.str ⟨l.toArray⟩, V.str ⟨#[ch]⟩]) hp).trans F
          refine ⟨sl, _, _, rfl, rfl, top5, by rw [sizeLine_eq, List.length_map, S.len]; omega, as ++ [p], sg ++ [(⟨l.toArray⟩, ⟨#[ch]⟩)], ⟨?_, ?_, ?_⟩, by rw [List.length_append, ls]; rfl, ⟨?_, ?_, ?_, ?_⟩, (hb5.laid hp).other nb nc, fun q o h n => ?_⟩
          · rw [upd_same, List.map_append]; rfl
          · rw [List.length_append, List.length_append, S.len]; rfl
          · intro j pj xj h1 h2
            by_cases d : j < sg.length
            · rw [List.getElem?_append_left d] at h2
              rw [List.getElem?_append_left (by rw [S.len]; exact d)] at h1
              exact F2.tups _ _ (S5.row j pj xj h1 h2)
            · have e : j = sg.length := by
                have := (List.getElem?_eq_some_iff.mp h2).1
                rw [List.length_append, List.length_singleton] at this
                omega
              rw [e] at h1 h2
              rw [List.getElem?_append_right (Nat.le_refl _), Nat.sub_self] at h2
              rw [← S.len, List.getElem?_append_right (Nat.le_refl _), Nat.sub_self] at h1
              cases h1
              cases h2
              exact F.tups _ _ upd_same
          · intro x hx
            rcases List.mem_append.mp hx with h | h
            · exact sf.sz x h
            · rw [List.mem_singleton.mp h]
              show l.toArray.size ≤ 6
              rw [List.size_toArray]; omega
          · intro x hx y hy
            rcases List.mem_append.mp hx with h | h
            · exact sf.let_ x h y hy
            · rw [List.mem_singleton.mp h] at hy
              exact l2 y hy
          · intro x hx
            rcases List.mem_append.mp hx with h | h
            · exact sf.gives x h
            · rw [List.mem_singleton.mp h]
              rcases hc2 with e | e
              · exact .inl (by rw [e])
              · exact .inr (by rw [e])
          · intro x hx
            rw [List.getElem?_append_left (by omega)] at hx
            exact sf.first x hx
          · rw [upd_ne (ne_of_none h n1)]
            exact upd_old (k45 _ _ (k2 _ _ h n) n) hp
    · rintro σ H2 ⟨as, sg, v3, v4, rfl, S, ls, sf, hb2, k2⟩
      simp! []
      exact q sl as sg H2 S (by omega) sf n1 hb2 k2

end
section
variable {P : Program} {w : World} {K : PySem.W.Frag} {mg : Str → Option Value} {base : Heap} {a : Ad}

abbrev Df := Sg × Int × List Row
structure ProgAt (H : Hp) (pl : Addr) (das : List (Addr × Addr × List Addr)) (ds : List Df) : Prop where
  top : H pl = some (.lst (das.map fun a => V.ref a.1))
  len : das.length = ds.length
  def_ : ∀ (i : Nat) (a : Addr × Addr × List Addr) (d : Df), das[i]? = some a → ds[i]? = some d → H a.1 = some (.tup [.str d.1.1, .str d.1.2, .int d.2.1, .ref a.2.1]) ∧ RowsOf H a.2.1 a.2.2 d.2.2
structure DfFit (sg : List Sg) (d : Df) : Prop where
  w0 : 0 ≤ d.2.1
  w1 : d.2.1 ≤ 16
  n0 : 0 < d.2.2.length
  n1 : d.2.2.length ≤ 40
  rows : ∀ r ∈ d.2.2, RowFit d.2.1 d.2.2.length sg r
  last : LastOk d.2.2
structure ProgFit (ds : List Df) : Prop where
  sg : SgFit (ds.map (·.1))
  n0 : 0 < ds.length
  n1 : ds.length ≤ 8
  defs : ∀ d ∈ ds, DfFit (ds.map (·.1)) d
theorem RowsOf.fr {H H' : Hp} {M : Addr → Prop} {rl : Addr} {rs : List Addr} {rws : List Row} (f : Fr M H H') (h : RowsOf H rl rs rws) (n : ¬ M rl) : RowsOf H' rl rs rws := ⟨f.keep _ _ h.top n, h.len, fun i p r h1 h2 => (h.row i p r h1 h2).fr f⟩
theorem BagAt.kfr' {b c : Addr} {cs : List Int} {H H' : Hp} (x : BagAt H b c cs) (k : Kp b H H') : Fr (· = b) H H' := ⟨k, fun q xs h => x.tup k h⟩
def sp_program : Sp := fun vs H Q _ => ∃ (b c : Addr) (cs : List Int), vs = [.ref b] ∧ BagAt H b c cs ∧
  ∀ (pl : Addr) (das : List (Addr × Addr × List Addr)) (ds : List Df) (H' : Hp), ProgAt H' pl das ds → ProgFit ds → H pl = none → (∀ (i : Nat) (a : Addr × Addr × List Addr), das[i]? = some a → H a.2.1 = none) → BagAt H' b c cs → Kp b H H' → Q (.ref pl) H'
theorem none_of_kp {b q : Addr} {H H' : Hp} (k : Kp b H H') (n : q ≠ b) (h : H' q = none) : H q = none := by
  cases e : H q with
  | none => rfl
  | some o => rw [k _ _ e n] at h; cases h
theorem ite_two {c X : Prop} [Decidable c] {R : Int → Hp → Prop} {m : Int} {H : Hp} (G : Int → Hp → Prop) (h : (∀ x H', G x H' → R x H') → X) (g : G m H) (r : ∀ x H', G x H' → R x H') : if c then X else R m H := by
  split
  · exact h r
  · exact r _ _ g
theorem ite_three {c d X Y : Prop} [Decidable c] [Decidable d] {R : Int → Hp → Prop} {m : Int} {H : Hp} (G : Int → Hp → Prop) (h : (∀ x H', G x H' → R x H') → X) (h' : (∀ x H', G x H' → R x H') → Y) (g : G m H) (r : ∀ x H', G x H' → R x H') : if c then X else if d then Y else R m H := by
  split
  · exact h r
  · split
    · exact h' r
    · exact r _ _ g
set_option maxHeartbeats 1000000 in
theorem ok_law_program (T : Txt K mg a) : FnOk P w K mg base (CX1 P w) 6 a.f_law_program a.d_law_program ["bag"] sp_program := by
  refine T.F_law_program.okC sc_law_program (fun vs H Q E h => ?_) (fun cdv A outer s H vs Q E hr h => ?_)
  · obtain ⟨b, c, cs, rfl, _⟩ := h
    rfl
  · obtain ⟨b, c, cs, rfl, hb, q⟩ := h
    have hu := hu_of hr
    refine ⟨_, (pss_cons (ps_set (i := 1) sc_law_program.nd (by rfl) (Or.inl rfl) (pe_call (ok_law_draw T) (hr.mono (by decide)) (by rfl) T.m_law_draw T.F_law_draw.kp T.b_law_draw .nil pass1 (pa_cons (pv 0) (pa_cons pe_int pa_nil))))
      (pss_cons (ps_set (i := 2) sc_law_program.nd (by rfl) (Or.inl rfl) (pe_op op_add pe_int (pe_call (ok_law_draw T) (hr.mono (by decide)) (by rfl) T.m_law_draw T.F_law_draw.kp T.b_law_draw .nil pass1 (pa_cons (pv 0) (pa_cons pe_int pa_nil)))))
      (pss_cons (ps_if (pt_cmpR op_eq (pv 1) pe_int (nomark _)) (pss_one (ps_set (i := 2) sc_law_program.nd (by rfl) (Or.inl rfl) (pe_op op_add pe_int (pe_call (ok_law_draw T) (hr.mono (by decide)) (by rfl) T.m_law_draw T.F_law_draw.kp T.b_law_draw .nil pass1 (pa_cons (pv 0) (pa_cons pe_int pa_nil)))))) pss_nil)
      (pss_cons (ps_set (i := 3) sc_law_program.nd (by rfl) (Or.inl rfl) (pe_call (ok_law_signs T) (hr.mono (by decide)) (by rfl) T.m_law_signs T.F_law_signs.kp T.b_law_signs .nil pass1 (pa_cons (pv 0) (pa_cons (pv 2) pa_nil))))
      (pss_cons (ps_set (i := 4) sc_law_program.nd (by rfl) (Or.inl rfl) (pe_lst pa_nil))
      (pss_cons (ps_for PassesOwn.never (by rfl) (pi_list (pv 3)) (pg_tup (n := 2) (by rfl) (pgs_cons (pg_name (i := 5) sc_law_program.nd (by rfl) (Or.inl rfl)) (pgs_cons (pg_name (i := 6) sc_law_program.nd (by rfl) (Or.inl rfl)) pgs_nil)))
      (pss_cons (ps_set (i := 7) sc_law_program.nd (by rfl) (Or.inl rfl) (pe_call (ok_law_draw T) (hr.mono (by decide)) (by rfl) T.m_law_draw T.F_law_draw.kp T.b_law_draw .nil pass1 (pa_cons (pv 0) (pa_cons pe_int pa_nil))))
      (pss_cons (ps_set (i := 8) sc_law_program.nd (by rfl) (Or.inl rfl) (pe_op op_add (pe_op op_add pe_int (pe_call (ok_law_draw T) (hr.mono (by decide)) (by rfl) T.m_law_draw T.F_law_draw.kp T.b_law_draw .nil pass1 (pa_cons (pv 0) (pa_cons pe_int pa_nil)))) (pe_op op_fdivB (pe_callB call_lenF (by rfl) T.z_len (by decide +kernel) (pa_cons (pe_ix ix_F (pv 0) pe_int (fun _ _ => rfl)) pa_nil)) pe_int)))
      (pss_cons (ps_if (PW.pt (pw_or (pt_cmpR op_eq (pv 1) pe_int (nomark _)) (pw_or1 (PW.pt (pw_and (pt_cmpR op_eq (pv 1) pe_int (nomark _)) (pw_and1 (pt_cmpR op_eq (pe_call (ok_law_draw T) (hr.mono (by decide)) (by rfl) T.m_law_draw T.F_law_draw.kp T.b_law_draw .nil pass1 (pa_cons (pv 0) (pa_cons pe_int pa_nil))) pe_int (nomark _)))))))) (pss_one (ps_set (i := 8) sc_law_program.nd (by rfl) (Or.inl rfl) (pe_op op_add pe_int (pe_call (ok_law_draw T) (hr.mono (by decide)) (by rfl) T.m_law_draw T.F_law_draw.kp T.b_law_draw .nil pass1 (pa_cons (pv 0) (pa_cons pe_int pa_nil)))))) pss_nil)
      (pss_one (ps_expr (pe_bm PySem.F.plainAttrs_list PySem.F.slot_list_append PySem.F.type_list_append mt_append (pv 4) (pa_cons (pe_tup (pa_cons (pv 5) (pa_cons (pv 6) (pa_cons (pv 7) (pa_cons (pe_call (ok_law_rows T) (hr.mono (by decide)) (by rfl) T.m_law_rows T.F_law_rows.kp T.b_law_rows .nil pass1 (pa_cons (pv 0) (pa_cons (pv 7) (pa_cons (pv 8) (pa_cons (pv 3) pa_nil))))) pa_nil))))) pa_nil))))))))
      (pss_one (ps_ret (pv 4))))))))), ?_⟩
    simp! []
    refine ⟨b, c, cs, 8, rfl, hb, by decide, by decide, fun big H1 _ _ hb1 k1 => ?_⟩
    simp! []
    refine ⟨b, c, cs, 3, rfl, hb1, by decide, by decide, fun m H2 m0 m1 hb2 k2 => ?_⟩
    simp! []
    apply ite_two (H := H2) (m := m) (fun x H' => 0 ≤ x ∧ x < 8 ∧ BagAt H' b c cs ∧ Kp b H H')
    · exact fun key => ⟨b, c, cs, 8, rfl, hb2, by decide, by decide, fun x H3 x0 x1 hb3 k3 => ⟨x, rfl, key x H3 ⟨x0, x1, hb3, (k1.trans k2).trans k3⟩⟩⟩
    · exact ⟨m0, by omega, hb2, k1.trans k2⟩
    clear m0 m1 hb2 k2 hb1 k1 H2 H1
    rintro m H1 ⟨m0, m1, hb1, k1⟩
    obtain ⟨mN, rfl⟩ := Int.eq_ofNat_of_zero_le m0
    refine ⟨b, c, cs, 1 + mN, by rw [Int.natCast_add]; rfl, hb1, by omega, by omega, fun sl as sg H2 S ls sf nsl hb2 k2 => ?_⟩
    intro pl npl
    have nslb : sl ≠ b := fun e => by
      obtain ⟨o, h⟩ := hb1.has
      rw [← e, nsl] at h; cases h
    have nplb : pl ≠ b := fun e => by
      obtain ⟨o, h⟩ := hb2.has
      rw [← e, npl] at h; cases h
    have nplc : pl ≠ c := fun e => by
      have h := hb2.at_
      rw [← e, npl] at h; cases h
    have nplsl : sl ≠ pl := fun e => by
      have h := S.top
      rw [e, npl] at h; cases h
    have k12 := k1.trans k2
    have npl0 : H pl = none := none_of_kp k12 nplb npl
    refine forL (H1 := upd H2 pl (.lst [])) sl _ (fun Q2 h2 => by simp! []; exact h2) (fun i σ H3 => ∃ (das : List (Addr × Addr × List Addr)) (ds : List Df) (v5 v6 v7 v8 : Option V), σ = [some (.ref b), some (.int big), some (.int (1 + mN)), some (.ref sl), some (.ref pl), v5, v6, v7, v8] ∧ ProgAt H3 pl das ds ∧ ds.map (·.1) = sg.take i ∧ ds.length = i ∧ (∀ d ∈ ds, DfFit sg d) ∧ (∀ (j : Nat) (x : Addr × Addr × List Addr), das[j]? = some x → H x.2.1 = none ∧ x.2.1 ≠ pl) ∧ SgAt H3 sl as sg ∧ BagAt H3 b c cs ∧ Kp b H H3)
      ⟨[], [], _, _, _, _, rfl, ⟨upd_same, rfl, fun i a d h => by simp at h⟩, rfl, rfl, by simp, fun j x h => by simp at h, ⟨upd_old S.top npl, S.len, fun i p x h1 h2 => upd_old (S.row i p x h1 h2) npl⟩, hb2.laid npl, k12.laid npl⟩ (fun i σ H3 _ ⟨_, _, _, _, _, _, _, _, _, _, _, _, h, _⟩ => .of h.top) ?_ ?_
    · rintro i x σ H3 hx ⟨das, ds, v5, v6, v7, v8, rfl, PA, dm, dl, df, dn, S3, hb3, k3⟩
      obtain ⟨p, hp, rfl⟩ := of_map_get hx
      have hi : i < sg.length := by rw [← S3.len]; exact (List.getElem?_eq_some_iff.mp hp).1
      have hsg := List.getElem?_eq_getElem hi
      have htp := S3.row i p _ hp hsg
      revert hsg htp
      generalize sg[i] = sgi
      intro hsg htp
      refine gTup_of htp rfl ?_
      simp! []
      refine ⟨b, c, cs, 17, rfl, hb3, by decide, by decide, fun words H4 w0 w1 hb4 k4 => ?_⟩
      simp! []
      refine ⟨b, c, cs, 5, rfl, hb4, by decide, by decide, fun sz H5 z0 z1 hb5 k5 => ?_⟩
      obtain ⟨⟨bi, bv, bst, bn, hb5b, _⟩, hb5c, _, _, cl⟩ := id hb5
      simp! [hb5b, hb5c, bagL, List.length_map]
      refine ⟨⟨by decide, by decide⟩, ?_⟩
      have zz0 : 1 ≤ 1 + sz + (cs.length : Int) / 8 := by omega
      have zz1 : 1 + sz + (cs.length : Int) / 8 ≤ 40 := by omega
      revert zz0 zz1
      generalize 1 + sz + (cs.length : Int) / 8 = zv
      intro zz0 zz1
      apply ite_three (m := zv) (H := H5) (fun x H' => 1 ≤ x ∧ x ≤ 40 ∧ BagAt H' b c cs ∧ Kp b H5 H')
      · exact fun key => ⟨b, c, cs, 40, rfl, hb5, by decide, by decide, fun x H6 x0 x1 hb6 k6 => ⟨x, rfl, key (1 + x) H6 ⟨by omega, by omega, hb6, k6⟩⟩⟩
      · refine fun key => ⟨b, c, cs, 4, rfl, hb5, by decide, by decide, fun x H6 x0 x1 hb6 k6 => ⟨rfl, ite2 (fun _ => ?_) fun _ => key zv H6 ⟨zz0, zz1, hb6, k6⟩⟩⟩
        exact ⟨b, c, cs, 40, rfl, hb6, by decide, by decide, fun x H7 x0 x1 hb7 k7 => ⟨x, rfl, key (1 + x) H7 ⟨by omega, by omega, hb7, k6.trans k7⟩⟩⟩
      · exact ⟨zz0, zz1, hb5, Kp.refl⟩
      clear zz0 zz1 hb5b hb5c
      rintro zv' H6 ⟨y0, y1, hb6, k6⟩
      obtain ⟨yN, rfl⟩ := Int.eq_ofNat_of_zero_le (by omega : 0 ≤ zv')
      have k36 := (k4.trans k5).trans k6
      have S6 := S3.kp hb3 k36 nslb
      have top3 := PA.top
      have top6 := k36 _ _ top3 nplb
      simp! [tBM]
      refine ⟨.inl ⟨rfl, _, .of top6⟩, b, c, sl, cs, words, yN, as, sg, rfl, hb6, S6, nslb, w0, by omega, by omega, by omega, by omega, by omega, sf.asc, fun rl rs rws H7 RO rln rf rlast nrl hb7 k7 => ?_⟩
      intro tp htp'
      have k37 := k36.trans k7
      have nrlb : rl ≠ b := fun e => by
        obtain ⟨o, h⟩ := hb6.has
        rw [← e, nrl] at h; cases h
      have nrlpl : rl ≠ pl := fun e => by
        rw [← e, nrl] at top6; cases top6
      have top7 := k37 _ _ top3 nplb
      have F1 : Fr (· = b) H3 (upd H7 tp (.tup [.str sgi.1, .str sgi.2, .int words, .ref rl])) := (hb3.kfr' k37).trans (.laid htp')
      have top8 := upd_old (u := .tup [.str sgi.1, .str sgi.2, .int words, .ref rl]) top7 htp'
      have F2 : Fr (· = pl) (upd H7 tp (.tup [.str sgi.1, .str sgi.2, .int words, .ref rl])) (upd (upd H7 tp (.tup [.str sgi.1, .str sgi.2, .int words, .ref rl])) pl (.lst (das.map (fun a => V.ref a.1) ++ [.ref tp]))) := .put rfl (notTup_lst top8)
      refine ⟨pl, _, _, rfl, rfl, top8, by rw [sizeLine_eq, List.length_map, PA.len]; omega, das ++ [(tp, rl, rs)], ds ++ [(sgi, words, rws)], ⟨?_, ?_, ?_⟩, ?_, ?_, ?_, ?_, ?_, ?_, ?_⟩
      · rw [upd_same, List.map_append]; rfl
      · rw [List.length_append, List.length_append, PA.len]; rfl
      · intro j aj dj h1 h2
        by_cases d : j < ds.length
        · rw [List.getElem?_append_left d] at h2
          rw [List.getElem?_append_left (by rw [PA.len]; exact d)] at h1
          obtain ⟨g1, g2⟩ := PA.def_ j aj dj h1 h2
          obtain ⟨n1, n2⟩ := dn j aj h1
          have n3 : aj.2.1 ≠ b := fun e => by
            obtain ⟨o, h⟩ := hb.has
            rw [← e, n1] at h; cases h
          exact ⟨F2.tups _ _ (F1.tups _ _ g1), (g2.fr F1 n3).fr F2 n2⟩
        · have e : j = ds.length := by
            have := (List.getElem?_eq_some_iff.mp h2).1
            rw [List.length_append, List.length_singleton] at this
            omega
          rw [e] at h1 h2
          rw [List.getElem?_append_right (Nat.le_refl _), Nat.sub_self] at h2
          rw [← PA.len, List.getElem?_append_right (Nat.le_refl _), Nat.sub_self] at h1
          cases h1
          cases h2
          exact ⟨F2.tups _ _ upd_same, (RO.fr (Fr.laid (M := fun _ => False) htp') (fun z => z)).fr F2 nrlpl⟩
      · rw [List.map_append, dm, List.take_succ, hsg]; rfl
      · rw [List.length_append, dl]; rfl
      · intro d hd
        rcases List.mem_append.mp hd with h | h
        · exact df d h
        · rw [List.mem_singleton.mp h]
          exact ⟨w0, by show words ≤ 16; omega, by show 0 < rws.length; omega, by show rws.length ≤ 40; omega, by show ∀ r ∈ rws, RowFit words rws.length sg r; rw [rln]; exact rf, rlast⟩
      · intro j x h1
        by_cases d : j < das.length
        · rw [List.getElem?_append_left d] at h1
          exact dn j x h1
        · have e : j = das.length := by
            have := (List.getElem?_eq_some_iff.mp h1).1
            rw [List.length_append, List.length_singleton] at this
            omega
          rw [e, List.getElem?_append_right (Nat.le_refl _), Nat.sub_self] at h1
          cases h1
          exact ⟨none_of_kp (k3.trans k36) nrlb nrl, nrlpl⟩
      · have S7 := S3.kp hb3 k37 nslb
        exact ⟨F2.keep _ _ (upd_old S7.top htp') nplsl, S7.len, fun j p x h1 h2 => F2.tups _ _ (upd_old (S7.row j p x h1 h2) htp')⟩
      · exact (hb7.laid htp').other nplb nplc
      · intro c' o h n
        rw [upd_ne (ne_of_none h npl0)]
        exact upd_old (k37 _ _ (k3 _ _ h n) n) htp'
    · rintro σ H3 ⟨das, ds, v5, v6, v7, v8, rfl, PA, dm, dl, df, dn, S3, hb3, k3⟩
      simp! []
      rw [List.length_map, S3.len] at dl dm
      rw [List.take_length] at dm
      exact q pl das ds H3 PA ⟨by rw [dm]; exact sf, by omega, by omega, by rw [dm]; exact df⟩ npl0 (fun j x h => (dn j x h).1) hb3 k3

end
section
variable {P : Program} {w : World} {K : PySem.W.Frag} {mg : Str → Option Value} {base : Heap} {a : Ad}

def scV : V → Bool
  | .int _ => true
  | .bl _ => true
  | .str _ => true
  | .non => true
  | _ => false
/-- the same all through, at most n levels deep -/
def Al (H : Hp) : Nat → V → V → Prop
  | 0, _, _ => False
  | n + 1, x, y => (x = y ∧ scV x = true) ∨ ∃ p q xs ys, x = .ref p ∧ y = .ref q ∧ ((H p = some (.lst xs) ∧ H q = some (.lst ys)) ∨ (H p = some (.tup xs) ∧ H q = some (.tup ys))) ∧ xs.length = ys.length ∧ ys.length ≤ 1000 ∧ ∀ (i : Nat) (a b : V), xs[i]? = some a → ys[i]? = some b → Al H n a b
def sp_alike (n : Nat) : Sp := fun vs H Q _ => ∃ x y, vs = [x, y] ∧ Al H n x y ∧ Q (.bl true) H
set_option maxHeartbeats 2000000 in
theorem ok_law_alike (T : Txt K mg a) : ∀ n : Nat, FnOk P w K mg base (CX1 P w) n a.f_law_alike a.d_law_alike ["found", "due"] (sp_alike n)
  | 0 => ⟨fun vs H Q E h => by obtain ⟨x, y, _, z, _⟩ := h; exact z.elim, fun A outer s H args us vs Q E hr I b r h => by obtain ⟨x, y, _, z, _⟩ := h; exact z.elim⟩
  | n + 1 => by
    refine T.F_law_alike.okC sc_law_alike (fun vs H Q E h => ?_) (fun cdv A outer s H vs Q E hr h => ?_)
    · obtain ⟨x, y, rfl, _⟩ := h
      rfl
    · obtain ⟨x, y, rfl, al, q⟩ := h
      have hu := hu_of hr
      refine ⟨_, (pss_cons (ps_if (pt_cmp (pc_isN (pv 1))) (pss_one (ps_ret (pe_cmp (pc_isN (pv 0))))) pss_nil)
      (pss_cons (ps_if (pt_val (pe_callB call_isF (by rfl) T.z_isinstance (by decide +kernel) (pa_cons (pv 1) (pa_cons (pe_bltn (v := .ty "bool") (u := .type "bool") (by rfl) T.z_bool (by decide +kernel) (by rfl)) pa_nil)))) (pss_one (ps_ret (pe_and (pe_callB call_isF (by rfl) T.z_isinstance (by decide +kernel) (pa_cons (pv 0) (pa_cons (pe_bltn (v := .ty "bool") (u := .type "bool") (by rfl) T.z_bool (by decide +kernel) (by rfl)) pa_nil))) (pe_one (pe_cmpR op_eq (pv 0) (pv 1) (nomark _)))))) pss_nil)
      (pss_cons (ps_if (pt_val (pe_callB call_isF (by rfl) T.z_isinstance (by decide +kernel) (pa_cons (pv 1) (pa_cons (pe_bltn (v := .ty "int") (u := .type "int") (by rfl) T.z_int (by decide +kernel) (by rfl)) pa_nil)))) (pss_one (ps_ret (pe_and (pe_callB call_isF (by rfl) T.z_isinstance (by decide +kernel) (pa_cons (pv 0) (pa_cons (pe_bltn (v := .ty "int") (u := .type "int") (by rfl) T.z_int (by decide +kernel) (by rfl)) pa_nil))) (pe_and (pe_not (pe_callB call_isF (by rfl) T.z_isinstance (by decide +kernel) (pa_cons (pv 0) (pa_cons (pe_bltn (v := .ty "bool") (u := .type "bool") (by rfl) T.z_bool (by decide +kernel) (by rfl)) pa_nil)))) (pe_one (pe_cmpR op_eq (pv 0) (pv 1) (nomark _))))))) pss_nil)
      (pss_cons (ps_if (pt_val (pe_callB call_isF (by rfl) T.z_isinstance (by decide +kernel) (pa_cons (pv 1) (pa_cons (pe_bltn (v := .ty "str") (u := .type "str") (by rfl) T.z_str (by decide +kernel) (by rfl)) pa_nil)))) (pss_one (ps_ret (pe_and (pe_callB call_isF (by rfl) T.z_isinstance (by decide +kernel) (pa_cons (pv 0) (pa_cons (pe_bltn (v := .ty "str") (u := .type "str") (by rfl) T.z_str (by decide +kernel) (by rfl)) pa_nil))) (pe_one (pe_cmpR op_eq (pv 0) (pv 1) (nomark _)))))) pss_nil)
      (pss_cons (ps_if (pt_val (pe_callB call_isF (by rfl) T.z_isinstance (by decide +kernel) (pa_cons (pv 1) (pa_cons (pe_bltn (v := .ty "tuple") (u := .type "tuple") (by rfl) T.z_tuple (by decide +kernel) (by rfl)) pa_nil)))) (pss_one (ps_if (pt_not (pt_val (pe_callB call_isF (by rfl) T.z_isinstance (by decide +kernel) (pa_cons (pv 0) (pa_cons (pe_bltn (v := .ty "tuple") (u := .type "tuple") (by rfl) T.z_tuple (by decide +kernel) (by rfl)) pa_nil))))) (pss_one (ps_ret pe_bl)) pss_nil)) (pss_one (ps_if (pt_not (pt_val (pe_callB call_isF (by rfl) T.z_isinstance (by decide +kernel) (pa_cons (pv 0) (pa_cons (pe_bltn (v := .ty "list") (u := .type "list") (by rfl) T.z_list (by decide +kernel) (by rfl)) pa_nil))))) (pss_one (ps_ret pe_bl)) pss_nil)))
      (pss_cons (ps_if (pt_cmpR op_ne (pe_callB call_lenF (by rfl) T.z_len (by decide +kernel) (pa_cons (pv 0) pa_nil)) (pe_callB call_lenF (by rfl) T.z_len (by decide +kernel) (pa_cons (pv 1) pa_nil)) (nomark _)) (pss_one (ps_ret pe_bl)) pss_nil)
      (pss_cons (ps_for PassesOwn.never (by rfl) (pi_range1 (by rfl) T.z_range (pa_cons (pe_callB call_lenF (by rfl) T.z_len (by decide +kernel) (pa_cons (pv 1) pa_nil)) pa_nil)) (pg_name (i := 2) sc_law_alike.nd (by rfl) (Or.inl rfl))
      (pss_one (ps_if (pt_not (pt_val (pe_call (ok_law_alike T n) (hr.mono (Nat.le_refl _)) (by rfl) T.m_law_alike T.F_law_alike.kp T.b_law_alike .nil pass1 (pa_cons (pe_ix ix_F (pv 0) (pv 2) (fun _ _ => rfl)) (pa_cons (pe_ix ix_F (pv 1) (pv 2) (fun _ _ => rfl)) pa_nil))))) (pss_one (ps_ret pe_bl)) pss_nil)))
      (pss_one (ps_ret pe_bl))))))))), ?_⟩
      rcases al with ⟨rfl, sc⟩ | ⟨p, q', xs, ys, rfl, rfl, hh, ll, l1, el⟩
      · cases x with
        | non =>
          simp! []
          exact q
        | bl c =>
          simp! []
          exact q
        | int c =>
          simp! []
          exact q
        | str c =>
          simp! []
          exact q
        | _ => cases sc
      · rcases hh with ⟨h1, h2⟩ | ⟨h1, h2⟩
        all_goals
          simp! [h1, h2]
          rw [if_neg (fun z => z (by rw [ll]))]
          refine for1 (H1 := H) (ys.length : Int) (fun Q2 h3 => by simp! [h2]; exact h3) (by omega) (by omega) (fun i σ H2 => ∃ v2 : Option V, σ = [some (.ref p), some (.ref q'), v2] ∧ H2 = H) ⟨_, rfl, rfl⟩ ?_ ?_
          · rintro i σ H2 hi ⟨v2, rfl, rfl⟩
            have hiy : i < ys.length := by omega
            have hix : i < xs.length := by omega
            have a1 : atI xs ((i : Nat) : Int) = some xs[i] := atI_nat (List.getElem?_eq_getElem hix)
            have a2 : atI ys ((i : Nat) : Int) = some ys[i] := atI_nat (List.getElem?_eq_getElem hiy)
            simp! [h1, h2, Int.zero_add, a1, a2]
            refine ⟨xs[i], ys[i], rfl, el i _ _ (List.getElem?_eq_getElem hix) (List.getElem?_eq_getElem hiy), true, rfl, ?_⟩
            rw [if_neg (by simp)]
          · rintro σ H2 ⟨v2, rfl, rfl⟩
            simp! []
            exact q

end
section
variable {P : Program} {w : World} {K : PySem.W.Frag} {mg : Str → Option Value} {base : Heap} {a : Ad}
theorem slice_chars (z : Str) (lo hi : Option Int) : (PySem.Txt.slice z lo hi).cps.size ≤ z.cps.size ∧ ∀ c ∈ (PySem.Txt.slice z lo hi).cps.toList, c ∈ z.cps.toList := by
  refine ⟨PySem.Txt.slice_le z lo hi, ?_⟩
  unfold PySem.Txt.slice
  intro c hc
  split at hc
  · exact hc
  · have hc' : c ∈ List.filterMap (fun x => z.cps[x]?) (Builtin.Str.strSliceIndices lo hi 1 z.length) := by simpa using hc
    obtain ⟨x, _, hx⟩ := List.mem_filterMap.mp hc'
    exact Array.mem_toList_iff.mpr (Array.mem_of_getElem? hx)
theorem asc_mem {z : Str} : z.cps.all (· < 128) = true ↔ ∀ c ∈ z.cps.toList, c < 128 := by
  rw [← Array.all_toList, List.all_eq_true]
  exact ⟨fun h c hc => by simpa using h c hc, fun h c hc => by simpa using h c hc⟩
theorem app_mem {x y : Str} {c : Nat} : c ∈ (x ++ y).cps.toList ↔ c ∈ x.cps.toList ∨ c ∈ y.cps.toList := by
  show c ∈ (x.cps ++ y.cps).toList ↔ _
  rw [Array.toList_append, List.mem_append]
theorem app_size {x y : Str} : (x ++ y).cps.size = x.cps.size + y.cps.size := by
  show (x.cps ++ y.cps).size = _
  rw [Array.size_append]

abbrev Asc (z : Str) : Prop := z.cps.all (· < 128) = true
theorem len_def (z : Str) : z.length = z.cps.size := rfl
theorem asc_app {x y : Str} (h1 : Asc x) (h2 : Asc y) : Asc (x ++ y) := asc_mem.mpr fun c hc => (app_mem.mp hc).elim (asc_mem.mp h1 c) (asc_mem.mp h2 c)
theorem asc_slice {x : Str} {lo hi : Option Int} (h1 : Asc x) : Asc (PySem.Txt.slice x lo hi) := asc_mem.mpr fun c hc => asc_mem.mp h1 c ((slice_chars x lo hi).2 c hc)
theorem slice_tl (z : Str) : (PySem.Txt.slice z (some 1) none).cps.toList = z.cps.toList.drop 1 := by
  by_cases e : z.cps.toList.length = 0
  · have e1 : z.cps.toList = [] := List.length_eq_zero_iff.mp e
    have := (slice_chars z (some 1) none).2
    rw [e1] at this ⊢
    rw [List.drop_nil]
    exact List.eq_nil_iff_forall_not_mem.mpr fun c hc => absurd (this c hc) List.not_mem_nil
  · have := PyProof.Rows.slice_closes_from (x := z) (i := 1) ⟨by decide, by omega⟩
    have := beq_iff_eq.mp this
    rw [this]
    show List.take _ (List.drop 1 _) = _
    exact List.take_of_length_le (by rw [List.length_drop]; omega)
theorem str_ext {x y : Str} (h : x.cps.toList = y.cps.toList) : x = y := by
  obtain ⟨a⟩ := x
  obtain ⟨b⟩ := y
  have : a = b := Array.toList_inj.mp h
  rw [this]
def Mn (z : Str) : Prop := z.cps.toList.head? = some 45
instance (z : Str) : Decidable (Mn z) := inferInstanceAs (Decidable (_ = _))
def figs (z : Str) : List Nat := if Mn z then z.cps.toList.drop 1 else z.cps.toList
theorem starts_eq (z : Str) : PySem.Txt.startswith z ("-" : Str) = decide (Mn z) := by
  have ex : (z.cps.extract 0 (0 + ("-" : Str).length)).toList = z.cps.toList.take 1 := by
    rw [Array.toList_extract]
    rfl
  have e2 : ("-" : Str).cps.toList = [45] := by decide
  unfold PySem.Txt.startswith Builtin.Str.subAt
  rw [Bool.eq_iff_iff, Bool.and_eq_true, decide_eq_true_eq, decide_eq_true_eq, beq_iff_eq]
  unfold Mn
  constructor
  · rintro ⟨_, h⟩
    have := congrArg Array.toList h
    rw [ex, e2] at this
    cases c : z.cps.toList with
    | nil => rw [c] at this; cases this
    | cons a r =>
      rw [c] at this
      injection this with h1 _
      rw [List.head?_cons, h1]
  · intro h
    cases c : z.cps.toList with
    | nil => rw [c] at h; cases h
    | cons a r =>
      rw [c, List.head?_cons] at h
      injection h with h
      refine ⟨?_, Array.toList_inj.mp ?_⟩
      · have : z.length = z.cps.toList.length := by rw [len_def, ← Array.length_toList]
        rw [this, c]
        show 0 + 1 ≤ r.length + 1
        omega
      · rw [ex, e2, c, h]
        rfl
structure OkT (z : Str) (most : Int) : Prop where
  l1 : 1 ≤ (figs z).length
  l2 : ((figs z).length : Int) ≤ most
  dg : ∀ c ∈ figs z, 48 ≤ c ∧ c ≤ 57
  zr : ¬ ((figs z).head? = some 48 ∧ 1 < z.length)
instance (z : Str) (most : Int) : Decidable (OkT z most) := decidable_of_iff (1 ≤ (figs z).length ∧ ((figs z).length : Int) ≤ most ∧ (∀ c ∈ figs z, 48 ≤ c ∧ c ≤ 57) ∧ ¬ ((figs z).head? = some 48 ∧ 1 < z.length)) ⟨fun ⟨a, b, c, d⟩ => ⟨a, b, c, d⟩, fun x => ⟨x.l1, x.l2, x.dg, x.zr⟩⟩
theorem OkT.num {z : Str} {most : Int} (h : OkT z most) (m : most ≤ 600) : ∃ n, intText? z = some n ∧ z.length ≤ 640 := by
  have l2 := h.l2
  have dg := h.dg
  have l1 := h.l1
  unfold figs at l1 l2 dg
  by_cases c : Mn z
  · rw [if_pos c] at l1 l2 dg
    unfold Mn at c
    cases e : z.cps.toList with
    | nil => rw [e] at c; cases c
    | cons a r =>
      rw [e] at c l1 l2 dg
      injection c with c
      subst c
      have lz : z.length = r.length + 1 := by rw [len_def, ← Array.length_toList, e]; rfl
      have l2' : (r.length : Int) ≤ most := l2
      exact ⟨_, intText_neg e dg (fun z => by rw [z] at l1; exact absurd l1 (by decide)) (by omega), by omega⟩
  · rw [if_neg c] at l1 l2 dg
    have lz : z.length = z.cps.toList.length := by rw [len_def, ← Array.length_toList]
    exact ⟨_, intText_digits dg (fun z => by rw [z] at l1; exact absurd l1 (by decide)) (by omega), by omega⟩

end
section
variable {P : Program} {w : World} {K : PySem.W.Frag} {mg : Str → Option Value} {base : Heap} {a : Ad}

theorem fig_in (c : Nat) : (!(Builtin.Str.occurrences ("0123456789" : Str) { cps := #[c] } 0 ("0123456789" : Str).length 1).isEmpty) = decide (48 ≤ c ∧ c ≤ 57) := by
  rw [PyProof.Rows.empty_one, Bool.not_not]
  have e : ("0123456789" : Str).cps.toList = [48, 49, 50, 51, 52, 53, 54, 55, 56, 57] := by decide
  rw [e]
  rw [Bool.eq_iff_iff, decide_eq_true_eq, decide_eq_true_eq]
  simp only [List.mem_cons, List.not_mem_nil, or_false]
  omega
def figS (z : Str) : Str := if Mn z then PySem.Txt.slice z (some 1) none else z
theorem figS_list (z : Str) : (figS z).cps.toList = figs z := by
  unfold figS figs
  split
  · exact slice_tl z
  · rfl
theorem figS_asc {z : Str} (h : Asc z) : Asc (figS z) := by
  unfold figS
  split
  · exact asc_slice h
  · exact h
theorem figS_len (z : Str) : (figS z).length = (figs z).length := by rw [← figS_list, len_def, Array.length_toList]
theorem figS_le (z : Str) : (figS z).length ≤ z.length := by
  unfold figS
  split
  · exact PySem.Txt.slice_le _ _ _
  · exact Nat.le_refl _
theorem zero_eq {z : Str} (h : (figs z).head? = some 48) : z = ("0" : Str) ↔ ¬ 1 < z.length := by
  have e2 : ("0" : Str).cps.toList = [48] := by decide
  have lz : z.length = z.cps.toList.length := by rw [len_def, ← Array.length_toList]
  constructor
  · rintro rfl
    decide
  · intro n
    refine str_ext ?_
    rw [e2]
    unfold figs at h
    by_cases c : Mn z
    · rw [if_pos c] at h
      cases e : z.cps.toList with
      | nil => rw [e] at h; cases h
      | cons a r =>
        rw [e] at h lz
        cases r with
        | nil => cases h
        | cons b r => rw [List.length_cons, List.length_cons] at lz; omega
    · rw [if_neg c] at h
      cases e : z.cps.toList with
      | nil => rw [e] at h; cases h
      | cons a r =>
        rw [e] at h lz
        injection h with h
        cases r with
        | nil => rw [h]
        | cons b r => rw [List.length_cons, List.length_cons] at lz; omega
def sp_read (X : Addr) : Sp := fun vs H Q E => ∃ (z : Str) (most : Int), vs = [.str z, .int most] ∧ Asc z ∧ z.length ≤ 2000000 ∧ 0 ≤ most ∧ most ≤ 600 ∧ (¬ OkT z most → ∀ H', Same H H' → E (.ref X) none H') ∧ (OkT z most → ∀ n H', intText? z = some n → Same H H' → Q (.int n) H')
set_option maxHeartbeats 2000000 in
theorem ok_read_whole (T : Txt K mg a) : FnOk P w K mg base (CX1 P w) 1 a.f_read_whole a.d_read_whole ["text", "most"] (sp_read a.c_NoText) := by
  refine T.F_read_whole.okX sc_read_whole (fun vs H Q E h => ?_) (fun cdv A outer s H vs Q E hr h => ?_)
  · obtain ⟨z, most, rfl, _⟩ := h
    rfl
  · obtain ⟨z, most, rfl, az, lz, m0, m1, qn, q⟩ := h
    have hu := hu_of hr
    have lz' : z.length ≤ sizeLine := by rw [sizeLine_eq]; omega
    have fle := figS_le z
    have lenS : ∀ {y : Str} {H2 : Hp}, y.length ≤ sizeLine → lenF (.str y) H2 = some y.length := fun h => if_pos h
    refine ⟨_, (pss_cons (ps_set (i := 2) sc_read_whole.nd (by rfl) (Or.inl rfl) (pe_ifExp (pt_val (pe_bm PySem.F.plainAttrs_str PySem.F.slot_str_startswith PySem.F.type_str_startswith mt_starts (pv 0) (pa_cons pe_str pa_nil))) (pe_slice sl_str (pv 0) (po_some pe_int) po_none) (pv 0)))
      (pss_cons (ps_if (PW.pt (pw_or (pt_not (pt_chain op_le op_le pe_int (pe_callB call_lenF (by rfl) T.z_len (by decide +kernel) (pa_cons (pv 2) pa_nil)) (pv 1))) (pw_or1 (pt_not (pt_val (pe_callB (call_all (by rfl)) (by rfl) T.z_all (by decide +kernel) (pa_cons (pe_comp (N' := ["sign"]) (cap := [none]) ⟨rfl, (by decide +kernel), (by decide +kernel), (by rfl), rfl, (by rfl)⟩ (by rfl) (pi_str (pv 2)) (fun C_ ex_ s_ H_ => (pg_name (i := 0) (show (["sign"] : List Str).Nodup by decide +kernel) (by rfl) (Or.inl rfl))) gkp_name (fun C_ ex_ s_ H_ => pifs_nil) (fun C_ ex_ s_ H_ => (pe_cmpR op_in_str (pv 0) (pe_glob (v := .str "0123456789") (by rfl) T.m_FIGURES ⟨_, rfl⟩) (by with_unfolding_all rfl)))) pa_nil))))))) (pss_one (ps_raise (by rfl) T.x_NoText (by rfl) T.m_NoText flies_cx (pa_cons (pe_fstrIRB (by decide) (by decide) (pv 1) (pv 0)) pa_nil))) pss_nil)
      (pss_cons (ps_if (PW.pt (pw_and (pt_cmpR op_eq (pe_ix ix_str (pv 2) pe_int (fun _ _ => rfl)) pe_str (nomark _)) (pw_and1 (pt_cmpR op_ne (pv 0) pe_str (nomark _))))) (pss_one (ps_raise (by rfl) T.x_NoText (by rfl) T.m_NoText flies_cx (pa_cons (pe_fstrRB (by decide) (pv 0)) pa_nil))) pss_nil)
      (pss_one (ps_ret (pe_callTy call_intT (by rfl) T.z_int (by decide +kernel) (pa_cons (pv 0) pa_nil))))))), ?_⟩
    have fl := figS_len z
    have fa := figS_asc az
    have lm : most.natAbs.log2 < 1920 := by
      by_cases e : most.natAbs = 0
      · rw [e]; decide
      · exact (Nat.log2_lt e).mpr (Nat.lt_of_lt_of_le (by omega : most.natAbs < 1024) (by decide))
    generalize hG : tSeq (tIfS (tOr _ _) _ _) _ = tail
    have FIN : tail { nx := fun _ H' => Q .non H', rt := Q } [some (.str z), some (.int most), some (.str (figS z))] H := by
      subst hG
      have bad : ∀ H2, Same H H2 → ¬ OkT z most → tFstrIRB (tVar 1) (tVar 0) [some (.str z), some (.int most), some (.str (figS z))] H2 (fun _ H3 => E (.ref a.c_NoText) none H3) := fun H2 S2 n => by
        simp! [tFstrIRB]
        exact ⟨lm, az, by omega, fun _ => qn n _ S2⟩
      have badR : ∀ H2, Same H H2 → ¬ OkT z most → tFstrRB (tVar 0) [some (.str z), some (.int most), some (.str (figS z))] H2 (fun _ H3 => E (.ref a.c_NoText) none H3) := fun H2 S2 n => by
        simp! [tFstrRB]
        exact ⟨az, by omega, fun _ => qn n _ S2⟩
      simp! []
      refine ⟨_, lenS (by omega), ite2 (fun c0 => ite2 (fun c1 => bad _ (Same.refl _) fun o => c1 (by have := o.l2; omega)) fun c1 => ?_) fun c0 => bad _ (Same.refl _) fun o => c0 (by have := o.l1; omega)⟩
      refine compSS (figS z) (fun c => some (.bl (decide (48 ≤ c ∧ c ≤ 57)))) (fun Q2 h2 => by simp! []; exact h2) fa (by rw [sizeLine_eq, ← len_def]; omega) ?_ ?_
      · intro c H2 R N hc S hR hN
        have fi := fig_in c
        simp! [capSt, tTrue]
        rw [fi]
        exact hR _ _ rfl (Same.refl _)
      · intro D H2 hD S e
        have em : (figS z).cps.toList.filterMap (fun c => some (V.bl (decide (48 ≤ c ∧ c ≤ 57)))) = ((figs z).map fun c => decide (48 ≤ c ∧ c ≤ 57)).map V.bl := by
          rw [figS_list, List.map_map]
          show List.filterMap (some ∘ _) _ = _
          rw [List.filterMap_eq_map]
          rfl
        rw [em] at e
        refine ⟨D, rfl, _, by rw [e]; rfl, by rw [e]; rfl, ite2 (fun c => bad _ S fun o => ?_) fun c => ?_⟩
        · have : ((figs z).map fun c => decide (48 ≤ c ∧ c ≤ 57)).all id = true := List.all_eq_true.mpr fun b hb => by
            obtain ⟨x, hx, rfl⟩ := List.mem_map.mp hb
            exact decide_eq_true (o.dg x hx)
          rw [this] at c; cases c
        · have dg : ∀ c ∈ figs z, 48 ≤ c ∧ c ≤ 57 := fun x hx => by
            have ct : ((figs z).map fun c => decide (48 ≤ c ∧ c ≤ 57)).all id = true := by
              cases h : ((figs z).map fun c => decide (48 ≤ c ∧ c ≤ 57)).all id with
              | true => rfl
              | false => exact absurd h c
            exact of_decide_eq_true (List.all_eq_true.mp ct _ (List.mem_map.mpr ⟨x, hx, rfl⟩))
          cases ef : figs z with
          | nil => rw [ef] at fl; rw [fl] at c0; exact absurd c0 (by decide)
          | cons c r =>
            have ea : atI (figS z).cps.toList 0 = some c := by rw [figS_list, ef]; exact atI_0
            refine ⟨figS z, 0, c, rfl, rfl, by rw [sizeLine_eq]; omega, ea, rfl, ?_⟩
            have hd : (figs z).head? = some 48 ↔ (V.str ⟨#[c]⟩ = V.str ("0" : Str)) := by
              rw [ef, List.head?_cons]
              constructor
              · intro h; injection h with h; rw [h]; rfl
              · intro h
                injection h with h
                have : #[c] = ("0" : Str).cps := congrArg Str.cps h
                have := congrArg Array.toList this
                have e2 : ("0" : Str).cps.toList = [48] := by decide
                rw [e2] at this
                injection this with h1 _
                rw [h1]
            have ok0 : ¬ ((figs z).head? = some 48 ∧ 1 < z.length) → OkT z most := fun n => ⟨by rw [ef]; simp, by omega, dg, n⟩
            have fin : OkT z most → ∃ x, intText? z = some x ∧ z.length ≤ 640 ∧ Q (.int x) H2 := fun o => by
              obtain ⟨n, h1, h2⟩ := o.num m1
              exact ⟨n, h1, h2, q o n H2 h1 S⟩
            refine ite2 (fun h0 => ite2 (fun nz => badR _ S fun o => o.zr ⟨hd.mpr h0, ?_⟩) fun nz => fin (ok0 fun n => ?_)) fun h0 => fin (ok0 fun n => h0 (hd.mp n.1))
            · by_cases l : 1 < z.length
              · exact l
              · exact absurd ((zero_eq (hd.mpr h0)).mpr l) nz
            · exact ((zero_eq n.1).mp (Decidable.of_not_not nz)) n.2
    have hst := starts_eq z
    simp! [tSl, tPart, tNoPart, tBM]
    refine ⟨rfl, ?_⟩
    rw [hst]
    refine ite2 (fun c => ⟨z, rfl, lz', ?_⟩) fun c => ?_
    · have m : Mn z := of_decide_eq_true c
      have e : figS z = PySem.Txt.slice z (some 1) none := if_pos m
      rw [← e]
      exact FIN
    · have m : ¬ Mn z := fun m => c (decide_eq_true m)
      have e : figS z = z := if_neg m
      rw [e] at FIN
      exact FIN

end
section
variable {P : Program} {w : World} {K : PySem.W.Frag} {mg : Str → Option Value} {base : Heap} {a : Ad}
theorem BagAt.nInts {H : Hp} {b c l : Addr} {cs ns : List Int} (B : BagAt H b c cs) (h : H l = some (.lst (ns.map V.int))) : l ≠ b := fun e => by
  obtain ⟨⟨i, v, st, n, hb, _⟩, _⟩ := B
  rw [e, hb] at h
  cases ns with
  | nil => cases h
  | cons x r => cases h
theorem Kp.new {b l : Addr} {H H2 : Hp} {u : HO} (k : Kp b H H2) (h : H l = none) : Kp b H (upd H2 l u) := fun q o e n => by
  rw [upd_ne (fun z => by rw [z, h] at e; cases e)]
  exact k q o e n
theorem BagAt.apart {H : Hp} {b c l : Addr} {cs : List Int} (B : BagAt H b c cs) (h : H l = none) : l ≠ b ∧ l ≠ c := by
  obtain ⟨⟨i, v, st, n, e, k⟩, h3, _⟩ := B
  refine ⟨fun z => ?_, fun z => ?_⟩
  · rw [← z, h] at e; cases e
  · rw [← z, h] at h3; cases h3
theorem none_kp {b l : Addr} {H H1 : Hp} (k : Kp b H H1) (n : H1 l = none) (lb : l ≠ b) : H l = none := by
  cases e : H l with
  | none => rfl
  | some o =>
    have := k l o e lb
    rw [n] at this
    cases this

def sp_sign : Sp := fun vs H Q _ => ∃ (b c : Addr) (cs : List Int), vs = [.ref b] ∧ BagAt H b c cs ∧ ∀ (x : Nat) (H' : Hp), x < 128 → BagAt H' b c cs → Kp b H H' → Q (.str ⟨#[x]⟩) H'
set_option maxHeartbeats 2000000 in
theorem ok_law_any_sign (T : Txt K mg a) : FnOk P w K mg base (CX1 P w) 2 a.f_law_any_sign a.d_law_any_sign ["bag"] sp_sign := by
  refine T.F_law_any_sign.okC sc_law_any_sign (fun vs H Q E h => ?_) (fun cdv A outer s H vs Q E hr h => ?_)
  · obtain ⟨b, c, cs, rfl, _⟩ := h
    rfl
  · obtain ⟨b, c, cs, rfl, B, q⟩ := h
    have hu := hu_of hr
    refine ⟨_, (pss_cons (ps_set (i := 1) sc_law_any_sign.nd (by rfl) (Or.inl rfl) pe_str)
      (pss_cons (ps_set (i := 1) sc_law_any_sign.nd (by rfl) (Or.inl rfl) (pe_op op_add_str (pv 1) pe_str))
      (pss_cons (ps_if (pt_cmpR op_eq (pe_call (ok_law_draw T) (hr.mono (by decide)) (by rfl) T.m_law_draw T.F_law_draw.kp T.b_law_draw .nil pass1 (pa_cons (pv 0) (pa_cons pe_int pa_nil))) pe_int (nomark _)) (pss_one (ps_ret (pe_ix ix_str (pv 1) (pe_call (ok_law_draw T) (hr.mono (by decide)) (by rfl) T.m_law_draw T.F_law_draw.kp T.b_law_draw .nil pass1 (pa_cons (pv 0) (pa_cons pe_int pa_nil))) (fun _ _ => rfl)))) pss_nil)
      (pss_one (ps_ret (pe_ix ix_str (pv 1) (pe_call (ok_law_draw T) (hr.mono (by decide)) (by rfl) T.m_law_draw T.F_law_draw.kp T.b_law_draw .nil pass1 (pa_cons (pv 0) (pa_cons pe_int pa_nil))) (fun _ _ => rfl))))))), ?_⟩
    have al : ∀ x : Nat, x < 95 → ∃ c, atI (Str.ofString "0123456789- \nabcdefghijklmnopqrstuvwxyzABCDEFGHIJKLMNOPQRSTUVWXYZ" ++ Str.ofString "!\"#$&'()*+,./:;<=>?\x40[\\]^_`{|}~").cps.toList ((x : Nat) : Int) = some c ∧ c < 128 := by
      have d1 : (Str.ofString "0123456789- \nabcdefghijklmnopqrstuvwxyzABCDEFGHIJKLMNOPQRSTUVWXYZ" ++ Str.ofString "!\"#$&'()*+,./:;<=>?\x40[\\]^_`{|}~").cps.toList.all (· < 128) = true := by decide +kernel
      have d2 : 95 ≤ (Str.ofString "0123456789- \nabcdefghijklmnopqrstuvwxyzABCDEFGHIJKLMNOPQRSTUVWXYZ" ++ Str.ofString "!\"#$&'()*+,./:;<=>?\x40[\\]^_`{|}~").cps.toList.length := by decide +kernel
      intro x hx
      have xl := Nat.lt_of_lt_of_le hx d2
      exact ⟨_, atI_nat (List.getElem?_eq_getElem xl), by simpa using List.all_eq_true.mp d1 _ (List.getElem_mem xl)⟩
    have ll : (Str.ofString "0123456789- \nabcdefghijklmnopqrstuvwxyzABCDEFGHIJKLMNOPQRSTUVWXYZ" ++ Str.ofString "!\"#$&'()*+,./:;<=>?\x40[\\]^_`{|}~").length ≤ sizeLine := by decide +kernel
    simp! []
    refine ⟨by decide +kernel, b, c, cs, _, rfl, B, by decide, by decide, fun x H1 x0 x1 B1 k1 => ⟨rfl, ite2 (fun _ => ?_) fun _ => ?_⟩⟩
    · refine ⟨b, c, cs, _, rfl, B1, by decide, by decide, fun y H2 y0 y1 B2 k2 => ?_⟩
      obtain ⟨n, rfl⟩ := Int.eq_ofNat_of_zero_le y0
      obtain ⟨ch, e, lt⟩ := al n (by omega)
      exact ⟨_, _, ch, rfl, rfl, ll, e, q ch H2 lt B2 (k1.trans k2)⟩
    · refine ⟨b, c, cs, _, rfl, B1, by decide, by decide, fun y H2 y0 y1 B2 k2 => ?_⟩
      obtain ⟨n, rfl⟩ := Int.eq_ofNat_of_zero_le y0
      obtain ⟨ch, e, lt⟩ := al n (by omega)
      exact ⟨_, _, ch, rfl, rfl, ll, e, q ch H2 lt B2 (k1.trans k2)⟩
def sp_run : Sp := fun vs H Q _ => ∃ (b c : Addr) (cs : List Int), vs = [.ref b] ∧ BagAt H b c cs ∧ ∀ (z : Str) (H' : Hp), Asc z → z.length ≤ 12 → BagAt H' b c cs → Kp b H H' → Q (.str z) H'
theorem mul_list (z : Str) (n : Int) : (PySem.Txt.mul z n).cps.toList = (List.replicate n.toNat z.cps.toList).flatten := by
  have key : ∀ (k : Nat) (acc : Array Nat), ((List.replicate k z.cps).foldl (fun x1 x2 => x1 ++ x2) acc).toList = acc.toList ++ (List.replicate k z.cps.toList).flatten := by
    intro k
    induction k with
    | zero => intro acc; simp
    | succ k ih =>
      intro acc
      rw [List.replicate_succ, List.foldl_cons, ih, List.replicate_succ, List.flatten_cons, Array.toList_append, List.append_assoc]
  unfold PySem.Txt.mul
  split
  · rename_i c
    rw [show n.toNat = 0 by omega]
    rfl
  · split
    · rename_i c d
      rw [Bool.or_eq_true] at d
      rcases d with d | d
      · have : n = 1 := by simpa using d
        subst this
        show _ = (List.replicate 1 _).flatten
        simp
      · have e : z.cps.toList = [] := by
          have : z.length = 0 := by simpa using d
          rw [len_def, ← Array.length_toList] at this
          exact List.length_eq_zero_iff.mp this
        rw [e]
        induction n.toNat with
        | zero => rfl
        | succ k ih => rw [List.replicate_succ, List.flatten_cons, ← ih]; rfl
    · rw [key]
      rfl
theorem mul_len (z : Str) (n : Int) : (PySem.Txt.mul z n).length = z.length * n.toNat := by
  rw [len_def, ← Array.length_toList, mul_list, List.length_flatten, List.map_replicate, List.sum_replicate_nat, Array.length_toList, Nat.mul_comm]
  rfl
theorem mul_asc {z : Str} {n : Int} (h : Asc z) : Asc (PySem.Txt.mul z n) := asc_mem.mpr fun c hc => by
  rw [mul_list] at hc
  obtain ⟨l, hl, hc⟩ := List.mem_flatten.mp hc
  rw [List.eq_of_mem_replicate hl] at hc
  exact asc_mem.mp h c hc
theorem join_list (zs : List Str) : (PySem.Txt.join ("" : Str) zs).cps.toList = zs.flatMap fun z => z.cps.toList := by
  have key : ∀ (r : List Str) (acc : Array Nat), (r.foldl (fun acc p => acc ++ (Str.ofString "").cps ++ p.cps) acc).toList = acc.toList ++ r.flatMap fun z => z.cps.toList := by
    intro r
    induction r with
    | nil => intro acc; simp
    | cons c r ih =>
      intro acc
      rw [List.foldl_cons, ih, show (Str.ofString "").cps = #[] by decide]
      simp
  cases zs with
  | nil => rfl
  | cons c r =>
    show (r.foldl (fun acc p => acc ++ (Str.ofString "").cps ++ p.cps) c.cps).toList = _
    rw [key]
    simp
theorem join_len (zs : List Str) {m : Nat} (h : ∀ z ∈ zs, z.length ≤ m) : (PySem.Txt.join ("" : Str) zs).length ≤ zs.length * m := by
  rw [len_def, ← Array.length_toList, join_list]
  induction zs with
  | nil => simp
  | cons z r ih =>
    rw [List.flatMap_cons, List.length_append, List.length_cons, Nat.succ_mul]
    have := ih fun x hx => h x (List.mem_cons_of_mem _ hx)
    have := h z List.mem_cons_self
    rw [len_def, ← Array.length_toList] at this
    omega
theorem join_asc {zs : List Str} (h : ∀ z ∈ zs, Asc z) : Asc (PySem.Txt.join ("" : Str) zs) := asc_mem.mpr fun c hc => by
  rw [join_list] at hc
  obtain ⟨z, hz, hc⟩ := List.mem_flatMap.mp hc
  exact asc_mem.mp (h z hz) c hc
theorem one_asc {x : Nat} (h : x < 128) : Asc ⟨#[x]⟩ := asc_mem.mpr fun c hc => by
  have : c ∈ [x] := hc
  rw [List.mem_singleton.mp this]; exact h
theorem sums_le {zs : List Str} {m : Nat} (h : ∀ z ∈ zs, z.length ≤ m) : (zs.map (·.length)).sum ≤ zs.length * m := by
  induction zs with
  | nil => simp
  | cons z r ih =>
    rw [List.map_cons, List.sum_cons, List.length_cons, Nat.succ_mul]
    have := ih fun x hx => h x (List.mem_cons_of_mem _ hx)
    have := h z List.mem_cons_self
    omega
set_option maxHeartbeats 2000000 in
theorem ok_law_run (T : Txt K mg a) : FnOk P w K mg base (CX1 P w) 3 a.f_law_run a.d_law_run ["bag"] sp_run := by
  refine T.F_law_run.okC sc_law_run (fun vs H Q E h => ?_) (fun cdv A outer s H vs Q E hr h => ?_)
  · obtain ⟨b, c, cs, rfl, _⟩ := h
    rfl
  · obtain ⟨b, c, cs, rfl, B, q⟩ := h
    have hu := hu_of hr
    refine ⟨_, (pss_cons (ps_set (i := 1) sc_law_run.nd (by rfl) (Or.inl rfl) (pe_call (ok_law_draw T) (hr.mono (by decide)) (by rfl) T.m_law_draw T.F_law_draw.kp T.b_law_draw .nil pass1 (pa_cons (pv 0) (pa_cons pe_int pa_nil))))
      (pss_cons (ps_set (i := 2) sc_law_run.nd (by rfl) (Or.inl rfl) (pe_call (ok_law_draw T) (hr.mono (by decide)) (by rfl) T.m_law_draw T.F_law_draw.kp T.b_law_draw .nil pass1 (pa_cons (pv 0) (pa_cons pe_int pa_nil))))
      (pss_cons (ps_if (pt_cmpR op_eq (pv 1) pe_int (nomark _)) (pss_one (ps_ret (pe_op op_mulS pe_str (pv 2)))) pss_nil)
      (pss_cons (ps_if (pt_cmpR op_eq (pv 1) pe_int (nomark _)) (pss_one (ps_ret (pe_op op_mulS (pe_call (ok_law_any_sign T) (hr.mono (by decide)) (by rfl) T.m_law_any_sign T.F_law_any_sign.kp T.b_law_any_sign .nil pass1 (pa_cons (pv 0) pa_nil)) (pv 2)))) pss_nil)
      (pss_one (ps_ret (pe_bm PySem.F.plainAttrs_str PySem.F.slot_str_join PySem.F.type_str_join mt_join pe_str (pa_cons (pe_comp (N' := ["k", "bag"]) (cap := [none, some 0]) ⟨rfl, (by decide +kernel), (by decide +kernel), (by rfl), rfl, (by rfl)⟩ (by rfl) (pi_range1 (by rfl) T.z_range (pa_cons (pv 2) pa_nil)) (fun C_ ex_ s_ H_ => (pg_name (i := 0) (show (["k", "bag"] : List Str).Nodup by decide +kernel) (by rfl) (Or.inl rfl))) gkp_name (fun C_ ex_ s_ H_ => pifs_nil) (fun C_ ex_ s_ H_ => (pe_call (ok_law_any_sign T) (by exact hr.mono (by decide)) (by rfl) T.m_law_any_sign T.F_law_any_sign.kp T.b_law_any_sign .nil pass1 (pa_cons (pv 1) pa_nil)))) pa_nil)))))))), ?_⟩
    simp! []
    refine ⟨b, c, cs, _, rfl, B, by decide, by decide, fun way H1 w0 w1 B1 k1 => ?_⟩
    simp! []
    refine ⟨b, c, cs, _, rfl, B1, by decide, by decide, fun many H2 m0 m1 B2 k2 => ?_⟩
    have k12 := k1.trans k2
    simp! []
    refine ite2 (fun _ => ?_) fun _ => ite2 (fun _ => ?_) fun _ => ?_
    · refine ⟨_, _, rfl, rfl, by omega, by omega, ?_, q _ H2 (mul_asc (by decide +kernel)) ?_ B2 k12⟩
      · rw [show (Str.ofString " ").length = 1 by decide, sizeLine_eq]; omega
      · rw [mul_len, show (Str.ofString " ").length = 1 by decide]; omega
    · refine ⟨b, c, cs, rfl, B2, fun x H3 xl B3 k3 => ?_⟩
      have l1 : (⟨#[x]⟩ : Str).length = 1 := rfl
      refine ⟨_, _, rfl, rfl, by omega, by omega, ?_, q _ H3 (mul_asc (one_asc xl)) ?_ B3 (k12.trans k3)⟩
      · rw [l1, sizeLine_eq]; omega
      · rw [mul_len, l1]; omega
    · simp! [tBM]
      refine ⟨rfl, ?_⟩
      refine comp1 many (fun Q2 h2 => by simp! []; exact h2) (by omega) (by omega) (fun D i ys H3 => ∃ l : List Nat, ys = (l.map fun x => V.str ⟨#[x]⟩) ∧ (∀ x ∈ l, x < 128) ∧ l.length = i ∧ H3 D = some (.lst ys) ∧ BagAt H3 b c cs ∧ Kp b H H3) (fun D hD => ⟨[], rfl, fun _ h => absurd h List.not_mem_nil, rfl, upd_same, B2.laid hD, k12.laid hD⟩) ?_ (by rw [sizeLine_eq]; omega) ?_ ?_
      · rintro D hD i ys H3 hi ⟨l, rfl, _, ll, h3, _⟩
        exact ⟨h3, by rw [List.length_map]; omega⟩
      · rintro D hD i ys H3 hi ⟨l, rfl, al, ll, h3, B3, k3⟩
        obtain ⟨Db, Dc⟩ := B2.apart hD
        simp! [tTrue, capSt]
        refine ⟨b, c, cs, rfl, B3, fun x H4 xl B4 k4 => ⟨k4 _ _ h3 Db, l ++ [x], by rw [List.map_append]; rfl, fun y hy => ?_, by simp [ll], B4.other Db Dc, (k3.trans k4).new (none_kp k12 hD Db)⟩⟩
        rcases List.mem_append.mp hy with hy | hy
        · exact al y hy
        · rw [List.mem_singleton.mp hy]; exact xl
      · rintro D hD ys H3 ⟨l, rfl, al, ll, h3, B3, k3⟩
        have hz : ∀ z ∈ l.map (fun x => (⟨#[x]⟩ : Str)), z.length ≤ 1 := fun z hz => by
          obtain ⟨x, _, rfl⟩ := List.mem_map.mp hz
          exact Nat.le_refl _
        have sl := sums_le hz
        have jl := join_len _ hz
        rw [List.length_map] at sl jl
        refine ⟨_, D, l.map (fun x => (⟨#[x]⟩ : Str)), rfl, rfl, by rw [h3, List.map_map]; rfl, ?_, q _ H3 (join_asc fun z hz => ?_) (by omega) B3 k3⟩
        · rw [show (Str.ofString "").length = 0 by decide]; omega
        · obtain ⟨x, hx, rfl⟩ := List.mem_map.mp hz
          exact one_asc (al x hx)

end
section
variable {P : Program} {w : World} {K : PySem.W.Frag} {mg : Str → Option Value} {base : Heap} {a : Ad}

theorem ms_at {ms : List Int} {x : Int} (x0 : 0 ≤ x) (x1 : x < ms.length) : ∃ y, atI (ms.map V.int) x = some (.int y) ∧ y ∈ ms := by
  have hx : x.toNat < ms.length := by omega
  have := atI_nat (xs := ms.map V.int) (j := x.toNat) (show (ms.map V.int)[x.toNat]? = some (.int ms[x.toNat]) by rw [List.getElem?_map, List.getElem?_eq_getElem hx]; rfl)
  rw [show ((x.toNat : Nat) : Int) = x by omega] at this
  exact ⟨_, this, List.getElem_mem hx⟩
def sp_bent : Sp := fun vs H Q _ => ∃ (b c pk : Addr) (cs : List Int) (z : Str) (a0 a1 a2 : Int), vs = [.str z, .ref pk, .ref b] ∧ BagAt H b c cs ∧ H pk = some (.lst [.int a0, .int a1, .int a2]) ∧ 0 ≤ a0 ∧ 0 ≤ a1 ∧ 0 ≤ a2 ∧ Asc z ∧ z.length ≤ 900000 ∧ ∀ (y : Str) (H' : Hp), Asc y → y.length ≤ 2 * z.length + 13 → BagAt H' b c cs → Kp b H H' → Q (.str y) H'
theorem app_len {x y : Str} : (x ++ y).length = x.length + y.length := app_size
set_option maxHeartbeats 4000000 in
theorem ok_law_bent_text (T : Txt K mg a) : FnOk P w K mg base (CX1 P w) 4 a.f_law_bent_text a.d_law_bent_text ["text", "pick", "bag"] sp_bent := by
  refine T.F_law_bent_text.okC sc_law_bent_text (fun vs H Q E h => ?_) (fun cdv A outer s H vs Q E hr h => ?_)
  · obtain ⟨b, c, pk, cs, z, a0, a1, a2, rfl, _⟩ := h
    rfl
  · obtain ⟨b, c, pk, cs, z, a0, a1, a2, rfl, B, hk, p0, p1, p2, az, lz, q⟩ := h
    have hu := hu_of hr
    have lz' : z.length ≤ sizeLine := by rw [sizeLine_eq]; omega
    have lenS : ∀ {y : Str} {H2 : Hp}, y.length ≤ sizeLine → lenF (.str y) H2 = some y.length := fun h => if_pos h
    have sl : ∀ lo hi, (PySem.Txt.slice z lo hi).length ≤ z.length := fun lo hi => PySem.Txt.slice_le z lo hi
    have kb : pk ≠ b := B.nInts (ns := [a0, a1, a2]) hk
    refine ⟨_, (pss_cons (ps_set (i := 3) sc_law_bent_text.nd (by rfl) (Or.inl rfl) (pe_op op_mod (pe_ix ix_F (pv 1) pe_int (fun _ _ => rfl)) (pe_op op_add (pe_callB call_lenF (by rfl) T.z_len (by decide +kernel) (pa_cons (pv 0) pa_nil)) pe_int)))
      (pss_cons (ps_if (pt_cmpR op_eq (pe_ix ix_F (pv 1) pe_int (fun _ _ => rfl)) pe_int (nomark _)) (pss_one (ps_ret (pe_op op_add_str (pe_op op_add_str (pe_slice sl_str (pv 0) po_none (po_some (pv 3))) (pe_call (ok_law_any_sign T) (hr.mono (by decide)) (by rfl) T.m_law_any_sign T.F_law_any_sign.kp T.b_law_any_sign .nil pass1 (pa_cons (pv 2) pa_nil))) (pe_slice sl_str (pv 0) (po_some (pv 3)) po_none)))) pss_nil)
      (pss_cons (ps_if (pt_cmpR op_eq (pe_ix ix_F (pv 1) pe_int (fun _ _ => rfl)) pe_int (nomark _)) (pss_one (ps_ret (pe_op op_add_str (pe_slice sl_str (pv 0) po_none (po_some (pv 3))) (pe_slice sl_str (pv 0) (po_some (pe_op op_add (pv 3) pe_int)) po_none)))) pss_nil)
      (pss_cons (ps_if (pt_cmpR op_eq (pe_ix ix_F (pv 1) pe_int (fun _ _ => rfl)) pe_int (nomark _)) (pss_one (ps_ret (pe_op op_add_str (pe_op op_add_str (pe_slice sl_str (pv 0) po_none (po_some (pv 3))) (pe_call (ok_law_any_sign T) (hr.mono (by decide)) (by rfl) T.m_law_any_sign T.F_law_any_sign.kp T.b_law_any_sign .nil pass1 (pa_cons (pv 2) pa_nil))) (pe_slice sl_str (pv 0) (po_some (pe_op op_add (pv 3) pe_int)) po_none)))) pss_nil)
      (pss_cons (ps_if (pt_cmpR op_eq (pe_ix ix_F (pv 1) pe_int (fun _ _ => rfl)) pe_int (nomark _)) (pss_cons (ps_set (i := 4) sc_law_bent_text.nd (by rfl) (Or.inl rfl) (pe_op op_cat (pe_lst (pa_cons pe_int pa_nil)) (pe_comp (N' := ["k", "text"]) (cap := [none, some 0]) ⟨rfl, (by decide +kernel), (by decide +kernel), (by rfl), rfl, (by rfl)⟩ (by rfl) (pi_range1 (by rfl) T.z_range (pa_cons (pe_callB call_lenF (by rfl) T.z_len (by decide +kernel) (pa_cons (pv 0) pa_nil)) pa_nil)) (fun C_ ex_ s_ H_ => (pg_name (i := 0) (show (["k", "text"] : List Str).Nodup by decide +kernel) (by rfl) (Or.inl rfl))) gkp_name (fun C_ ex_ s_ H_ => (pifs_one (pt_cmpR op_eq (pe_ix ix_str (pv 1) (pv 0) (fun _ _ => rfl)) pe_str (nomark _)))) (fun C_ ex_ s_ H_ => (pe_op op_add (pv 0) pe_int)))))
      (pss_one (ps_set (i := 3) sc_law_bent_text.nd (by rfl) (Or.inl rfl) (pe_ix ix_F (pv 4) (pe_op op_mod (pe_ix ix_F (pv 1) pe_int (fun _ _ => rfl)) (pe_callB call_lenF (by rfl) T.z_len (by decide +kernel) (pa_cons (pv 4) pa_nil))) (fun _ _ => rfl))))) pss_nil)
      (pss_cons (ps_set (i := 5) sc_law_bent_text.nd (by rfl) (Or.inl rfl) (pe_ix ix_F (pe_lst (pa_cons pe_int (pa_cons pe_int (pa_cons (pe_op op_mod (pe_op op_fdivB (pe_ix ix_F (pv 1) pe_int (fun _ _ => rfl)) pe_int) pe_int) pa_nil)))) (pe_op op_mod (pe_ix ix_F (pv 1) pe_int (fun _ _ => rfl)) pe_int) (fun _ _ => rfl)))
      (pss_one (ps_ret (pe_op op_add_str (pe_op op_add_str (pe_slice sl_str (pv 0) po_none (po_some (pv 3))) (pe_call (ok_law_run T) (hr.mono (by decide)) (by rfl) T.m_law_run T.F_law_run.kp T.b_law_run .nil pass1 (pa_cons (pv 2) pa_nil))) (pe_slice sl_str (pv 0) (po_some (pe_op op_add (pv 3) (pv 5))) po_none)))))))))), ?_⟩
    generalize hG : tSeq (tAsg _ (gName 5)) _ = tail
    have FIN : ∀ (at_ : Int) (v4 : Option V) (H2 : Hp), BagAt H2 b c cs → Kp b H H2 → tail { nx := fun _ H' => Q .non H', rt := Q } [some (.str z), some (.ref pk), some (.ref b), some (.int at_), v4, none] H2 := by
      intro at_ v4 H2 B2 k2
      subst hG
      have hk2 := k2 _ _ hk kb
      simp! [hk2, tSl, tPart, tNoPart]
      refine ⟨⟨by decide, by decide⟩, by decide, fun p np => ?_⟩
      have hk3 := upd_old (u := .lst [V.int 0, V.int 0, V.int (a2 / 3 % 13)]) hk2 np
      have B3 := B2.laid (u := .lst [V.int 0, V.int 0, V.int (a2 / 3 % 13)]) np
      have k3 := k2.laid (u := .lst [V.int 0, V.int 0, V.int (a2 / 3 % 13)]) np
      revert hk3 B3 k3
      generalize upd H2 p (.lst [V.int 0, V.int 0, V.int (a2 / 3 % 13)]) = H3
      intro hk3 B3 k3
      obtain ⟨g, eg⟩ : ∃ g : Int, atI [V.int 0, V.int 0, V.int (a2 / 3 % 13)] (a2 % 3) = some (.int g) := by
        have : a2 % 3 = 0 ∨ a2 % 3 = 1 ∨ a2 % 3 = 2 := by omega
        rcases this with e | e | e <;> rw [e] <;> exact ⟨_, rfl⟩
      refine ⟨_, by rw [hk3]; rfl, _, atI_2, _, rfl, by decide, _, eg, z, rfl, lz', ?_⟩
      refine ⟨b, c, cs, rfl, B3, fun y H4 ay ly B4 k4 => ⟨_, rfl, _, rfl, ?_, g, rfl, z, rfl, lz', _, rfl, ?_, ?_⟩⟩
      · have := sl none (some at_); omega
      · rw [app_len]
        have := sl none (some at_)
        have := sl (some (at_ + g)) none
        omega
      · refine q _ H4 (asc_app (asc_app (asc_slice az) ay) (asc_slice az)) ?_ B4 (k3.trans k4)
        rw [app_len, app_len]
        have := sl none (some at_)
        have := sl (some (at_ + g)) none
        omega
    have two : ∀ (lo hi : Option Int) (y : Str), y.length ≤ 12 → Asc y → ∀ H2, BagAt H2 b c cs → Kp b H H2 → ∀ i, i = PySem.Txt.slice z none lo → (PySem.Txt.slice z none lo).length + y.length ≤ 16777216 ∧ (PySem.Txt.slice z none lo ++ y).length + (PySem.Txt.slice z hi none).length ≤ 16777216 ∧ Q (.str (PySem.Txt.slice z none lo ++ y ++ PySem.Txt.slice z hi none)) H2 := fun lo hi y ly ay H2 B2 k2 i _ => by
      have := sl none lo
      have := sl hi none
      refine ⟨by omega, by rw [app_len]; omega, q _ H2 (asc_app (asc_app (asc_slice az) ay) (asc_slice az)) (by rw [app_len, app_len]; omega) B2 k2⟩
    simp! [hk, tSl, tPart, tNoPart]
    refine ⟨_, lenS lz', by omega, ite2 (fun _ => ?_) fun _ => ite2 (fun _ => ?_) fun _ => ite2 (fun _ => ?_) fun _ => ite2 (fun _ => ?_) fun _ => FIN _ _ H B .refl⟩
    · refine ⟨z, rfl, lz', b, c, cs, rfl, B, fun x H2 xl B2 k2 => ?_⟩
      obtain ⟨t1, t2, t3⟩ := two (some (a1 % ((z.length : Int) + 1))) (some (a1 % ((z.length : Int) + 1))) ⟨#[x]⟩ (show 1 ≤ 12 by decide) (one_asc xl) H2 B2 k2 _ rfl
      exact ⟨_, rfl, _, rfl, t1, z, rfl, lz', _, rfl, t2, t3⟩
    · refine ⟨z, rfl, lz', z, rfl, lz', _, rfl, _, rfl, ?_, q _ H (asc_app (asc_slice az) (asc_slice az)) ?_ B .refl⟩
      · have := sl none (some (a1 % ((z.length : Int) + 1)))
        have := sl (some (a1 % ((z.length : Int) + 1) + 1)) none
        omega
      · rw [app_len]
        have := sl none (some (a1 % ((z.length : Int) + 1)))
        have := sl (some (a1 % ((z.length : Int) + 1) + 1)) none
        omega
    · refine ⟨z, rfl, lz', b, c, cs, rfl, B, fun x H2 xl B2 k2 => ?_⟩
      obtain ⟨t1, t2, t3⟩ := two (some (a1 % ((z.length : Int) + 1))) (some (a1 % ((z.length : Int) + 1) + 1)) ⟨#[x]⟩ (show 1 ≤ 12 by decide) (one_asc xl) H2 B2 k2 _ rfl
      exact ⟨_, rfl, _, rfl, t1, z, rfl, lz', _, rfl, t2, t3⟩
    · intro p np
      have S1 : Same H (upd H p (.lst [V.int 0])) := .laid np
      have hp1 : upd H p (.lst [V.int 0]) p = some (.lst [V.int 0]) := upd_same
      revert S1 hp1
      generalize upd H p (.lst [V.int 0]) = H1
      intro S1 hp1
      refine comp1S (z.length : Int) (fun i => if z.cps.toList[i]? = some 10 then some (.int (0 + i + 1)) else none) (fun Q2 h2 => by simp! [lenS lz']; exact h2) (by omega) (by omega) (by rw [sizeLine_eq]; omega) ?_ ?_
      · intro i H2 R N hi S hR hN
        have il : i < z.cps.toList.length := by rw [Array.length_toList, ← len_def]; omega
        have ea : atI z.cps.toList (0 + (i : Int)) = some z.cps.toList[i] := by rw [Int.zero_add]; exact atI_nat (List.getElem?_eq_getElem il)
        simp! [capSt]
        refine ⟨z, _, _, rfl, rfl, lz', ea, rfl, ?_⟩
        have hh : (V.str ⟨#[z.cps.toList[i]]⟩ = V.str (Str.ofString "\n")) ↔ z.cps.toList[i]? = some 10 := by
          rw [List.getElem?_eq_getElem il]
          have e2 : (Str.ofString "\n").cps.toList = [10] := by decide
          constructor
          · intro h
            injection h with h
            have := congrArg Array.toList (congrArg Str.cps h)
            rw [e2] at this
            injection this with h1 _
            rw [h1]
          · intro h
            injection h with h
            rw [h]
            exact congrArg V.str (str_ext (by rw [e2]))
        refine ite2 (fun c => ?_) fun c => ?_
        · exact hR _ _ (if_pos (hh.mp c)) (Same.refl _)
        · exact hN (if_neg (fun h => c (hh.mpr h))) _ (Same.refl _)
      · intro D H2 hD S e
        have hp2 := S _ _ hp1
        obtain ⟨ns, en⟩ : ∃ ns : List Int, (List.range (z.length : Int).toNat).filterMap (fun i : Nat => if z.cps.toList[i]? = some 10 then some (V.int (0 + i + 1)) else none) = ns.map V.int := by
          induction List.range (z.length : Int).toNat with
          | nil => exact ⟨[], rfl⟩
          | cons i r ih =>
            obtain ⟨ns, e⟩ := ih
            by_cases c : z.cps.toList[i]? = some 10
            · exact ⟨(0 + (i : Int) + 1) :: ns, by rw [List.filterMap_cons]; simp only [if_pos c]; rw [e]; rfl⟩
            · exact ⟨ns, by rw [List.filterMap_cons]; simp only [if_neg c]; exact e⟩
        have ln : ns.length ≤ z.length := by
          have := congrArg List.length en
          rw [List.length_map] at this
          rw [← this]
          exact Nat.le_trans (List.length_filterMap_le _ _) (by rw [List.length_range]; omega)
        rw [en] at e
        simp! [rCat, hp2, e]
        refine ⟨by rw [List.length_map]; omega, fun p3 np3 => ?_⟩
        have S3 := ((S1.trans S).step np3 (u := .lst (V.int 0 :: ns.map V.int)))
        have h3 : upd H2 p3 (.lst (V.int 0 :: ns.map V.int)) p3 = some (.lst ((0 :: ns).map V.int)) := upd_same
        revert S3 h3
        generalize upd H2 p3 (.lst (V.int 0 :: ns.map V.int)) = H3
        intro S3 h3
        have hk3 := S3 _ _ hk
        have bd : 0 ≤ a1 % (((0 :: ns).length : Nat) : Int) ∧ a1 % (((0 :: ns).length : Nat) : Int) < (((0 :: ns).length : Nat) : Int) := ⟨Int.emod_nonneg _ (by simp <;> omega), Int.emod_lt_of_pos _ (by simp <;> omega)⟩
        obtain ⟨y, ey, _⟩ := ms_at bd.1 bd.2
        refine ⟨_, by rw [hk3]; rfl, _, atI_1, a1, rfl, by omega, _, by rw [List.length_map]; exact ey, ?_⟩
        exact FIN y _ H3 (B.keep S3) (fun q o h _ => S3 q o h)

end
section
variable {P : Program} {w : World} {K : PySem.W.Frag} {mg : Str → Option Value} {base : Heap} {a : Ad}
theorem int_asc (i : Int) : Asc (Str.ofString (toString i)) := asc_mem.mpr fun c hc => by
  by_cases h : c < 128
  · exact h
  · exact absurd hc (PyProof.Rows.int_text_free' c ⟨by omega, by omega⟩ i)
def strI (i : Int) : Str := Str.ofString (toString i)
def NumB (i : Int) : Prop := -(10 ^ 60) < i ∧ i < 10 ^ 60
theorem dig_c : ∀ d : Nat, d < 10 → (Nat.digitChar d).toNat = 48 + d := by decide
theorem digs_all {m : Nat} : ∀ c ∈ (Nat.toDigits 10 m).map Char.toNat, 48 ≤ c ∧ c ≤ 57 := by
  induction m using Nat.strongRecOn with
  | _ m ih =>
    by_cases h : m < 10
    · rw [Nat.toDigits_of_lt_base h]
      intro c hc
      have := dig_c m h
      simp at hc
      omega
    · have hm : m % 10 < 10 := Nat.mod_lt m (by decide)
      have t : Nat.toDigits 10 (m / 10) ++ Nat.toDigits 10 (m % 10) = Nat.toDigits 10 (10 * (m / 10) + m % 10) := Nat.toDigits_append_toDigits (by decide) (by omega) hm
      rw [Nat.div_add_mod] at t
      rw [← t, List.map_append, Nat.toDigits_of_lt_base hm]
      intro c hc
      rcases List.mem_append.mp hc with h | h
      · exact ih (m / 10) (by omega) c h
      · have := dig_c (m % 10) hm
        simp at h
        omega
theorem digs_head {m : Nat} (h0 : 0 < m) : ((Nat.toDigits 10 m).map Char.toNat).head? ≠ some 48 := by
  induction m using Nat.strongRecOn with
  | _ m ih =>
    by_cases h : m < 10
    · rw [Nat.toDigits_of_lt_base h]
      have := dig_c m h
      simp
      omega
    · have hm : m % 10 < 10 := Nat.mod_lt m (by decide)
      have t : Nat.toDigits 10 (m / 10) ++ Nat.toDigits 10 (m % 10) = Nat.toDigits 10 (10 * (m / 10) + m % 10) := Nat.toDigits_append_toDigits (by decide) (by omega) hm
      rw [Nat.div_add_mod] at t
      rw [← t, List.map_append]
      have := ih (m / 10) (by omega) (by omega)
      intro e
      rw [List.head?_append] at e
      cases c : ((Nat.toDigits 10 (m / 10)).map Char.toNat).head? with
      | none =>
        have := PyProof.Rows.tDigits_len_ge 10 (m / 10)
        rw [List.head?_eq_none_iff, List.map_eq_nil_iff] at c
        rw [c] at this
        simp at this
      | some z =>
        rw [c] at e this
        simp at e
        exact this (by rw [e])
theorem sgn_neg (m : Nat) : (strI (-((m + 1 : Nat) : Int))).cps.toList = 45 :: (Nat.toDigits 10 (m + 1)).map Char.toNat := by
  unfold strI
  rw [PyProof.Rows.signs_ofString]
  show (toString (Int.negSucc m)).toList.map Char.toNat = _
  have : toString (Int.negSucc m) = "-" ++ Nat.repr (m + 1) := rfl
  rw [this, String.toList_append, List.map_append, Nat.toList_repr]
  rfl
theorem strI_ok {i : Int} (h : NumB i) : OkT (strI i) 60 ∧ intText? (strI i) = some i ∧ Asc (strI i) ∧ (strI i).length ≤ 61 := by
  have e60 : ((10 ^ 60 : Nat) : Int) = 10 ^ 60 := by decide
  have key : ∀ m : Nat, (m : Int) < 10 ^ 60 → (Nat.toDigits 10 m).length ≤ 60 ∧ 1 ≤ (Nat.toDigits 10 m).length := fun m hm => by
    refine ⟨PyProof.Rows.digits10_le (by decide) ?_, PyProof.Rows.tDigits_len_ge 10 m⟩
    rw [← e60] at hm
    exact Int.ofNat_lt.mp hm
  by_cases c : 0 ≤ i
  · obtain ⟨m, rfl⟩ := Int.eq_ofNat_of_zero_le c
    have el : (strI (m : Int)).cps.toList = (Nat.toDigits 10 m).map Char.toNat := W.KIN.signs_num m
    obtain ⟨k1, k2⟩ := key m h.2
    have dg := digs_all (m := m)
    have ln : (strI (m : Int)).length = (Nat.toDigits 10 m).length := by rw [len_def, ← Array.length_toList, el, List.length_map]
    have nm : ¬ Mn (strI (m : Int)) := fun z => by
      unfold Mn at z
      rw [el] at z
      have := dg 45 (List.mem_of_mem_head? (by rw [z]; rfl))
      omega
    have ef : figs (strI (m : Int)) = (Nat.toDigits 10 m).map Char.toNat := by unfold figs; rw [if_neg nm, el]
    refine ⟨⟨by rw [ef, List.length_map]; exact k2, by rw [ef, List.length_map]; omega, by rw [ef]; exact dg, ?_⟩, ?_, int_asc _, by omega⟩
    · rw [ef, ln]
      rintro ⟨h1, h2⟩
      by_cases z : m = 0
      · subst z; exact absurd h2 (by decide)
      · exact digs_head (by omega) h1
    · have e := intText_digits (x := strI (m : Int)) (by rw [el]; exact dg) (by rw [el]; intro z; have := congrArg List.length z; rw [List.length_map] at this; simp at this) (by omega)
      rw [el, W.KIN.val_back] at e
      exact e
  · obtain ⟨m, rfl⟩ : ∃ m : Nat, i = -((m + 1 : Nat) : Int) := ⟨(-i - 1).toNat, by omega⟩
    have el := sgn_neg m
    obtain ⟨k1, k2⟩ := key (m + 1) (by have := h.1; omega)
    have dg := digs_all (m := m + 1)
    have ln : (strI (-((m + 1 : Nat) : Int))).length = (Nat.toDigits 10 (m + 1)).length + 1 := by rw [len_def, ← Array.length_toList, el, List.length_cons, List.length_map]
    have nm : Mn (strI (-((m + 1 : Nat) : Int))) := by unfold Mn; rw [el]; rfl
    have ef : figs (strI (-((m + 1 : Nat) : Int))) = (Nat.toDigits 10 (m + 1)).map Char.toNat := by unfold figs; rw [if_pos nm, el]; rfl
    refine ⟨⟨by rw [ef, List.length_map]; exact k2, by rw [ef, List.length_map]; omega, by rw [ef]; exact dg, fun z => digs_head (m := m + 1) (by omega) (by rw [← ef]; exact z.1)⟩, ?_, int_asc _, by omega⟩
    have e := intText_neg (x := strI (-((m + 1 : Nat) : Int))) el dg (by intro z; have := congrArg List.length z; rw [List.length_map] at this; simp at this) (by omega)
    rw [W.KIN.val_back] at e
    exact e

theorem digs_back : ∀ (n : Nat) (l : List Nat), l.length = n + 1 → (∀ c ∈ l, 48 ≤ c ∧ c ≤ 57) → (l.head? = some 48 → l.length = 1) → (Nat.toDigits 10 (NumText.digitsVal l)).map Char.toNat = l ∧ NumText.digitsVal l < 10 ^ (n + 1)
  | 0, l, hl, hd, _ => by
    match l, hl with
    | [c], _ =>
      have h := hd c (by simp)
      have e : NumText.digitsVal [c] = c - 48 := by show 0 * 10 + (c - 48) = _; omega
      rw [e, Nat.toDigits_of_lt_base (by omega)]
      have := dig_c (c - 48) (by omega)
      refine ⟨?_, by omega⟩
      simp only [List.map_cons, List.map_nil]
      rw [this, show 48 + (c - 48) = c by omega]
  | n + 1, l, hl, hd, hz => by
    rcases List.eq_nil_or_concat l with e | ⟨l0, c, e⟩
    · rw [e] at hl; simp at hl
    rw [List.concat_eq_append] at e
    subst e
    have l0n : l0.length = n + 1 := by simpa using hl
    have h0 : l0.head? ≠ some 48 := fun z => by
      have := hz (by rw [List.head?_append, z]; rfl)
      rw [List.length_append, l0n] at this
      simp at this
    have hc := hd c (by simp)
    obtain ⟨ih, ib⟩ := digs_back n l0 l0n (fun x hx => hd x (by simp [hx])) fun z => absurd z h0
    have p0 : 0 < NumText.digitsVal l0 := by
      refine Nat.pos_of_ne_zero fun z => h0 ?_
      rw [z] at ih
      rw [← ih]
      rfl
    have t : Nat.toDigits 10 (NumText.digitsVal l0) ++ Nat.toDigits 10 (c - 48) = Nat.toDigits 10 (10 * NumText.digitsVal l0 + (c - 48)) := Nat.toDigits_append_toDigits (by decide) p0 (by omega)
    rw [NumText.digitsVal_snoc, show NumText.digitsVal l0 * 10 + (c - 48) = 10 * NumText.digitsVal l0 + (c - 48) by omega]
    refine ⟨?_, by rw [Nat.pow_succ]; omega⟩
    rw [← t, List.map_append, ih, Nat.toDigits_of_lt_base (by omega)]
    have := dig_c (c - 48) (by omega)
    simp only [List.map_cons, List.map_nil]
    rw [this, show 48 + (c - 48) = c by omega]
theorem okT_strI {z : Str} {n : Int} (h : OkT z 60) (hn : intText? z = some n) : NumB n ∧ z = strI n := by
  have l1 := h.l1
  have l2 := h.l2
  have dg := h.dg
  have zr := h.zr
  obtain ⟨k, hk⟩ : ∃ k, (figs z).length = k + 1 := ⟨(figs z).length - 1, by omega⟩
  have lz : z.length = z.cps.toList.length := by rw [len_def, ← Array.length_toList]
  have k60 : k + 1 ≤ 60 := by omega
  have pk : 10 ^ (k + 1) ≤ 10 ^ 60 := Nat.pow_le_pow_right (by decide) (by omega)
  have e60 : ((10 ^ 60 : Nat) : Int) = 10 ^ 60 := by decide
  by_cases c : Mn z
  · have ef : figs z = z.cps.toList.drop 1 := if_pos c
    obtain ⟨r, er⟩ : ∃ r, z.cps.toList = 45 :: r := by
      unfold Mn at c
      cases e : z.cps.toList with
      | nil => rw [e] at c; cases c
      | cons a r => rw [e] at c; injection c with c; exact ⟨r, by rw [c]⟩
    have ef2 : figs z = r := by rw [ef, er]; rfl
    rw [ef2] at hk dg zr
    have zl : z.length = k + 2 := by rw [lz, er, List.length_cons, hk]
    obtain ⟨d1, d2⟩ := digs_back k r hk dg fun z0 => absurd ⟨z0, by omega⟩ zr
    have e := intText_neg (x := z) er dg (fun z0 => by rw [z0] at hk; simp at hk) (by omega)
    rw [hn] at e
    have e := Option.some.inj e
    have p0 : NumText.digitsVal r ≠ 0 := fun z0 => zr ⟨by rw [z0] at d1; rw [← d1]; rfl, by omega⟩
    obtain ⟨m, hm⟩ : ∃ m, NumText.digitsVal r = m + 1 := ⟨NumText.digitsVal r - 1, by omega⟩
    have b : ((NumText.digitsVal r : Nat) : Int) < 10 ^ 60 := by rw [← e60]; exact Int.ofNat_lt.mpr (Nat.lt_of_lt_of_le d2 pk)
    rw [hm] at e d1 b
    refine ⟨⟨by omega, by omega⟩, str_ext ?_⟩
    rw [e, sgn_neg, er, d1]
  · have ef : figs z = z.cps.toList := if_neg c
    rw [ef] at hk dg zr
    obtain ⟨d1, d2⟩ := digs_back k _ hk dg fun z0 => by
      rw [hk]
      by_cases c0 : k = 0
      · omega
      · exact absurd ⟨z0, by omega⟩ zr
    have e := intText_digits (x := z) dg (fun z0 => by rw [z0] at hk; simp at hk) (by omega)
    rw [hn] at e
    have e := Option.some.inj e
    have b : ((NumText.digitsVal z.cps.toList : Nat) : Int) < 10 ^ 60 := by rw [← e60]; exact Int.ofNat_lt.mpr (Nat.lt_of_lt_of_le d2 pk)
    refine ⟨⟨by omega, by omega⟩, str_ext ?_⟩
    rw [e]
    exact (d1.symm.trans (W.KIN.signs_num _).symm)

end
section
variable {P : Program} {w : World} {K : PySem.W.Frag} {mg : Str → Option Value} {base : Heap} {a : Ad}

def pOf : Part → List Int
  | .inl x => [x]
  | .inr l => l
def partsI (r : Row) : List Int := r.2.flatMap pOf
def rowPs (r : Row) : List Str := r.1 :: (partsI r).map strI
def sp32 : Str := ⟨#[32]⟩
def nl10 : Str := ⟨#[10]⟩
def rowTx (r : Row) : Str := Str.join sp32 (rowPs r)
def tkTx (z : Str) : Str := if z = "" then "-" else z
def defPs (d : Df) : List Str := [("def" : Str), tkTx d.1.1, d.1.2, strI d.2.1]
def defTx (d : Df) : Str := Str.join sp32 (defPs d)
def linesD (d : Df) : List Str := defTx d :: d.2.2.map rowTx
def linesP (ds : List Df) : List Str := ds.flatMap linesD
def progTx (ds : List Df) : Str := Str.join nl10 (linesP ds)
structure TxR (r : Row) : Prop where
  w : ∃ ls, (r.1, ls) ∈ LW ∧ (r.1 ≠ "call" → r.2.length = ls.cps.size ∧ ∀ x ∈ r.2, ∃ i, x = .inl i)
  c : r.1 = "call" → ∃ (p g : Int) (l : List Int), r.2 = [.inl p, .inl g, .inr l] ∧ l.length ≤ 6
  nb : ∀ i ∈ partsI r, NumB i
structure TxD (d : Df) : Prop where
  tk : ∀ c ∈ d.1.1.cps.toList, NH c
  tl : d.1.1.cps.size ≤ 100
  gv : d.1.2 = ⟨#[110]⟩ ∨ d.1.2 = ⟨#[104]⟩
  wd : NumB d.2.1
  rs : ∀ r ∈ d.2.2, TxR r
  rl : d.2.2.length ≤ 40
structure TxP (ds : List Df) : Prop where
  n0 : ds ≠ []
  n1 : ds.length ≤ 8
  ds : ∀ d ∈ ds, TxD d

structure GxR (r : Row) : Prop where
  w : ∃ ls, (r.1, ls) ∈ LW ∧ (r.1 ≠ "call" → r.2.length = ls.cps.size ∧ ∀ x ∈ r.2, ∃ i, x = .inl i)
  c : r.1 = "call" → ∃ (p g : Int) (l : List Int), r.2 = [.inl p, .inl g, .inr l]
  nb : ∀ i ∈ partsI r, NumB i
structure GxD (d : Df) : Prop where
  tk : ∀ c ∈ d.1.1.cps.toList, NH c
  gv : d.1.2 = ⟨#[110]⟩ ∨ d.1.2 = ⟨#[104]⟩
  wd : NumB d.2.1
  rs : ∀ r ∈ d.2.2, GxR r
structure GxP (ds : List Df) : Prop where
  n0 : ds ≠ []
  ds : ∀ d ∈ ds, GxD d
theorem TxR.g {r : Row} (h : TxR r) : GxR r := ⟨h.w, fun c => by obtain ⟨p, g, l, e, _⟩ := h.c c; exact ⟨p, g, l, e⟩, h.nb⟩
theorem TxD.g {d : Df} (h : TxD d) : GxD d := ⟨h.tk, h.gv, h.wd, fun r hr => (h.rs r hr).g⟩
theorem TxP.g {ds : List Df} (h : TxP ds) : GxP ds := ⟨h.n0, fun d hd => (h.ds d hd).g⟩
theorem LW_w : ∀ p ∈ LW, p.1.cps.size ≤ 5 ∧ (∀ c ∈ p.1.cps.toList, 97 ≤ c ∧ c ≤ 122) ∧ p.2.cps.size ≤ 3 ∧ (p.1 = "call" → p.2.cps.size = 3) ∧ p.1 ≠ "def" := by decide +kernel
theorem NumB.free {i : Int} {c : Nat} (h : c ∈ (strI i).cps.toList) : c = 45 ∨ (48 ≤ c ∧ c ≤ 57) := by
  by_cases e : c = 45
  · exact .inl e
  · by_cases f : c < 48 ∨ 57 < c
    · exact absurd h (PyProof.Rows.int_text_free' c ⟨e, f⟩ i)
    · exact .inr (by omega)
theorem rowPs_free {r : Row} (h : GxR r) : ∀ z ∈ rowPs r, ∀ c ∈ z.cps.toList, c ≠ 32 ∧ c ≠ 10 ∧ c < 128 := by
  intro z hz c hc
  rcases List.mem_cons.mp hz with rfl | hz
  · obtain ⟨ls, m, _⟩ := h.w
    have := (LW_w _ m).2.1 c hc
    omega
  · obtain ⟨i, _, rfl⟩ := List.mem_map.mp hz
    have := NumB.free hc
    omega
theorem tkTx_free {z : Str} (h : ∀ c ∈ z.cps.toList, NH c) : ∀ c ∈ (tkTx z).cps.toList, c = 45 ∨ NH c := by
  unfold tkTx
  split
  · intro c hc
    exact .inl (by simpa [show ("-" : Str).cps.toList = [45] by decide] using hc)
  · exact fun c hc => .inr (h c hc)
theorem gv_free {z : Str} (h : z = ⟨#[110]⟩ ∨ z = ⟨#[104]⟩) : ∀ c ∈ z.cps.toList, NH c := by
  intro c hc
  rcases h with rfl | rfl
  · simp at hc; subst hc; exact .inl rfl
  · simp at hc; subst hc; exact .inr rfl
theorem nh_c {c : Nat} (h : NH c) : c ≠ 32 ∧ c ≠ 10 ∧ c < 128 := by rcases h with rfl | rfl <;> decide
theorem defPs_free {d : Df} (h : GxD d) : ∀ z ∈ defPs d, ∀ c ∈ z.cps.toList, c ≠ 32 ∧ c ≠ 10 ∧ c < 128 := by
  intro z hz c hc
  simp only [defPs, List.mem_cons, List.not_mem_nil, or_false] at hz
  rcases hz with rfl | rfl | rfl | rfl
  · have : ∀ c ∈ ("def" : Str).cps.toList, c ≠ 32 ∧ c ≠ 10 ∧ c < 128 := by decide
    exact this c hc
  · rcases tkTx_free h.tk c hc with rfl | h
    · decide
    · exact nh_c h
  · exact nh_c (gv_free h.gv c hc)
  · have := NumB.free hc
    omega
theorem join_mem {x : Nat} {zs : List Str} {c : Nat} (h : c ∈ (Str.join ⟨#[x]⟩ zs).cps.toList) : c = x ∨ ∃ z ∈ zs, c ∈ z.cps.toList := by
  cases zs with
  | nil => simp [Str.join, Str.empty] at h
  | cons z zs =>
    rw [L2.join_list] at h
    rcases List.mem_append.mp h with h | h
    · exact .inr ⟨z, by simp, h⟩
    · obtain ⟨y, hy, hc⟩ := List.mem_flatMap.mp h
      rcases List.mem_cons.mp hc with h | h
      · exact .inl h
      · exact .inr ⟨y, by simp [hy], h⟩
theorem rowTx_free {r : Row} (h : GxR r) : ∀ c ∈ (rowTx r).cps.toList, c ≠ 10 ∧ c < 128 := by
  intro c hc
  rcases join_mem hc with rfl | ⟨z, hz, hc⟩
  · decide
  · exact (rowPs_free h z hz c hc).2
theorem defTx_free {d : Df} (h : GxD d) : ∀ c ∈ (defTx d).cps.toList, c ≠ 10 ∧ c < 128 := by
  intro c hc
  rcases join_mem hc with rfl | ⟨z, hz, hc⟩
  · decide
  · exact (defPs_free h z hz c hc).2
theorem line_free {ds : List Df} (h : GxP ds) : ∀ z ∈ linesP ds, ∀ c ∈ z.cps.toList, c ≠ 10 ∧ c < 128 := by
  intro z hz
  obtain ⟨d, hd, hz⟩ := List.mem_flatMap.mp hz
  have D := h.ds d hd
  rcases List.mem_cons.mp hz with rfl | hz
  · exact defTx_free D
  · obtain ⟨r, hr, rfl⟩ := List.mem_map.mp hz
    exact rowTx_free (D.rs r hr)
theorem lines_ne {ds : List Df} (h : GxP ds) : linesP ds ≠ [] := by
  cases ds with
  | nil => exact absurd rfl h.n0
  | cons d ds => intro z; simp [linesP, linesD] at z
theorem split_prog {ds : List Df} (h : GxP ds) : PySem.Txt.split (progTx ds) nl10 = linesP ds := L2.split_join (lines_ne h) fun z hz hc => (line_free h z hz 10 hc).1 rfl
theorem split_row {r : Row} (h : GxR r) : PySem.Txt.split (rowTx r) sp32 = rowPs r := L2.split_join (List.cons_ne_nil _ _) fun z hz hc => (rowPs_free h z hz 32 hc).1 rfl
theorem split_def {d : Df} (h : GxD d) : PySem.Txt.split (defTx d) sp32 = defPs d := L2.split_join (List.cons_ne_nil _ _) fun z hz hc => (defPs_free h z hz 32 hc).1 rfl
theorem join_le {x : Nat} {zs : List Str} {m : Nat} (h : ∀ z ∈ zs, z.length ≤ m) : (Str.join ⟨#[x]⟩ zs).length ≤ zs.length * (m + 1) := by
  have := StrLaws.join_length_le ⟨#[x]⟩ zs
  have s := sums_le h
  have e : (⟨#[x]⟩ : Str).length = 1 := rfl
  rw [e, Nat.mul_one] at this
  rw [Nat.mul_add, Nat.mul_one]
  omega
theorem partsI_len {r : Row} (h : TxR r) : (partsI r).length ≤ 8 := by
  by_cases c : r.1 = "call"
  · obtain ⟨p, g, l, e, ll⟩ := h.c c
    unfold partsI
    rw [e]
    simp [pOf]
    omega
  · obtain ⟨ls, m, hw⟩ := h.w
    obtain ⟨l1, l2⟩ := hw c
    have s3 := (LW_w _ m).2.2.1
    have : ∀ ps : List Part, (∀ x ∈ ps, ∃ i, x = .inl i) → (ps.flatMap pOf).length = ps.length := by
      intro ps
      induction ps with
      | nil => intro _; rfl
      | cons p ps ih =>
        intro h
        obtain ⟨i, rfl⟩ := h p (by simp)
        rw [List.flatMap_cons, List.length_append, ih fun x hx => h x (by simp [hx])]
        simp [pOf]; omega
    unfold partsI
    rw [this _ l2, l1]
    dsimp only at s3
    omega
theorem strI_len {i : Int} (h : NumB i) : (strI i).length ≤ 61 := (strI_ok h).2.2.2
theorem rowPs_len {r : Row} (h : TxR r) : (∀ z ∈ rowPs r, z.length ≤ 61) ∧ (rowPs r).length ≤ 9 := by
  refine ⟨fun z hz => ?_, by unfold rowPs; rw [List.length_cons, List.length_map]; have := partsI_len h; omega⟩
  rcases List.mem_cons.mp hz with rfl | hz
  · obtain ⟨ls, m, _⟩ := h.w
    have := (LW_w _ m).1
    dsimp only at this
    rw [len_def]; omega
  · obtain ⟨i, hi, rfl⟩ := List.mem_map.mp hz
    exact strI_len (h.nb i hi)
theorem rowTx_len {r : Row} (h : TxR r) : (rowTx r).length ≤ 600 := by
  obtain ⟨h1, h2⟩ := rowPs_len h
  have := join_le (x := 32) h1
  have : (rowPs r).length * (61 + 1) ≤ 9 * 62 := Nat.mul_le_mul_right _ h2
  unfold rowTx sp32
  omega
theorem tkTx_len {z : Str} (h : z.cps.size ≤ 100) : (tkTx z).length ≤ 100 := by
  unfold tkTx
  split
  · decide
  · rw [len_def]; exact h
theorem defTx_len {d : Df} (h : TxD d) : (defTx d).length ≤ 600 := by
  have h1 : ∀ z ∈ defPs d, z.length ≤ 100 := fun z hz => by
    simp only [defPs, List.mem_cons, List.not_mem_nil, or_false] at hz
    rcases hz with rfl | rfl | rfl | rfl
    · decide
    · exact tkTx_len h.tl
    · rcases h.gv with e | e <;> rw [e] <;> decide
    · have := strI_len h.wd; omega
  have := join_le (x := 32) h1
  have e : (defPs d).length = 4 := rfl
  rw [e] at this
  unfold defTx sp32
  omega
theorem lines_len {ds : List Df} (h : TxP ds) : (∀ z ∈ linesP ds, z.length ≤ 600) ∧ (linesP ds).length ≤ 41 * ds.length := by
  refine ⟨fun z hz => ?_, ?_⟩
  · obtain ⟨d, hd, hz⟩ := List.mem_flatMap.mp hz
    have D := h.ds d hd
    rcases List.mem_cons.mp hz with rfl | hz
    · exact defTx_len D
    · obtain ⟨r, hr, rfl⟩ := List.mem_map.mp hz
      exact rowTx_len (D.rs r hr)
  · have : ∀ ds : List Df, (∀ d ∈ ds, TxD d) → (linesP ds).length ≤ 41 * ds.length := by
      intro ds
      induction ds with
      | nil => intro _; simp [linesP]
      | cons d ds ih =>
        intro h
        have := ih fun x hx => h x (by simp [hx])
        have := (h d (by simp)).rl
        have e : (linesD d).length = d.2.2.length + 1 := by simp [linesD]
        show (linesD d ++ linesP ds).length ≤ _
        rw [List.length_append, List.length_cons]
        omega
    exact this ds h.ds
theorem progTx_len {ds : List Df} (h : TxP ds) : (progTx ds).length ≤ 200000 ∧ ((linesP ds).map (·.length)).sum + (linesP ds).length * 1 ≤ 16777216 ∧ (linesP ds).length ≤ 328 := by
  obtain ⟨h1, h2⟩ := lines_len h
  have n1 := h.n1
  have := join_le (x := 10) h1
  have s := sums_le h1
  have l2 : (linesP ds).length ≤ 328 := by omega
  have m1 : (linesP ds).length * (600 + 1) ≤ 328 * 601 := Nat.mul_le_mul_right _ l2
  have m2 : (linesP ds).length * 600 ≤ 328 * 600 := Nat.mul_le_mul_right _ l2
  unfold progTx nl10
  exact ⟨by omega, by omega, l2⟩
theorem join_snoc {x : Nat} : ∀ (z : Str) (zs : List Str) (y : Str), Str.join ⟨#[x]⟩ (z :: zs ++ [y]) = Str.join ⟨#[x]⟩ (z :: zs) ++ ⟨#[x]⟩ ++ y := by
  intro z zs y
  apply L2.str_eq_of
  have e : ∀ a b c : Str, (a ++ b ++ c).cps.toList = a.cps.toList ++ b.cps.toList ++ c.cps.toList := fun a b c => by show ((a.cps ++ b.cps) ++ c.cps).toList = _; simp
  rw [List.cons_append, L2.join_list, e, L2.join_list, List.flatMap_append]
  simp

end
section
variable {P : Program} {w : World} {K : PySem.W.Frag} {mg : Str → Option Value} {base : Heap} {a : Ad}
theorem cut_from (xs : List V) (k : Nat) : cutV xs (some (k : Int)) none = xs.drop k := by
  unfold cutV
  rw [HT.sIx_nat, HT.sIx_none, List.take_of_length_le (by rw [List.length_drop]; omega)]
  by_cases c : k ≤ xs.length
  · rw [Nat.min_eq_left c]
  · rw [Nat.min_eq_right (by omega), List.drop_of_length_le (Nat.le_refl _), List.drop_of_length_le (by omega)]
theorem forT_ {K : PySem.W.Frag} {tl : TE} {g : TG} {tb : TS} {D : Ends} {σ : St} {H : Hp} (Pre : Addr → Hp → Prop) (hr : ∀ Q, (∀ a H1, Pre a H1 → Q (.ref a) H1) → tl σ H Q)
    (h : ∀ a H1, Pre a H1 → tFor (iTup K (tC (.ref a))) g tb D σ H1) : tFor (iTup K tl) g tb D σ H := hr _ fun a H1 p => h a H1 p

def sp_srow : Sp := fun vs H Q _ => ∃ (p : Addr) (r : Row), vs = [.ref p] ∧ RowAt H p r ∧ TxR r ∧ ∀ H', Same H H' → Q (.str (rowTx r)) H'
theorem TxR.len {r : Row} (h : TxR r) : r.2.length ≤ 3 := by
  by_cases c : r.1 = "call"
  · obtain ⟨p, g, l, e, ll⟩ := h.c c
    rw [e]; simp
  · obtain ⟨ls, m, hw⟩ := h.w
    have := (hw c).1
    have s3 := (LW_w _ m).2.2.1
    dsimp only at s3
    omega
theorem TxR.inr {r : Row} (h : TxR r) {l : List Int} (m : Sum.inr l ∈ r.2) : l.length ≤ 6 := by
  by_cases c : r.1 = "call"
  · obtain ⟨p, g, l', e, ll⟩ := h.c c
    rw [e] at m
    simp at m
    rw [m]; exact ll
  · obtain ⟨ls, _, hw⟩ := h.w
    obtain ⟨i, e⟩ := (hw c).2 _ m
    cases e
theorem logB {i : Int} (h : NumB i) : i.natAbs.log2 < 1920 := by
  by_cases e : i.natAbs = 0
  · rw [e]; decide
  · refine (Nat.log2_lt e).mpr (Nat.lt_of_lt_of_le (m := 10 ^ 60) ?_ (by decide))
    have e2 : ((10 ^ 60 : Nat) : Int) = 10 ^ 60 := by decide
    have h1 := h.1
    have h2 := h.2
    rw [← e2] at h1 h2
    generalize (10 : Nat) ^ 60 = N at *
    omega
abbrev pI (ps : List Part) : List Int := ps.flatMap pOf
theorem pI_take {ps : List Part} {i : Nat} {p : Part} (h : ps[i]? = some p) : pI (ps.take (i + 1)) = pI (ps.take i) ++ pOf p := by
  show List.flatMap pOf _ = List.flatMap pOf _ ++ _
  rw [List.take_succ, h, List.flatMap_append]
  simp
theorem pI_sub {ps : List Part} {i : Nat} : ∀ x ∈ pI (ps.take i), x ∈ pI ps := fun x hx => by
  obtain ⟨p, hp, h⟩ := List.mem_flatMap.mp hx
  exact List.mem_flatMap.mpr ⟨p, List.mem_of_mem_take hp, h⟩
theorem pI_len {r : Row} (h : TxR r) (i : Nat) : (pI (r.2.take i)).length ≤ 8 := by
  have : (pI (r.2.take i)).length ≤ (pI r.2).length := by
    have e : pI r.2 = pI (r.2.take i) ++ pI (r.2.drop i) := by rw [← List.flatMap_append, List.take_append_drop]
    rw [e, List.length_append]; omega
  have := partsI_len h
  unfold partsI at this
  exact Nat.le_trans ‹_› this
set_option maxHeartbeats 2000000 in
theorem ok_shown_row (T : Txt K mg a) : FnOk P w K mg base (CX1 P w) 1 a.f_shown_row a.d_shown_row ["row"] sp_srow := by
  refine T.F_shown_row.okC sc_shown_row (fun vs H Q E h => ?_) (fun cdv A outer s H vs Q E hr h => ?_)
  · obtain ⟨p, r, rfl, _⟩ := h
    rfl
  · obtain ⟨p, r, rfl, RA, TR, q⟩ := h
    have hu := hu_of hr
    refine ⟨_, (pss_cons (ps_set (i := 1) sc_shown_row.nd (by rfl) (Or.inl rfl) (pe_lst (pa_cons (pe_ix ix_F (pv 0) pe_int (fun _ _ => rfl)) pa_nil)))
      (pss_cons (ps_for PassesOwn.never (by rfl) (pi_tup (pe_slice sl_tup (pv 0) (po_some pe_int) po_none)) (pg_name (i := 2) sc_shown_row.nd (by rfl) (Or.inl rfl))
      (pss_one (ps_if (pt_val (pe_callB call_isF (by rfl) T.z_isinstance (by decide +kernel) (pa_cons (pv 2) (pa_cons (pe_bltn (v := .ty "tuple") (u := .type "tuple") (by rfl) T.z_tuple (by decide +kernel) (by rfl)) pa_nil)))) (pss_one (ps_expr (pe_bm PySem.F.plainAttrs_list PySem.F.slot_list_extend PySem.F.type_list_extend mt_extend (pv 1) (pa_cons (pe_comp (N' := ["q"]) (cap := [none]) ⟨rfl, (by decide +kernel), (by decide +kernel), (by rfl), rfl, (by rfl)⟩ (by rfl) (pi_tup (pv 2)) (fun C_ ex_ s_ H_ => (pg_name (i := 0) (show (["q"] : List Str).Nodup by decide +kernel) (by rfl) (Or.inl rfl))) gkp_name (fun C_ ex_ s_ H_ => pifs_nil) (fun C_ ex_ s_ H_ => (pe_callTy call_strI (by rfl) T.z_str (by decide +kernel) (pa_cons (pv 0) pa_nil)))) pa_nil)))) (pss_one (ps_expr (pe_bm PySem.F.plainAttrs_list PySem.F.slot_list_append PySem.F.type_list_append mt_append (pv 1) (pa_cons (pe_callTy call_strI (by rfl) T.z_str (by decide +kernel) (pa_cons (pv 2) pa_nil)) pa_nil)))))))
      (pss_one (ps_ret (pe_bm PySem.F.plainAttrs_str PySem.F.slot_str_join PySem.F.type_str_join mt_join pe_str (pa_cons (pv 1) pa_nil)))))), ?_⟩
    obtain ⟨us, hp, PA⟩ := id RA
    have l3 := TR.len
    have lu := PA.len
    generalize hG : tSeq (tFor _ _ _) _ = tail
    simp! [hp]
    intro L nL
    have S1 : Same H (upd H L (.lst [V.str r.1])) := .laid nL
    have e1 : upd H L (.lst [V.str r.1]) L = some (.lst [V.str r.1]) := upd_same
    revert S1 e1
    generalize upd H L (.lst [V.str r.1]) = H1
    intro S1 e1
    have hp1 := S1 _ _ hp
    subst hG
    generalize hG : tRet _ = tail
    refine forT_ (fun tp H2 => Same H H2 ∧ H2 tp = some (.tup us) ∧ H2 L = some (.lst [V.str r.1])) (fun Q2 hQ => ?_) ?_
    · simp! [tSl, tNoPart, tPart, rSlT]
      refine ⟨_, .of hp1, fun z => ?_, fun tp ntp => ?_⟩
      · have := z.1
        simp [HT.sIx] at this
      · have ec : cutV (V.str r.1 :: us) (some 1) none = us := cut_from (V.str r.1 :: us) 1
        rw [ec] at *
        exact hQ tp _ ⟨S1.step ntp, upd_same, upd_old e1 ntp⟩
    rintro tp H2 ⟨S2, e2, eL2⟩
    refine forT (H1 := H2) tp us (fun Q2 h2 => h2) (fun i σ Hc => ∃ v2 : Option V, σ = [some (V.ref p), some (V.ref L), v2] ∧ Same H Hc ∧ Hc tp = some (.tup us) ∧ Hc L = some (.lst ((r.1 :: (pI (r.2.take i)).map strI).map V.str))) ⟨_, rfl, S2, e2, by simpa using eL2⟩ (fun i σ Hc _ ⟨_, _, _, h, _⟩ => .of h) ?_ ?_
    · rintro i x σ Hc hx ⟨v2, rfl, Sc, ec, eL⟩
      have il : i < r.2.length := by rw [← lu]; exact (List.getElem?_eq_some_iff.mp hx).1
      obtain ⟨pt, hpt⟩ : ∃ pt, r.2[i]? = some pt := ⟨_, List.getElem?_eq_getElem il⟩
      have pa := PA.at_ i x pt hx hpt
      have tpL : tp ≠ L := fun e => by rw [e, eL] at ec; cases ec
      have lL := pI_len TR i
      have nbp : ∀ z ∈ pOf pt, NumB z := fun z hz => TR.nb z (List.mem_flatMap.mpr ⟨pt, List.mem_of_getElem? hpt, hz⟩)
      have tk := pI_take hpt
      cases pt with
      | inl n =>
        cases (show x = .int n from pa)
        simp! [tBM]
        refine ⟨.inl ⟨rfl, _, .of eL⟩, logB (nbp n (by simp [pOf])), L, _, _, rfl, rfl, eL, by rw [sizeLine_eq, List.length_map, List.length_cons, List.length_map]; omega, upd_newS (fun c o e => Sc _ _ e) nL, by rw [upd_ne tpL]; exact ec, ?_⟩
        rw [upd_same, tk]
        simp [pOf, strI]
      | inr l =>
        obtain ⟨qa, rfl, hqa⟩ := pa
        have hqc := Sc _ _ hqa
        have l100 := TR.inr (List.mem_of_getElem? hpt)
        simp! [tBM, hqc]
        refine ⟨.inl ⟨rfl, _, .of eL⟩, ?_⟩
        refine compTS (H1 := Hc) qa (l.map V.int) (fun v => match v with | .int x => some (.str (strI x)) | _ => none) (fun Q2 h2 => by simp! []; exact h2) hqc (by rw [sizeLine_eq, List.length_map]; omega) ?_ ?_
        · intro x H4 R N hx S4 hR hN
          obtain ⟨z, hz, rfl⟩ := List.mem_map.mp hx
          simp! [capSt, tTrue]
          exact ⟨logB (nbp z hz), hR _ _ rfl (Same.refl _)⟩
        · intro D H4 nD S4 e4
          have em : (l.map V.int).filterMap (fun v => match v with | .int x => some (V.str (strI x)) | _ => none) = (l.map strI).map V.str := by
            rw [List.filterMap_map, List.map_map]
            show List.filterMap (some ∘ fun x => V.str (strI x)) l = _
            rw [List.filterMap_eq_map]; rfl
          rw [em] at e4
          have eL4 := S4 _ _ eL
          refine ⟨L, D, _, _, rfl, rfl, eL4, e4, by rw [sizeLine_eq, List.length_map, List.length_cons, List.length_map, List.length_map, List.length_map]; omega, upd_newS (fun c o e => S4 _ _ (Sc _ _ e)) nL, by rw [upd_ne tpL]; exact S4 _ _ ec, ?_⟩
          rw [upd_same, tk]
          simp [pOf]
    · rintro σ Hc ⟨v2, rfl, Sc, ec, eL⟩
      rw [lu, List.take_length] at eL
      subst hG
      obtain ⟨g1, g2⟩ := rowPs_len TR
      have sm := sums_le g1
      have m2 : (rowPs r).length * 61 ≤ 9 * 61 := Nat.mul_le_mul_right _ g2
      simp! [tBM]
      refine ⟨rfl, sp32, L, rowPs r, by rw [show Str.ofString " " = sp32 by decide], rfl, eL, ?_, ?_⟩
      · have e : sp32.length = 1 := rfl
        rw [e]; omega
      · have e : PySem.Txt.join sp32 (rowPs r) = rowTx r := StrLaws.glued_eq_join _ _
        rw [e]
        exact q Hc Sc

end
section
variable {P : Program} {w : World} {K : PySem.W.Frag} {mg : Str → Option Value} {base : Heap} {a : Ad}

def sp_shown : Sp := fun vs H Q _ => ∃ (pl : Addr) (das : List (Addr × Addr × List Addr)) (ds : List Df), vs = [.ref pl] ∧ ProgAt H pl das ds ∧ TxP ds ∧ ∀ H', Same H H' → Q (.str (progTx ds)) H'
theorem RowAt.same {H H' : Hp} {q : Addr} {r : Row} (S : Same H H') (h : RowAt H q r) : RowAt H' q r := h.fr (M := fun _ => False) (.of_same S)
theorem RowsOf.same {H H' : Hp} {rl : Addr} {rs : List Addr} {rws : List Row} (S : Same H H') (h : RowsOf H rl rs rws) : RowsOf H' rl rs rws := ⟨S _ _ h.top, h.len, fun i p r h1 h2 => (h.row i p r h1 h2).same S⟩
theorem ProgAt.same {H H' : Hp} {pl : Addr} {das : List (Addr × Addr × List Addr)} {ds : List Df} (S : Same H H') (h : ProgAt H pl das ds) : ProgAt H' pl das ds := ⟨S _ _ h.top, h.len, fun i a d h1 h2 => ⟨S _ _ (h.def_ i a d h1 h2).1, (h.def_ i a d h1 h2).2.same S⟩⟩
theorem lines_take {ds : List Df} {i : Nat} {d : Df} (h : ds[i]? = some d) : linesP (ds.take (i + 1)) = linesP (ds.take i) ++ linesD d := by
  show List.flatMap linesD _ = List.flatMap linesD _ ++ _
  rw [List.take_succ, h, List.flatMap_append]
  simp
theorem lines_le {ds : List Df} (h : TxP ds) (i : Nat) : (linesP (ds.take i)).length ≤ 328 := by
  have : (linesP (ds.take i)).length ≤ (linesP ds).length := by
    have e : linesP ds = linesP (ds.take i) ++ linesP (ds.drop i) := by
      show List.flatMap linesD _ = List.flatMap linesD _ ++ List.flatMap linesD _
      rw [← List.flatMap_append, List.take_append_drop]
    rw [e, List.length_append]; omega
  have := (progTx_len h).2.2
  omega
theorem def_eq (d : Df) : ("def " : Str) ++ tkTx d.1.1 ++ (" " : Str) ++ d.1.2 ++ (" " : Str) ++ Str.ofString (toString d.2.1) = defTx d := by
  unfold defTx defPs
  apply L2.str_eq_of
  have e : ∀ a b : Str, (a ++ b).cps.toList = a.cps.toList ++ b.cps.toList := fun a b => by show (a.cps ++ b.cps).toList = _; simp
  show _ = (Str.join ⟨#[32]⟩ _).cps.toList
  rw [L2.join_list]
  simp only [e, List.flatMap_cons, List.flatMap_nil, show ("def " : Str).cps.toList = [100, 101, 102, 32] by decide, show ("def" : Str).cps.toList = [100, 101, 102] by decide, show (" " : Str).cps.toList = [32] by decide]
  simp [strI]
set_option maxHeartbeats 2000000 in
theorem ok_shown (T : Txt K mg a) : FnOk P w K mg base (CX1 P w) 2 a.f_shown a.d_shown ["program"] sp_shown := by
  refine T.F_shown.okC sc_shown (fun vs H Q E h => ?_) (fun cdv A outer s H vs Q E hr h => ?_)
  · obtain ⟨pl, das, ds, rfl, _⟩ := h
    rfl
  · obtain ⟨pl, das, ds, rfl, PR, TP, q⟩ := h
    have hu := hu_of hr
    refine ⟨_, (pss_cons (ps_set (i := 1) sc_shown.nd (by rfl) (Or.inl rfl) (pe_lst pa_nil))
      (pss_cons (ps_for PassesOwn.never (by rfl) (pi_list (pv 0)) (pg_tup (n := 4) (by rfl) (pgs_cons (pg_name (i := 2) sc_shown.nd (by rfl) (Or.inl rfl)) (pgs_cons (pg_name (i := 3) sc_shown.nd (by rfl) (Or.inl rfl)) (pgs_cons (pg_name (i := 4) sc_shown.nd (by rfl) (Or.inl rfl)) (pgs_cons (pg_name (i := 5) sc_shown.nd (by rfl) (Or.inl rfl)) pgs_nil)))))
      (pss_cons (ps_set (i := 6) sc_shown.nd (by rfl) (Or.inl rfl) (pe_ifExp (pt_truth (pv 2) (fun _ => rfl)) (pv 2) pe_str))
      (pss_cons (ps_expr (pe_bm PySem.F.plainAttrs_list PySem.F.slot_list_append PySem.F.type_list_append mt_append (pv 1) (pa_cons (pe_fstr3 (by decide) (by decide) (by decide) (pv 6) (pv 3) (pv 4)) pa_nil)))
      (pss_one (ps_expr (pe_bm PySem.F.plainAttrs_list PySem.F.slot_list_extend PySem.F.type_list_extend mt_extend (pv 1) (pa_cons (pe_comp (N' := ["row"]) (cap := [none]) ⟨rfl, (by decide +kernel), (by decide +kernel), (by rfl), rfl, (by rfl)⟩ (by rfl) (pi_list (pv 5)) (fun C_ ex_ s_ H_ => (pg_name (i := 0) (show (["row"] : List Str).Nodup by decide +kernel) (by rfl) (Or.inl rfl))) gkp_name (fun C_ ex_ s_ H_ => pifs_nil) (fun C_ ex_ s_ H_ => (pe_call (ok_shown_row T) (by exact hr.mono (by decide)) (by rfl) T.m_shown_row T.F_shown_row.kp T.b_shown_row .nil pass1 (pa_cons (pv 0) pa_nil)))) pa_nil)))))))
      (pss_one (ps_ret (pe_bm PySem.F.plainAttrs_str PySem.F.slot_str_join PySem.F.type_str_join mt_join pe_str (pa_cons (pv 1) pa_nil)))))), ?_⟩
    have lp := PR.len
    generalize hG : tSeq (tFor _ _ _) _ = tail
    simp! []
    intro L nL
    have S1 : Same H (upd H L (.lst [])) := .laid nL
    have e1 : upd H L (.lst []) L = some (.lst []) := upd_same
    revert S1 e1
    generalize upd H L (.lst []) = H1
    intro S1 e1
    subst hG
    generalize hG : tRet _ = tail
    refine forL (H1 := H1) pl (das.map fun a => V.ref a.1) (fun Q2 h2 => by simp! []; exact h2) (fun i σ Hc => ∃ v2 v3 v4 v5 v6 : Option V, σ = [some (V.ref pl), some (V.ref L), v2, v3, v4, v5, v6] ∧ Same H Hc ∧ Hc L = some (.lst ((linesP (ds.take i)).map V.str))) ⟨_, _, _, _, _, rfl, S1, e1⟩ (fun i σ Hc _ ⟨_, _, _, _, _, _, Sc, _⟩ => .of (Sc _ _ PR.top)) ?_ ?_
    · rintro i x σ Hc hx ⟨v2, v3, v4, v5, v6, rfl, Sc, eL⟩
      obtain ⟨da, hda, rfl⟩ := of_map_get hx
      have il : i < ds.length := by rw [← lp]; exact (List.getElem?_eq_some_iff.mp hda).1
      obtain ⟨d, hd⟩ : ∃ d, ds[i]? = some d := ⟨_, List.getElem?_eq_getElem il⟩
      have TD := TP.ds d (List.mem_of_getElem? hd)
      obtain ⟨ht, RW⟩ := (PR.same Sc).def_ i da d hda hd
      have lk := lines_take hd
      have ll := lines_le TP i
      have rl := TD.rl
      refine gTup_of ht rfl ?_
      generalize hG2 : tSeq (tDrop (tBM _ _ _ _ _)) _ = tail2
      have key : ∀ D : Ends, (∀ σ Hc, (∃ v2 v3 v4 v5 v6 : Option V, σ = [some (V.ref pl), some (V.ref L), v2, v3, v4, v5, v6] ∧ Same H Hc ∧ Hc L = some (.lst ((linesP (ds.take (i + 1))).map V.str))) → D.nx σ Hc) → tail2 D [some (V.ref pl), some (V.ref L), some (V.str d.1.1), some (V.str d.1.2), some (V.int d.2.1), some (V.ref da.2.1), some (V.str (tkTx d.1.1))] Hc := by
        intro D hD
        subst hG2
        have tl := tkTx_len TD.tl
        have gl : d.1.2.length ≤ 10000 := by rcases TD.gv with e | e <;> rw [e] <;> decide
        simp! [tBM, tFstr3]
        refine ⟨.inl ⟨rfl, _, .of eL⟩, by omega, gl, logB TD.wd, L, _, _, rfl, rfl, eL, by rw [sizeLine_eq, List.length_map]; omega, ?_⟩
        rw [def_eq]
        have S2 : Same H (upd Hc L (.lst ((linesP (ds.take i)).map V.str ++ [V.str (defTx d)]))) := upd_newS (fun c o e => Sc _ _ e) nL
        have eL2 : upd Hc L (.lst ((linesP (ds.take i)).map V.str ++ [V.str (defTx d)])) L = some (.lst ((linesP (ds.take i)).map V.str ++ [V.str (defTx d)])) := upd_same
        revert S2 eL2
        generalize upd Hc L (.lst ((linesP (ds.take i)).map V.str ++ [V.str (defTx d)])) = H2
        intro S2 eL2
        obtain ⟨ht2, RW2⟩ := (PR.same S2).def_ i da d hda hd
        refine ⟨.inl ⟨rfl, _, .of eL2⟩, ?_⟩
        refine compL (H1 := H2) da.2.1 (da.2.2.map V.ref) (fun Q2 h2 => by simp! []; exact h2) (.of RW2.top) (fun D j ys H3 => ys = ((d.2.2.take j).map rowTx).map V.str ∧ Same H2 H3 ∧ H3 D = some (.lst ys)) (fun D nD => ⟨rfl, .laid nD, upd_same⟩) ?_ (by rw [sizeLine_eq, List.length_map, RW2.len]; omega) ?_ ?_
        · rintro D nD j ys H3 hj ⟨rfl, S3, hD3⟩
          exact ⟨.of (S3 _ _ RW2.top), hD3, by rw [List.length_map, List.length_map, List.length_take]; omega⟩
        · rintro D nD j x ys H3 hx ⟨rfl, S3, hD3⟩
          obtain ⟨rp, hrp, rfl⟩ := of_map_get hx
          obtain ⟨r, hr0⟩ : ∃ r, d.2.2[j]? = some r := ⟨_, List.getElem?_eq_getElem (by rw [← RW2.len]; exact (List.getElem?_eq_some_iff.mp hrp).1)⟩
          simp! [capSt, tTrue]
          refine ⟨rp, r, rfl, (RW2.row j rp r hrp hr0).same S3, TD.rs r (List.mem_of_getElem? hr0), fun H4 S4 => ⟨S4 _ _ hD3, ?_, upd_newS (fun c o e => S4 _ _ (S3 _ _ e)) nD⟩⟩
          rw [List.take_succ, hr0]
          simp
        · rintro D nD ys H3 ⟨rfl, S3, hD3⟩
          rw [List.length_map, RW2.len, List.take_length] at hD3
          refine ⟨L, D, _, _, rfl, rfl, S3 _ _ eL2, hD3, by rw [sizeLine_eq, List.length_append, List.length_map, List.length_map, List.length_map]; simp; omega, ?_⟩
          refine hD _ _ ⟨_, _, _, _, _, rfl, upd_newS (fun c o e => S3 _ _ (S2 _ _ e)) nL, ?_⟩
          rw [upd_same, lk]
          simp [linesD]
      simp! []
      have tl := TD.tl
      by_cases ce : d.1.1 = ""
      · refine ⟨false, ⟨by rw [sizeLine_eq, len_def]; omega, by rw [ce]; rfl⟩, ?_⟩
        rw [if_neg (by simp)]
        have e : tkTx d.1.1 = Str.ofString "-" := by unfold tkTx; rw [if_pos ce]
        rw [e] at key
        exact key _ fun σ Hc h => h
      · refine ⟨true, ⟨by rw [sizeLine_eq, len_def]; omega, ?_⟩, ?_⟩
        · have : d.1.1.length ≠ 0 := fun z => ce (L2.str_eq_of (by rw [len_def, ← Array.length_toList] at z; rw [List.eq_nil_of_length_eq_zero z]; rfl))
          rw [eq_comm, bne_iff_ne]
          omega
        · rw [if_pos rfl]
          have e : tkTx d.1.1 = d.1.1 := by unfold tkTx; rw [if_neg ce]
          rw [e] at key
          exact key _ fun σ Hc h => h
    · rintro σ Hc ⟨v2, v3, v4, v5, v6, rfl, Sc, eL⟩
      rw [List.length_map, lp, List.take_length] at eL
      subst hG
      obtain ⟨g1, g2, g3⟩ := progTx_len TP
      simp! [tBM]
      refine ⟨rfl, nl10, L, linesP ds, by rw [show Str.ofString "\n" = nl10 by decide], rfl, eL, g2, ?_⟩
      have e : PySem.Txt.join nl10 (linesP ds) = progTx ds := StrLaws.glued_eq_join _ _
      rw [e]
      exact q Hc Sc

end
section
variable {P : Program} {w : World} {K : PySem.W.Frag} {mg : Str → Option Value} {base : Heap} {a : Ad}
theorem inV_strs {s : Str} : ∀ {l : List Str}, inV (.str s) (l.map V.str) = decide (s ∈ l)
  | [] => by simp [inV]
  | x :: l => by
    have ih := inV_strs (s := s) (l := l)
    unfold inV at ih ⊢
    rw [List.map_cons, List.any_cons, ih]
    show ((x == s) || decide (s ∈ l)) = _
    rw [Bool.eq_iff_iff, Bool.or_eq_true, beq_iff_eq, decide_eq_true_eq, decide_eq_true_eq, List.mem_cons]
    exact ⟨fun h => h.imp Eq.symm id, fun h => h.imp Eq.symm id⟩
theorem in_words {ws : List Str} {s : Str} {neg : Bool} {p : Addr} {H : Hp} {Q : VK} (h : SqL K H p (ws.map V.str) ∨ SqT K H p (ws.map V.str)) (q : Q (.bl (if neg then !decide (s ∈ ws) else decide (s ∈ ws))) H) : rIn K neg (.str s) (.ref p) H Q := by
  refine ⟨p, ws.map V.str, rfl, h, rfl, ?_, by rw [inV_strs]; exact q⟩
  rw [List.all_map]
  exact List.all_eq_true.mpr fun x _ => rfl
def pcode (c : Nat) : Nat := if c = 105 then 110 else c
def plS (s : Str) : Str := ⟨s.cps.map pcode⟩
theorem datum_lw (w : Str) : ∀ l : List (Str × Str), PyProof.Rows.KTD.datumAt w (l.map fun p => (p.1, V.str (plS p.2))) = (l.lookup w).map fun s => V.str (plS s)
  | [] => rfl
  | (k, s) :: r => by
    rw [List.map_cons, List.lookup_cons]
    simp only [PyProof.Rows.KTD.datumAt]
    by_cases c : w = k
    · subst c
      simp
    · rw [if_neg (by simpa using c), datum_lw w r, beq_eq_false_iff_ne.mpr c]
def partsD (p : Str × Str) : PyData × PyData := (.str p.1, .str (plS p.2))
def PT : List (Str × Str) := [("put", "pn"), ("nil", "p"), ("copy", "pp"), ("plus", "ppp"), ("less", "ppp"), ("make", "pkk"), ("fetch", "ppk"), ("read", "ppk"), ("hang", "pkp"), ("write", "pkp"), ("into", "ppk"), ("look", "ppp"), ("lay", "ppp"), ("jump", "t"), ("zero", "pt"), ("none", "pt"), ("same", "ppt"), ("call", "pfq"), ("back", "p"), ("tell", "p"), ("rest", "")]
theorem PT_eq : PT = LW.map fun p => (p.1, plS p.2) := by decide +kernel
theorem kd_parts_eq : kd_PARTS = .dict (LW.map partsD) := by
  have e : LW.map partsD = PT.map fun p => (.str p.1, .str p.2) := by
    rw [PT_eq, List.map_map]
    rfl
  rw [e]
  rfl
def wordV (w : Str) : V := match LW.lookup w with
  | none => .non
  | some s => .str (plS s)
def sp_parts : Sp := fun vs H Q _ => ∃ w, vs = [.str w] ∧ Q (wordV w) H
set_option maxHeartbeats 1000000 in
theorem ok_parts_of (T : Txt K mg a) : FnOk P w K mg base (CX1 P w) 1 a.f_parts_of a.d_parts_of ["word"] sp_parts := by
  refine T.F_parts_of.okC sc_parts_of (fun vs H Q E h => ?_) (fun cdv A outer s H vs Q E hr h => ?_)
  · obtain ⟨v, rfl, _⟩ := h
    rfl
  · obtain ⟨wd, rfl, q⟩ := h
    have hu := hu_of hr
    refine ⟨_, (pss_one (ps_ret (pe_kget1 (K := K) (by rfl) (pe_glob (v := .ref a.g_PARTS) (by rfl) T.m_PARTS (by rfl)) (pv 0) ⟨rfl, rfl, rfl, rfl⟩))), ?_⟩
    have hK := rdK_ref T.k_PARTS
    rw [kd_parts_eq] at hK
    cases hK with
    | dct g1 g2 g3 g4 =>
      rename_i D0
      have eD : D0 = LW.map fun p => (p.1, V.str (plS p.2)) := by
        apply List.ext_getElem?
        intro i
        rw [List.length_map] at g2
        by_cases c : i < LW.length
        · have hd := List.getElem?_eq_getElem (l := D0) (i := i) (by omega)
          have hl := List.getElem?_eq_getElem c
          have m1 : (LW.map partsD)[i]? = some (partsD LW[i]) := by rw [List.getElem?_map, hl]; rfl
          have k1 := g3 i _ _ hd m1
          have k2 := g4 i _ _ hd m1
          rw [hd, List.getElem?_map, hl]
          revert k1 k2
          generalize D0[i] = d
          obtain ⟨d1, d2⟩ := d
          intro k1 k2
          have k1' : LW[i].1 = d1 := PyData.str.inj k1
          have k2' : KRp K d2 (.str (plS LW[i].2)) := k2
          cases k2'
          rw [← k1']
          rfl
        · rw [List.getElem?_eq_none (by omega), List.getElem?_eq_none (by rw [List.length_map]; omega)]
      subst eD
      simp only [tRet, tKGet1, tC, tVar]
      refine ⟨_, _, rfl, g1, ?_⟩
      simp! []
      rw [datum_lw]
      have e : (Option.map (fun s => V.str (plS s)) (LW.lookup wd)).getD V.non = wordV wd := by
        unfold wordV
        cases LW.lookup wd <;> rfl
      rw [e]
      exact q

theorem wordV_ok : ∀ p ∈ LW, wordV p.1 = .str (plS p.2) ∧ (plS p.2).cps.size = p.2.cps.size := by
  have : ∀ p ∈ LW, LW.lookup p.1 = some p.2 ∧ (plS p.2).cps.size = p.2.cps.size := by decide +kernel
  intro p hp
  obtain ⟨h1, h2⟩ := this p hp
  exact ⟨by unfold wordV; rw [h1], h2⟩
instance (c : Nat) : Decidable (NH c) := inferInstanceAs (Decidable (_ ∨ _))
theorem nh_in (c : Nat) : (!(Builtin.Str.occurrences ("nh" : Str) { cps := #[c] } 0 ("nh" : Str).length 1).isEmpty) = decide (NH c) := by
  rw [PyProof.Rows.empty_one, Bool.not_not]
  have e : ("nh" : Str).cps.toList = [110, 104] := by decide
  rw [e, Bool.eq_iff_iff, decide_eq_true_eq, decide_eq_true_eq]
  simp [NH]

theorem tkTx_no {z : Str} (h : z ≠ "-") (h2 : z = "" ∨ ¬ ∀ c ∈ z.cps.toList, NH c) : ∀ y : Str, (∀ c ∈ y.cps.toList, NH c) → z ≠ tkTx y := by
  intro y hy e
  unfold tkTx at e
  split at e
  · exact h e
  · rename_i ne
    subst e
    rcases h2 with h2 | h2
    · exact ne h2
    · exact h2 hy
def sp_rtakes (X : Addr) : Sp := fun vs H Q E => ∃ (z : Str), vs = [.str z] ∧ Asc z ∧ z.length ≤ 2000000 ∧ (∀ y : Str, (∀ c ∈ y.cps.toList, NH c) → z = tkTx y → ∀ H', Same H H' → Q (.str y) H') ∧ ((∀ y : Str, (∀ c ∈ y.cps.toList, NH c) → z ≠ tkTx y) → ∀ H', Same H H' → E (.ref X) none H')
set_option maxHeartbeats 2000000 in
theorem ok_read_takes (T : Txt K mg a) : FnOk P w K mg base (CX1 P w) 1 a.f_read_takes a.d_read_takes ["part"] (sp_rtakes a.c_NoText) := by
  refine T.F_read_takes.okX sc_read_takes (fun vs H Q E h => ?_) (fun cdv A outer s H vs Q E hr h => ?_)
  · obtain ⟨z, rfl, _⟩ := h
    rfl
  · obtain ⟨z, rfl, az, zl, q, qn⟩ := h
    have hu := hu_of hr
    refine ⟨_, (pss_cons (ps_if (pt_cmpR op_eq (pv 0) pe_str (nomark _)) (pss_one (ps_ret pe_str)) pss_nil)
      (pss_cons (ps_if (PW.pt (pw_or (pt_cmpR op_eq (pv 0) pe_str (nomark _)) (pw_or1 (pt_not (pt_val (pe_callB (call_all (by rfl)) (by rfl) T.z_all (by decide +kernel) (pa_cons (pe_comp (N' := ["letter"]) (cap := [none]) ⟨rfl, (by decide +kernel), (by decide +kernel), (by rfl), rfl, (by rfl)⟩ (by rfl) (pi_str (pv 0)) (fun C_ ex_ s_ H_ => (pg_name (i := 0) (show (["letter"] : List Str).Nodup by decide +kernel) (by rfl) (Or.inl rfl))) gkp_name (fun C_ ex_ s_ H_ => pifs_nil) (fun C_ ex_ s_ H_ => (pe_cmpR op_in_str (pv 0) pe_str (by with_unfolding_all rfl)))) pa_nil))))))) (pss_one (ps_raise (by rfl) T.x_NoText (by rfl) T.m_NoText flies_cx (pa_cons (pe_fstrRB (by decide) (pv 0)) pa_nil))) pss_nil)
      (pss_one (ps_ret (pv 0))))), ?_⟩
    by_cases c : z = "-"
    · rw [c]
      simp! []
      exact q "" (fun c hc => by simp [show ("" : Str).cps.toList = [] by decide] at hc) (by rw [c]; rfl) H (Same.refl _)
    · have bad : ∀ H2, Same H H2 → (z = "" ∨ ¬ ∀ c ∈ z.cps.toList, NH c) → tFstrRB (tVar 0) [some (.str z)] H2 (fun _ H3 => E (.ref a.c_NoText) none H3) := fun H2 S2 n => by
        simp! [tFstrRB]
        exact ⟨az, by omega, fun _ => qn (tkTx_no c n) _ S2⟩
      simp! []
      rw [if_neg (by simpa using c)]
      by_cases c2 : z = ""
      · rw [if_pos (by simpa using c2)]
        exact bad _ (Same.refl _) (.inl c2)
      rw [if_neg (by simpa using c2)]
      refine compSS z (fun c => some (.bl (decide (NH c)))) (fun Q2 h2 => by simp! []; exact h2) az (by rw [sizeLine_eq, ← len_def]; omega) ?_ ?_
      · intro c H2 R N hc S hR hN
        have fi := nh_in c
        simp! [tTrue, capSt]
        rw [fi]
        exact hR _ _ rfl (Same.refl _)
      · intro D H2 hD S e
        have em : z.cps.toList.filterMap (fun c => some (V.bl (decide (NH c)))) = (z.cps.toList.map fun c => decide (NH c)).map V.bl := by
          rw [List.map_map]
          show List.filterMap (some ∘ _) _ = _
          rw [List.filterMap_eq_map]
          rfl
        rw [em] at e
        refine ⟨D, rfl, _, by rw [e]; rfl, by rw [e]; rfl, ?_⟩
        by_cases al : ∀ c ∈ z.cps.toList, NH c
        · rw [if_neg (by
            rw [Bool.not_eq_false]
            exact List.all_eq_true.mpr fun b hb => by
              obtain ⟨x, hx, rfl⟩ := List.mem_map.mp hb
              exact decide_eq_true (al x hx))]
          exact q z al (by unfold tkTx; rw [if_neg c2]) H2 S
        · rw [if_pos (by
            cases eb : (z.cps.toList.map fun c => decide (NH c)).all id with
            | false => rfl
            | true => exact absurd (fun x hx => of_decide_eq_true (List.all_eq_true.mp eb _ (List.mem_map.mpr ⟨x, hx, rfl⟩))) al)]
          exact bad _ S (.inr al)
def sp_rhead (X : Addr) : Sp := fun vs H Q E => ∃ (l : Addr) (zs : List Str), vs = [.ref l] ∧ H l = some (.lst (zs.map V.str)) ∧ zs.length ≤ 2000000 ∧ (∀ z ∈ zs, Asc z ∧ z.length ≤ 2000000) ∧ zs.head? = some ("def" : Str) ∧
  (∀ d : Df, GxD d → d.2.2 = [] → zs = defPs d → ∀ (t rl : Addr) (H' : Hp), Same H H' → H t = none → H rl = none → t ≠ rl → H' t = some (.tup [.str d.1.1, .str d.1.2, .int d.2.1, .ref rl]) → H' rl = some (.lst []) → Q (.ref t) H') ∧
  ((∀ d : Df, GxD d → zs ≠ defPs d) → ∀ H', Same H H' → E (.ref X) none H')
set_option maxHeartbeats 2000000 in
theorem ok_read_head (T : Txt K mg a) : FnOk P w K mg base (CX1 P w) 2 a.f_read_head a.d_read_head ["parts"] (sp_rhead a.c_NoText) := by
  refine T.F_read_head.okX sc_read_head (fun vs H Q E h => ?_) (fun cdv A outer s H vs Q E hr h => ?_)
  · obtain ⟨l, d, rfl, _⟩ := h
    rfl
  · obtain ⟨l, zs, rfl, hl, ll, hz, hd, q, qn⟩ := h
    have hu := hu_of hr
    refine ⟨_, (pss_cons (ps_if (pt_cmpR op_ne (pe_callB call_lenF (by rfl) T.z_len (by decide +kernel) (pa_cons (pv 0) pa_nil)) pe_int (nomark _)) (pss_one (ps_raise (by rfl) T.x_NoText (by rfl) T.m_NoText flies_cx (pa_cons pe_str pa_nil))) pss_nil)
      (pss_cons (ps_set (i := 1) sc_read_head.nd (by rfl) (Or.inl rfl) (pe_ix ix_F (pv 0) pe_int (fun _ _ => rfl)))
      (pss_cons (ps_if (pt_cmpR op_notIn_seq (pv 1) (pe_tup (pa_cons pe_str (pa_cons pe_str pa_nil))) (by with_unfolding_all rfl)) (pss_one (ps_raise (by rfl) T.x_NoText (by rfl) T.m_NoText flies_cx (pa_cons (pe_fstrRB (by decide) (pv 1)) pa_nil))) pss_nil)
      (pss_one (ps_ret (pe_tup (pa_cons (pe_call (ok_read_takes T) (hr.mono (by decide)) (by rfl) T.m_read_takes T.F_read_takes.kp T.b_read_takes .nil passes_cx (pa_cons (pe_ix ix_F (pv 0) pe_int (fun _ _ => rfl)) pa_nil)) (pa_cons (pv 1) (pa_cons (pe_call (ok_read_whole T) (hr.mono (by decide)) (by rfl) T.m_read_whole T.F_read_whole.kp T.b_read_whole .nil passes_cx (pa_cons (pe_ix ix_F (pv 0) pe_int (fun _ _ => rfl)) (pa_cons (pe_glob (v := .int (60)) (by rfl) T.m_MOST_FIGURES ⟨_, rfl⟩) pa_nil))) (pa_cons (pe_lst pa_nil) pa_nil)))))))))), ?_⟩
    by_cases c4 : zs.length = 4
    rotate_left
    · simp! [hl]
      rw [if_pos (by rw [List.length_map]; omega)]
      exact qn (fun d _ e => c4 (by rw [e]; rfl)) _ (Same.refl _)
    match zs, c4 with
    | [z0, z1, z2, z3], _ =>
    have e0 : z0 = "def" := by simpa using hd
    subst e0
    clear hd ll
    have hz1 := hz z1 (by simp)
    have hz2 := hz z2 (by simp)
    have hz3 := hz z3 (by simp)
    clear hz
    have hl : H l = some (.lst [V.str ("def" : Str), V.str z1, V.str z2, V.str z3]) := hl
    simp! [hl]
    rw [if_neg (fun h => h rfl)]
    intro p1 n1
    have S1 : Same H (upd H p1 (.tup [V.str (Str.ofString "n"), V.str (Str.ofString "h")])) := .laid n1
    refine in_words (ws := ["n", "h"]) (.inr (.of upd_same)) ⟨_, rfl, ?_⟩
    rw [if_pos rfl]
    revert S1
    generalize upd H p1 (.tup [V.str (Str.ofString "n"), V.str (Str.ofString "h")]) = H1
    intro S1
    by_cases gm : z2 ∈ (["n", "h"] : List Str)
    rotate_left
    · rw [decide_eq_false gm, if_pos (by simp)]
      simp! [tFstrRB]
      exact ⟨hz2.1, by omega, fun _ => qn (fun d D e => gm (by
        simp only [defPs, List.cons.injEq, and_true, true_and] at e
        rw [e.2.1]
        rcases D.gv with e | e <;> rw [e] <;> decide)) _ S1⟩
    rw [decide_eq_true gm, if_neg (by simp)]
    have gv : z2 = ⟨#[110]⟩ ∨ z2 = ⟨#[104]⟩ := by
      rcases List.mem_cons.mp gm with e | e
      · left; rw [e]; decide
      · right; rw [List.mem_singleton.mp e]; decide
    have hl1 := S1 _ _ hl
    simp! [hl1]
    refine ⟨z1, rfl, hz1.1, hz1.2, fun y hy e1 H2 S2 => ?_, fun no H2 S2 => ?_⟩
    rotate_left
    · exact qn (fun d D e => no d.1.1 D.tk (by simp only [defPs, List.cons.injEq, and_true, true_and] at e; exact e.1)) _ (S1.trans S2)
    have hl2 := S2 _ _ hl1
    simp! [hl2]
    refine ⟨z3, 60, rfl, hz3.1, by omega, by decide, by decide, fun n H3 S3 => ?_, fun ok n H3 en S3 => ?_⟩
    · exact qn (fun d D e => n (by simp only [defPs, List.cons.injEq, and_true, true_and] at e; rw [e.2.2]; exact (strI_ok D.wd).1)) _ ((S1.trans S2).trans S3)
    obtain ⟨nb, es⟩ := okT_strI ok en
    intro rl nrl t nt
    have S13 := (S1.trans S2).trans S3
    exact q ((y, z2), n, []) ⟨hy, gv, nb, fun r hr => by cases hr⟩ rfl (by rw [e1, es]; rfl) t rl _ ((S13.step nrl).step nt) ((S13.step nrl).free nt) (S13.free nrl) (fun e => by rw [e, upd_same] at nt; cases nt) upd_same (upd_old upd_same nt)

end
section
variable {P : Program} {w : World} {K : PySem.W.Frag} {mg : Str → Option Value} {base : Heap} {a : Ad}
theorem LW_mem {w s : Str} : ∀ {l : List (Str × Str)}, l.lookup w = some s → (w, s) ∈ l
  | [], h => by simp at h
  | (k, x) :: l, h => by
    rw [List.lookup_cons] at h
    split at h
    · rename_i e
      cases h
      rw [eq_of_beq e]
      exact List.mem_cons_self
    · exact List.mem_cons_of_mem _ (LW_mem h)

theorem LW_look : ∀ p ∈ LW, LW.lookup p.1 = some p.2 := by decide +kernel
theorem inls_len {r : Row} (h : GxR r) : (partsI r).length = (if r.1 = "call" then (partsI r).length else r.2.length) ∧ (r.1 = "call" → 2 ≤ (partsI r).length) := by
  by_cases c : r.1 = "call"
  · rw [if_pos c]
    obtain ⟨p, g, l, e⟩ := h.c c
    refine ⟨rfl, fun _ => ?_⟩
    unfold partsI
    rw [e]
    simp [pOf]
  · rw [if_neg c]
    obtain ⟨ls, m, hw⟩ := h.w
    obtain ⟨_, l2⟩ := hw c
    have : ∀ ps : List Part, (∀ x ∈ ps, ∃ i, x = .inl i) → (ps.flatMap pOf).length = ps.length := by
      intro ps
      induction ps with
      | nil => intro _; rfl
      | cons p ps ih =>
        intro h
        obtain ⟨i, rfl⟩ := h p (by simp)
        rw [List.flatMap_cons, List.length_append, ih fun x hx => h x (by simp [hx])]
        simp [pOf]; omega
    exact ⟨this _ l2, fun z => absurd z c⟩
def sp_rrow (X : Addr) : Sp := fun vs H Q E => ∃ (l : Addr) (zs : List Str), vs = [.ref l] ∧ H l = some (.lst (zs.map V.str)) ∧ zs ≠ [] ∧ zs.length ≤ 2000000 ∧ (∀ z ∈ zs, Asc z ∧ z.length ≤ 2000000) ∧
  (∀ r : Row, GxR r → zs = rowPs r → ∀ (t : Addr) (H' : Hp), Same H H' → RowAt H' t r → Q (.ref t) H') ∧ ((∀ r : Row, GxR r → zs ≠ rowPs r) → ∀ H', Same H H' → E (.ref X) none H')
set_option maxHeartbeats 4000000 in
theorem ok_read_row (T : Txt K mg a) : FnOk P w K mg base (CX1 P w) 2 a.f_read_row a.d_read_row ["parts"] (sp_rrow a.c_NoText) := by
  refine T.F_read_row.okX sc_read_row (fun vs H Q E h => ?_) (fun cdv A outer s H vs Q E hr h => ?_)
  · obtain ⟨l, r, rfl, _⟩ := h
    rfl
  · obtain ⟨l, zs, rfl, hl, z0, zl, hz, q, qn⟩ := h
    have hu := hu_of hr
    refine ⟨_, (pss_cons (ps_set (i := 1) sc_read_row.nd (by rfl) (Or.inl rfl) (pe_ix ix_F (pv 0) pe_int (fun _ _ => rfl)))
      (pss_cons (ps_set (i := 2) sc_read_row.nd (by rfl) (Or.inl rfl) (pe_call (ok_parts_of T) (hr.mono (by decide)) (by rfl) T.m_parts_of T.F_parts_of.kp T.b_parts_of .nil passes_cx (pa_cons (pv 1) pa_nil)))
      (pss_cons (ps_if (pt_cmp (pc_isN (pv 2))) (pss_one (ps_raise (by rfl) T.x_NoText (by rfl) T.m_NoText flies_cx (pa_cons (pe_fstrRB (by decide) (pv 1)) pa_nil))) pss_nil)
      (pss_cons (ps_setcX (i := 3) sc_read_row.nd (by rfl) (Or.inl rfl) (E0 := E) (N' := ["part"]) (cap := [none]) ⟨rfl, (by decide +kernel), (by decide +kernel), (by rfl), rfl, (by rfl)⟩ (by rfl) (pi_list (pe_slice sl_list (pv 0) (po_some pe_int) po_none)) (fun C_ ex_ s_ H_ W_ => (pg_name (i := 0) (show (["part"] : List Str).Nodup by decide +kernel) (by rfl) (Or.inl rfl))) gkp_name (fun C_ ex_ s_ H_ W_ => pifs_nil) (fun C_ ex_ s_ H_ W_ hp_ => (pe_call (ok_read_whole T) (by exact hr.mono (by decide)) (by rfl) T.m_read_whole T.F_read_whole.kp T.b_read_whole .nil hp_ (pa_cons (pv 0) (pa_cons (pe_glob (v := .int (60)) (by rfl) T.m_MOST_FIGURES ⟨_, rfl⟩) pa_nil)))) passesT_cx)
      (pss_cons (ps_if (PW.pt (pw_and (pt_cmpR op_eq (pv 1) pe_str (nomark _)) (pw_and1 (pt_cmpR op_ge (pe_callB call_lenF (by rfl) T.z_len (by decide +kernel) (pa_cons (pv 3) pa_nil)) pe_int (nomark _))))) (pss_one (ps_ret (pe_tup (pa_cons (pv 1) (pa_cons (pe_ix ix_F (pv 3) pe_int (fun _ _ => rfl)) (pa_cons (pe_ix ix_F (pv 3) pe_int (fun _ _ => rfl)) (pa_cons (pe_callTy call_tuple_of (by rfl) T.z_tuple (by decide +kernel) (pa_cons (pe_slice sl_list (pv 3) (po_some pe_int) po_none) pa_nil)) pa_nil))))))) pss_nil)
      (pss_cons (ps_if (PW.pt (pw_or (pt_cmpR op_eq (pv 1) pe_str (nomark _)) (pw_or1 (pt_cmpR op_ne (pe_callB call_lenF (by rfl) T.z_len (by decide +kernel) (pa_cons (pv 3) pa_nil)) (pe_callB call_lenF (by rfl) T.z_len (by decide +kernel) (pa_cons (pv 2) pa_nil)) (nomark _))))) (pss_one (ps_raise (by rfl) T.x_NoText (by rfl) T.m_NoText flies_cx (pa_cons (pe_fstrSC (by decide) (by decide) (pv 1)) pa_nil))) pss_nil)
      (pss_one (ps_ret (pe_callTy call_tuple_of (by rfl) T.z_tuple (by decide +kernel) (pa_cons (pe_op op_cat (pe_lst (pa_cons (pv 1) pa_nil)) (pv 3)) pa_nil)))))))))), ?_⟩
    match zs, z0 with
    | wd :: ns, _ =>
    have hwd := hz wd (by simp)
    have hns : ∀ z ∈ ns, Asc z ∧ z.length ≤ 2000000 := fun z h => hz z (by simp [h])
    have hl : H l = some (.lst (V.str wd :: ns.map V.str)) := hl
    have nl : ns.length ≤ 2000000 := by rw [List.length_cons] at zl; omega
    clear hz zl
    generalize hG : tSeq (tAsg (tComp _ _ _ _ _) _) _ = tail
    simp! [hl]
    refine ⟨wd, rfl, ?_⟩
    cases hk : LW.lookup wd with
    | none =>
      have ew : wordV wd = .non := by unfold wordV; rw [hk]
      rw [ew]
      simp! [tFstrRB]
      refine ⟨hwd.1, by omega, fun _ => qn (fun r R e => ?_) _ (Same.refl _)⟩
      obtain ⟨ls, m, _⟩ := R.w
      have e1 : wd = r.1 := by simp only [rowPs, List.cons.injEq] at e; exact e.1
      have := LW_look _ m
      rw [← e1, hk] at this
      cases this
    | some ls =>
    have ml := LW_mem hk
    have ew : wordV wd = .str (plS ls) := by unfold wordV; rw [hk]
    have w2 : (plS ls).cps.size = ls.cps.size := (wordV_ok _ ml).2
    have lu : ∀ ls', (wd, ls') ∈ LW → ls' = ls := fun ls' h => by
      have := LW_look _ h
      rw [hk] at this
      exact (Option.some.inj this).symm
    rw [ew]
    simp! []
    subst hG
    generalize hG : tSeq (tIfS _ _ _) _ = tail
    simp! []
    refine compL_ (fun sl H2 => Same H H2 ∧ H2 sl = some (.lst (ns.map V.str))) (fun Q2 hQ => ?_) ?_
    · simp! [tSl, tNoPart, tPart, rSlL]
      refine ⟨_, .of hl, fun sl nsl => ?_⟩
      have ec : cutV (V.str wd :: ns.map V.str) (some 1) none = ns.map V.str := cut_from (V.str wd :: ns.map V.str) 1
      rw [ec] at *
      exact hQ sl _ ⟨.laid nsl, upd_same⟩
    rintro sl H2 ⟨S2, e2⟩
    refine compL (H1 := H2) sl (ns.map V.str) (fun Q2 h2 => h2) (.of e2) (fun D j ys H3 => ∃ ms : List Int, ys = ms.map V.int ∧ ns.take j = ms.map strI ∧ (∀ m ∈ ms, NumB m) ∧ Same H2 H3 ∧ H3 D = some (.lst ys)) (fun D nD => ⟨[], rfl, rfl, by simp, .laid nD, upd_same⟩) ?_ (by rw [sizeLine_eq, List.length_map]; omega) ?_ ?_
    · rintro D nD j ys H3 hj ⟨ms, rfl, em, _, S3, hD3⟩
      have := congrArg List.length em
      rw [List.length_take, List.length_map] at this
      exact ⟨.of (S3 _ _ e2), hD3, by rw [List.length_map]; omega⟩
    · rintro D nD j x ys H3 hx ⟨ms, rfl, em, bm, S3, hD3⟩
      obtain ⟨z, hz, rfl⟩ := of_map_get hx
      have hzm := List.mem_of_getElem? hz
      simp! [capSt, tTrue]
      refine ⟨z, 60, rfl, (hns z hzm).1, (hns z hzm).2, by decide, by decide, fun c H4 S4 => qn (fun r R e => c ?_) _ ((S2.trans S3).trans S4), fun ok n H4 en S4 => ?_⟩
      · have e1 : ns = (partsI r).map strI := by simp only [rowPs, List.cons.injEq] at e; exact e.2
        rw [e1] at hzm
        obtain ⟨i, hi, rfl⟩ := List.mem_map.mp hzm
        exact (strI_ok (R.nb i hi)).1
      · obtain ⟨nb, es⟩ := okT_strI ok en
        refine ⟨S4 _ _ hD3, ms ++ [n], by rw [List.map_append]; rfl, by rw [List.take_succ, hz, em, List.map_append, es]; rfl, fun m hm => ?_, upd_newS (fun c o e => S4 _ _ (S3 _ _ e)) nD⟩
        rcases List.mem_append.mp hm with h | h
        · exact bm m h
        · rw [List.mem_singleton.mp h]; exact nb
    rintro D nD ys H3 ⟨ms, rfl, em, bm, S3, hD3⟩
    rw [List.length_map, List.take_length] at em
    subst em
    have ml2 : ms.length ≤ 2000000 := by rw [List.length_map] at nl; exact nl
    have S3 := S2.trans S3
    subst hG
    by_cases c : wd = "call"
    · subst c
      by_cases c2 : 2 ≤ ms.length
      · match ms, c2 with
        | p :: g :: lq, _ =>
        simp! [hD3]
        rw [if_pos (by omega)]
        simp! [tSl, tNoPart, tPart, rSlL]
        refine ⟨_, .of hD3, fun s2 ns2 => ?_⟩
        have ec : cutV (List.map V.int (p :: g :: lq)) (some 2) none = lq.map V.int := cut_from (V.int p :: V.int g :: lq.map V.int) 2
        rw [ec]
        refine ⟨lq.map V.int, .inl ⟨.of upd_same, fun t1 n1 t2 n2 => ?_⟩⟩
        have S4 := ((S3.step ns2 (u := .lst (lq.map V.int))).step n1 (u := .tup (lq.map V.int))).step n2 (u := .tup [V.str (Str.ofString "call"), V.int p, V.int g, V.ref t1])
        refine q ("call", [.inl p, .inl g, .inr lq]) ⟨⟨ls, ml, fun z => absurd rfl z⟩, fun _ => ⟨p, g, lq, rfl⟩, fun i hi => bm i (by simpa [partsI, pOf] using hi)⟩ (by simp [rowPs, partsI, pOf]) t2 _ S4 ⟨[V.int p, V.int g, V.ref t1], by rw [upd_same], rfl, fun i v pt h1 h2 => ?_⟩
        match i, h1, h2 with
        | 0, h1, h2 => cases h1; cases h2; rfl
        | 1, h1, h2 => cases h1; cases h2; rfl
        | 2, h1, h2 => cases h1; cases h2; exact ⟨t1, rfl, upd_old upd_same n2⟩
        | i + 3, h1, h2 => simp at h1
      · simp! [hD3]
        rw [if_neg (by rw [List.length_map]; omega)]
        simp! [tFstrSC]
        refine ⟨by decide, fun _ => qn (fun r R e => c2 ?_) _ S3⟩
        simp only [rowPs, List.cons.injEq] at e
        have := (inls_len R).2 e.1.symm
        have e3 := congrArg List.length e.2
        rw [List.length_map, List.length_map] at e3
        omega
    · simp! [c, hD3]
      have ll := (LW_w _ ml).2.2.1
      dsimp only at ll
      refine ⟨(plS ls).length, if_pos (by rw [sizeLine_eq, len_def]; omega), ?_⟩
      by_cases c3 : ms.length = ls.cps.size
      rotate_left
      · rw [if_pos (by rw [List.length_map, len_def, w2]; omega)]
        simp! [tFstrSC]
        refine ⟨by omega, fun _ => qn (fun r R e => c3 ?_) _ S3⟩
        simp only [rowPs, List.cons.injEq] at e
        obtain ⟨ls', m', hw⟩ := R.w
        have h1 := hw (by rw [← e.1]; exact c)
        have h2 := (inls_len R).1
        rw [if_neg (by rw [← e.1]; exact c)] at h2
        have e3 := congrArg List.length e.2
        rw [List.length_map, List.length_map] at e3
        rw [← e.1] at m'
        rw [e3, h2, h1.1, lu ls' m']
      rw [if_neg (fun z => z (by rw [List.length_map, len_def, w2, c3]))]
      intro t1 n1
      have hD4 := upd_old (u := .lst [V.str wd]) hD3 n1
      refine ⟨t1, D, _, _, rfl, rfl, upd_same, hD4, by rw [sizeLine_eq, List.length_map]; simp; omega, fun t2 n2 => ?_⟩
      refine ⟨t2, rfl, _, .inl ⟨.of upd_same, fun t3 n3 => ?_⟩⟩
      have S4 := ((S3.step n1 (u := .lst [V.str wd])).step n2 (u := .lst ([V.str wd] ++ ms.map V.int))).step n3 (u := .tup ([V.str wd] ++ ms.map V.int))
      have ep : partsI (wd, ms.map Sum.inl) = ms := by
        unfold partsI
        rw [List.flatMap_map]
        show ms.flatMap (fun x => [x]) = ms
        induction ms with
        | nil => rfl
        | cons x r ih => simp
      refine q (wd, ms.map Sum.inl) ⟨⟨ls, ml, fun _ => ⟨by rw [List.length_map]; exact c3, fun x hx => ?_⟩⟩, fun z => absurd z c, by rw [ep]; exact bm⟩ (by unfold rowPs; rw [ep]) t3 _ S4 ⟨ms.map V.int, upd_same, by rw [List.length_map, List.length_map], fun i v pt h1 h2 => ?_⟩
      · obtain ⟨y, _, rfl⟩ := List.mem_map.mp hx
        exact ⟨y, rfl⟩
      · rw [List.getElem?_map] at h1 h2
        obtain ⟨x, hx, rfl⟩ := Option.map_eq_some_iff.mp h1
        rw [hx] at h2
        cases h2
        rfl

end
section
variable {P : Program} {w : World} {K : PySem.W.Frag} {mg : Str → Option Value} {base : Heap} {a : Ad}
theorem lines_app (a b : List Df) : linesP (a ++ b) = linesP a ++ linesP b := List.flatMap_append
theorem linesD_len (d : Df) : (linesD d).length = d.2.2.length + 1 := by simp [linesD]
abbrev DA := Addr × Addr × List Addr
/-- a program as it was read: each list its own -/
structure RdAt (H0 H : Hp) (pl : Addr) (das : List DA) (q : List Df) : Prop where
  at_ : ProgAt H pl das q
  sm : Same H0 H
  np : H0 pl = none
  nd : (das.map (·.2.1)).Nodup
  np2 : pl ∉ das.map (·.2.1)
  fr : ∀ a ∈ das, H0 a.2.1 = none
theorem RowsOf.keepL {H H' : Hp} {rl : Addr} {rs : List Addr} {rws : List Row} (h : RowsOf H rl rs rws) (top : H' rl = some (.lst (rs.map V.ref))) (tp : ∀ b xs, H b = some (.tup xs) → H' b = some (.tup xs)) : RowsOf H' rl rs rws := ⟨top, h.len, fun i p r h1 h2 => by
  obtain ⟨vs, e, hl, h⟩ := h.row i p r h1 h2
  refine ⟨vs, tp _ _ e, hl, fun i v p h1 h2 => ?_⟩
  have := h i v p h1 h2
  cases p with
  | inl x => exact this
  | inr l => obtain ⟨q, e1, e2⟩ := this; exact ⟨q, e1, tp _ _ e2⟩⟩
theorem RdAt.same {H0 H H' : Hp} {pl : Addr} {das : List DA} {q : List Df} (x : RdAt H0 H pl das q) (S : Same H H') : RdAt H0 H' pl das q := ⟨x.at_.same S, x.sm.trans S, x.np, x.nd, x.np2, x.fr⟩
theorem RdAt.has {H0 H : Hp} {pl : Addr} {das : List DA} {q : List Df} (x : RdAt H0 H pl das q) {a : DA} (m : a ∈ das) : ∃ d rs, H a.1 = some (.tup [.str d.1.1, .str d.1.2, .int d.2.1, .ref a.2.1]) ∧ H a.2.1 = some (.lst rs) ∧ (d : Df) ∈ q := by
  obtain ⟨i, hi⟩ := List.mem_iff_getElem?.mp m
  have il := (List.getElem?_eq_some_iff.mp hi).1
  have hd := List.getElem?_eq_getElem (l := q) (i := i) (by rw [← x.at_.len]; exact il)
  obtain ⟨g1, g2⟩ := x.at_.def_ i a _ hi hd
  exact ⟨_, _, g1, g2.top, List.mem_of_getElem? hd⟩
theorem RdAt.snocD {H0 H : Hp} {pl t rl : Addr} {das : List DA} {q : List Df} {d : Df} (x : RdAt H0 H pl das q) (et : H t = some (.tup [.str d.1.1, .str d.1.2, .int d.2.1, .ref rl])) (erl : H rl = some (.lst [])) (nr : H0 rl = none) (n1 : rl ≠ pl) (n2 : rl ∉ das.map (·.2.1)) : RdAt H0 (upd H pl (.lst ((das.map fun a => V.ref a.1) ++ [V.ref t]))) pl (das ++ [(t, rl, [])]) (q ++ [(d.1, d.2.1, [])]) := by
  have tp : ∀ (b : Addr) (xs : List V), H b = some (.tup xs) → upd H pl (.lst ((das.map fun a => V.ref a.1) ++ [V.ref t])) b = some (.tup xs) := fun b xs h => by
    rw [upd_ne (fun z => by rw [z, x.at_.top] at h; cases h)]; exact h
  refine ⟨⟨by rw [upd_same, List.map_append]; rfl, by rw [List.length_append, List.length_append, x.at_.len]; rfl, fun i a y h1 h2 => ?_⟩, upd_newS x.sm x.np, x.np, ?_, ?_, fun a ha => ?_⟩
  · by_cases c : i < das.length
    · rw [List.getElem?_append_left c] at h1
      rw [List.getElem?_append_left (by rw [← x.at_.len]; exact c)] at h2
      obtain ⟨g1, g2⟩ := x.at_.def_ i a y h1 h2
      have ne : a.2.1 ≠ pl := fun z => x.np2 (List.mem_map.mpr ⟨a, List.mem_of_getElem? h1, z⟩)
      exact ⟨tp _ _ g1, g2.keepL (by rw [upd_ne ne]; exact g2.top) tp⟩
    · have il := (List.getElem?_eq_some_iff.mp h1).1
      rw [List.length_append, List.length_singleton] at il
      rw [List.getElem?_append_right (by omega), show i - das.length = 0 by omega] at h1
      rw [List.getElem?_append_right (by rw [← x.at_.len]; omega), show i - q.length = 0 by rw [← x.at_.len]; omega] at h2
      cases h1
      cases h2
      exact ⟨tp _ _ et, by rw [upd_ne n1]; exact erl, rfl, fun i p r h => by simp at h⟩
  · rw [List.map_append, List.nodup_append]
    exact ⟨x.nd, by simp, fun u hu v hv => by simp at hv; rw [hv]; exact fun z => n2 (z ▸ hu)⟩
  · rw [List.map_append, List.mem_append]
    intro h
    rcases h with h | h
    · exact x.np2 h
    · simp at h; exact n1 h.symm
  · rcases List.mem_append.mp ha with h | h
    · exact x.fr a h
    · rw [List.mem_singleton.mp h]; exact nr
theorem RdAt.snocR {H0 H : Hp} {pl rp : Addr} {das0 : List DA} {a : DA} {q0 : List Df} {y : Sg × Int} {rs : List Row} {r : Row} (x : RdAt H0 H pl (das0 ++ [a]) (q0 ++ [(y.1, y.2, rs)])) (ra : RowAt H rp r) : RdAt H0 (upd H a.2.1 (.lst (a.2.2.map V.ref ++ [V.ref rp]))) pl (das0 ++ [(a.1, a.2.1, a.2.2 ++ [rp])]) (q0 ++ [(y.1, y.2, rs ++ [r])]) := by
  have ln : das0.length = q0.length := by have := x.at_.len; simpa using this
  have hd : (das0 ++ [a])[das0.length]? = some a := by simp
  have hq : (q0 ++ [(y.1, y.2, rs)])[das0.length]? = some (y.1, y.2, rs) := by rw [ln]; simp
  obtain ⟨ga1, ga2⟩ := x.at_.def_ das0.length a _ hd hq
  have tp : ∀ (b : Addr) (xs : List V), H b = some (.tup xs) → upd H a.2.1 (.lst (a.2.2.map V.ref ++ [V.ref rp])) b = some (.tup xs) := fun b xs h => by
    rw [upd_ne (fun z => by rw [z, ga2.top] at h; cases h)]; exact h
  have npl : pl ≠ a.2.1 := fun z => x.np2 (by rw [z]; simp)
  have nd := x.nd
  rw [List.map_append, List.nodup_append] at nd
  have ra' : RowAt (upd H a.2.1 (.lst (a.2.2.map V.ref ++ [V.ref rp]))) rp r := by
    obtain ⟨vs, e, hl, h⟩ := ra
    refine ⟨vs, tp _ _ e, hl, fun i v p h1 h2 => ?_⟩
    have := h i v p h1 h2
    cases p with
    | inl x => exact this
    | inr l => obtain ⟨q, e1, e2⟩ := this; exact ⟨q, e1, tp _ _ e2⟩
  refine ⟨⟨?_, by have := x.at_.len; simpa using this, fun i b z h1 h2 => ?_⟩, upd_newS x.sm (x.fr a (by simp)), x.np, ?_, ?_, fun b hb => ?_⟩
  · rw [upd_ne npl, x.at_.top, List.map_append, List.map_append]; rfl
  · by_cases c : i < das0.length
    · rw [List.getElem?_append_left c] at h1
      rw [List.getElem?_append_left (by omega)] at h2
      obtain ⟨g1, g2⟩ := x.at_.def_ i b z (by rw [List.getElem?_append_left c]; exact h1) (by rw [List.getElem?_append_left (by omega)]; exact h2)
      have ne : b.2.1 ≠ a.2.1 := nd.2.2 _ (List.mem_map.mpr ⟨b, List.mem_of_getElem? h1, rfl⟩) _ (by simp)
      exact ⟨tp _ _ g1, g2.keepL (by rw [upd_ne ne]; exact g2.top) tp⟩
    · have il := (List.getElem?_eq_some_iff.mp h1).1
      rw [List.length_append, List.length_singleton] at il
      rw [List.getElem?_append_right (by omega), show i - das0.length = 0 by omega] at h1
      rw [List.getElem?_append_right (by omega), show i - q0.length = 0 by omega] at h2
      cases h1
      cases h2
      refine ⟨tp _ _ ga1, by rw [upd_same, List.map_append]; rfl, by have := ga2.len; simpa using this, fun j p r' h1 h2 => ?_⟩
      have lr : a.2.2.length = rs.length := ga2.len
      by_cases cj : j < a.2.2.length
      · rw [List.getElem?_append_left cj] at h1
        rw [List.getElem?_append_left (by omega)] at h2
        exact (ga2.keepL (H' := upd H a.2.1 (.lst (a.2.2.map V.ref))) upd_same (fun b xs h => by rw [upd_ne (fun z => by rw [z, ga2.top] at h; cases h)]; exact h)).row j p r' h1 h2 |> fun h => by
          obtain ⟨vs, e, hl, h⟩ := ga2.row j p r' h1 h2
          refine ⟨vs, tp _ _ e, hl, fun i v p h1 h2 => ?_⟩
          have := h i v p h1 h2
          cases p with
          | inl x => exact this
          | inr l => obtain ⟨q, e1, e2⟩ := this; exact ⟨q, e1, tp _ _ e2⟩
      · have jl := (List.getElem?_eq_some_iff.mp h1).1
        rw [List.length_append, List.length_singleton] at jl
        rw [List.getElem?_append_right (by omega), show j - a.2.2.length = 0 by omega] at h1
        rw [List.getElem?_append_right (by omega), show j - rs.length = 0 by omega] at h2
        cases h1
        cases h2
        exact ra'
  · have := x.nd; rw [List.map_append] at this ⊢; exact this
  · have := x.np2; rw [List.map_append] at this ⊢; exact this
  · rcases List.mem_append.mp hb with h | h
    · exact x.fr b (List.mem_append_left _ h)
    · rw [List.mem_singleton.mp h]; exact x.fr a (by simp)

theorem split_ne (z : Str) (c : Nat) : PySem.Txt.split z ⟨#[c]⟩ ≠ [] := fun e => by
  have h := StrLaws.join_split z ⟨#[c]⟩
  rw [e] at h
  have h : Str.empty = z := h
  subst h
  have : PySem.Txt.split Str.empty ⟨#[c]⟩ = [Str.empty] := by first | rfl | simp [PySem.Txt.split, Str.empty, Str.length]
  rw [this] at e
  cases e
theorem join_has {c : Nat} : ∀ {zs : List Str} {p : Str}, p ∈ zs → p.length ≤ (Str.join ⟨#[c]⟩ zs).length ∧ (∀ x ∈ p.cps.toList, x ∈ (Str.join ⟨#[c]⟩ zs).cps.toList) ∧ zs.length ≤ (Str.join ⟨#[c]⟩ zs).length + 1
  | [], _, h => by cases h
  | x :: zs, p, h => by
    have e := L2.join_list c x zs
    have el : ∀ y : Str, y.length = y.cps.toList.length := fun y => by rw [len_def, Array.length_toList]
    have fl : ∀ l : List Str, l.length ≤ (l.flatMap fun z => c :: z.cps.toList).length ∧ ∀ p ∈ l, p.cps.toList.length ≤ (l.flatMap fun z => c :: z.cps.toList).length := by
      intro l
      induction l with
      | nil => exact ⟨Nat.le_refl _, fun p h => by cases h⟩
      | cons y l ih =>
        rw [List.flatMap_cons, List.length_append, List.length_cons, List.length_cons]
        refine ⟨by omega, fun p hp => ?_⟩
        rcases List.mem_cons.mp hp with rfl | hp
        · omega
        · have := ih.2 p hp; omega
    rw [el, el, e, List.length_append]
    refine ⟨?_, fun y hy => ?_, by rw [List.length_cons]; have := (fl zs).1; omega⟩
    · rcases List.mem_cons.mp h with rfl | h
      · omega
      · have := (fl zs).2 p h; omega
    · rcases List.mem_cons.mp h with rfl | h
      · exact List.mem_append_left _ hy
      · exact List.mem_append_right _ (List.mem_flatMap.mpr ⟨p, h, List.mem_cons_of_mem _ hy⟩)
theorem split_has {z : Str} {c : Nat} : (PySem.Txt.split z ⟨#[c]⟩).length ≤ z.length + 1 ∧ ∀ p ∈ PySem.Txt.split z ⟨#[c]⟩, p.length ≤ z.length ∧ (Asc z → Asc p) := by
  have e := StrLaws.join_split z ⟨#[c]⟩
  obtain ⟨x, hx⟩ := List.exists_mem_of_ne_nil _ (split_ne z c)
  have h1 := (join_has (c := c) hx).2.2
  rw [e] at h1
  refine ⟨h1, fun p hp => ?_⟩
  obtain ⟨h2, h3, _⟩ := join_has (c := c) hp
  rw [e] at h2 h3
  exact ⟨h2, fun az => asc_mem.mpr fun c' hc => asc_mem.mp az c' (h3 c' hc)⟩
/-- a text that is the text of no program -/
def NoTx (t : Str) : Prop := ∀ q, GxP q → t ≠ progTx q
/-- a line of a program's text -/
theorem line_is {q : List Df} (h : GxP q) {z : Str} (m : z ∈ linesP q) : (∃ d, GxD d ∧ PySem.Txt.split z sp32 = defPs d) ∨ ∃ r, GxR r ∧ PySem.Txt.split z sp32 = rowPs r := by
  obtain ⟨d, hd, hz⟩ := List.mem_flatMap.mp m
  have D := h.ds d hd
  rcases List.mem_cons.mp hz with rfl | hz
  · exact .inl ⟨d, D, split_def D⟩
  · obtain ⟨r, hr, rfl⟩ := List.mem_map.mp hz
    exact .inr ⟨r, D.rs r hr, split_row (D.rs r hr)⟩
theorem no_def {t z : Str} {i : Nat} (hz : (PySem.Txt.split t nl10)[i]? = some z) (hd : (PySem.Txt.split z sp32).head? = some ("def" : Str)) (no : ∀ d, GxD d → PySem.Txt.split z sp32 ≠ defPs d) : NoTx t := fun q G e => by
  rw [e, split_prog G] at hz
  rcases line_is G (List.mem_of_getElem? hz) with ⟨d, D, e2⟩ | ⟨r, R, e2⟩
  · exact no d D e2
  · rw [e2] at hd
    obtain ⟨ls, m, _⟩ := R.w
    exact (LW_w _ m).2.2.2.2 (by simpa [rowPs] using hd)
theorem no_row {t z : Str} {i : Nat} (hz : (PySem.Txt.split t nl10)[i]? = some z) (hd : (PySem.Txt.split z sp32).head? ≠ some ("def" : Str)) (no : i = 0 ∨ ∀ r, GxR r → PySem.Txt.split z sp32 ≠ rowPs r) : NoTx t := fun q G e => by
  rw [e, split_prog G] at hz
  rcases line_is G (List.mem_of_getElem? hz) with ⟨d, D, e2⟩ | ⟨r, R, e2⟩
  · exact hd (by rw [e2]; rfl)
  · rcases no with rfl | no
    · cases q with
      | nil => exact G.n0 rfl
      | cons d q =>
        have e3 : linesP (d :: q) = defTx d :: (d.2.2.map rowTx ++ linesP q) := rfl
        rw [e3] at hz
        have : z = defTx d := by simpa using hz.symm
        rw [this, split_def (G.ds d (by simp))] at hd
        exact hd rfl
    · exact no r R e2
def sp_rd (X : Addr) : Sp := fun vs H Q E => ∃ t : Str, vs = [.str t] ∧ Asc t ∧ t.length ≤ 1900000 ∧ (∀ (ds : List Df) (pl : Addr) (das : List DA) (H' : Hp), GxP ds → t = progTx ds → RdAt H H' pl das ds → Q (.ref pl) H') ∧ (NoTx t → ∀ H', Same H H' → E (.ref X) none H')
set_option maxHeartbeats 4000000 in
theorem ok_read (T : Txt K mg a) : FnOk P w K mg base (CX1 P w) 3 a.f_read a.d_read ["text"] (sp_rd a.c_NoText) := by
  refine T.F_read.okX sc_read (fun vs H Q E h => ?_) (fun cdv A outer s H vs Q E hr h => ?_)
  · obtain ⟨ds, rfl, _⟩ := h
    rfl
  · obtain ⟨t, rfl, at_, tl, q, qn⟩ := h
    have hu := hu_of hr
    refine ⟨_, (pss_cons (ps_set (i := 1) sc_read.nd (by rfl) (Or.inl rfl) (pe_lst pa_nil))
      (pss_cons (ps_for PassesOwn.leaving (by rfl) (pi_list (pe_bm PySem.F.plainAttrs_str PySem.F.slot_str_split PySem.F.type_str_split mt_split (pv 0) (pa_cons pe_str pa_nil))) (pg_name (i := 2) sc_read.nd (by rfl) (Or.inl rfl))
      (pss_cons (ps_set (i := 3) sc_read.nd (by rfl) (Or.inl rfl) (pe_bm PySem.F.plainAttrs_str PySem.F.slot_str_split PySem.F.type_str_split mt_split (pv 2) (pa_cons pe_str pa_nil)))
      (pss_one (ps_if (pt_cmpR op_eq (pe_ix ix_F (pv 3) pe_int (fun _ _ => rfl)) pe_str (nomark _)) (pss_one (ps_expr (pe_bm PySem.F.plainAttrs_list PySem.F.slot_list_append PySem.F.type_list_append mt_append (pv 1) (pa_cons (pe_call (ok_read_head T) (hr.mono (by decide)) (by rfl) T.m_read_head T.F_read_head.kp T.b_read_head .nil passes_cx (pa_cons (pv 3) pa_nil)) pa_nil)))) (pss_one (ps_if (pt_truth (pv 1) (fun _ => rfl)) (pss_one (ps_expr (pe_bm PySem.F.plainAttrs_list PySem.F.slot_list_append PySem.F.type_list_append mt_append (pe_ix ix_F (pe_ix ix_F (pv 1) (pe_un un_neg pe_int) (fun _ _ => rfl)) pe_int (fun _ _ => rfl)) (pa_cons (pe_call (ok_read_row T) (hr.mono (by decide)) (by rfl) T.m_read_row T.F_read_row.kp T.b_read_row .nil passes_cx (pa_cons (pv 3) pa_nil)) pa_nil)))) (pss_one (ps_raise (by rfl) T.x_NoText (by rfl) T.m_NoText flies_cx (pa_cons pe_str pa_nil)))))))))
      (pss_one (ps_ret (pv 1))))), ?_⟩
    obtain ⟨g1, g2⟩ := split_has (z := t) (c := 10)
    generalize hG : tSeq (tFor _ _ _) _ = tail
    simp! []
    intro PL nPL
    have S1 : Same H (upd H PL (.lst [])) := .laid nPL
    have e1 : upd H PL (.lst []) PL = some (.lst []) := upd_same
    revert S1 e1
    generalize upd H PL (.lst []) = H1
    intro S1 e1
    subst hG
    generalize hG : tRet _ = tail
    refine forL_ (fun ll H2 => Same H H2 ∧ H2 PL = some (.lst []) ∧ H2 ll = some (.lst ((PySem.Txt.split t nl10).map V.str)) ∧ ll ≠ PL) (fun Q2 hQ => ?_) ?_
    · simp! [tBM]
      refine ⟨rfl, t, nl10, rfl, by rw [show Str.ofString "\n" = nl10 by decide], rfl, by rw [sizeLine_eq]; omega, by rw [sizeLine_eq]; unfold nl10; omega, fun ll nll => ?_⟩
      exact hQ ll _ ⟨S1.step nll, upd_old e1 nll, upd_same, fun e => by rw [e, e1] at nll; cases nll⟩
    rintro ll H2 ⟨S2, eP2, el2, nll⟩
    refine forL (H1 := H2) ll ((PySem.Txt.split t nl10).map V.str) (fun Q2 h2 => h2) (fun i σ Hc => ∃ (v2 v3 : Option V) (das : List DA) (qs : List Df), σ = [some (V.str t), some (V.ref PL), v2, v3] ∧ RdAt H Hc PL das qs ∧ (linesP qs = (PySem.Txt.split t nl10).take i ∧ ∀ d ∈ qs, GxD d) ∧ Hc ll = some (.lst ((PySem.Txt.split t nl10).map V.str)) ∧ ll ∉ das.map (·.2.1))
      ⟨_, _, [], [], rfl, ⟨⟨eP2, rfl, fun i a d h => by simp at h⟩, S2, nPL, .nil, by simp, fun a h => by cases h⟩, ⟨rfl, by simp⟩, el2, by simp⟩ (fun i σ Hc _ ⟨_, _, _, _, _, _, _, h, _⟩ => .of h) ?_ ?_
    · rintro i x σ Hc hx ⟨v2, v3, das, qs, rfl, RD, ⟨LN, GD⟩, el, nl⟩
      obtain ⟨z, hz, rfl⟩ := of_map_get hx
      obtain ⟨zl, za⟩ := g2 z (List.mem_of_getElem? hz)
      have za := za at_
      obtain ⟨p1, p2⟩ := split_has (z := z) (c := 32)
      have pj := StrLaws.join_split z sp32
      have pn := split_ne z 32
      have ih := (List.getElem?_eq_some_iff.mp hz).1
      have g1' : (PySem.Txt.split t nl10).length ≤ t.length + 1 := g1
      have TK : (PySem.Txt.split t nl10).take (i + 1) = linesP qs ++ [z] := by rw [List.take_succ, hz, LN]; rfl
      have lq : qs.length ≤ (linesP qs).length := by
        clear LN TK RD GD
        induction qs with
        | nil => exact Nat.le_refl _
        | cons d q ih => show _ ≤ (linesD d ++ linesP q).length; rw [List.length_append, linesD_len, List.length_cons]; omega
      have lt : (linesP qs).length ≤ 1900001 := by rw [LN, List.length_take]; omega
      generalize hG2 : tIfS _ _ _ = tail2
      simp! [tBM]
      refine ⟨rfl, z, sp32, rfl, by rw [show Str.ofString " " = sp32 by decide], rfl, by rw [sizeLine_eq]; omega, by rw [sizeLine_eq]; unfold sp32; omega, fun pl npl => ?_⟩
      have nd := @no_def t z i hz
      have nr := @no_row t z i hz
      have p1 : (PySem.Txt.split z sp32).length ≤ z.length + 1 := p1
      have p2 : ∀ p ∈ PySem.Txt.split z sp32, p.length ≤ z.length ∧ (Asc z → Asc p) := p2
      have pn : PySem.Txt.split z sp32 ≠ [] := pn
      revert pj pn p1 p2 nd nr
      generalize PySem.Txt.split z sp32 = ps
      intro pj nd nr p1 p2 pn
      have S3 : Same Hc (upd Hc pl (.lst (ps.map V.str))) := .laid npl
      have e3 : upd Hc pl (.lst (ps.map V.str)) pl = some (.lst (ps.map V.str)) := upd_same
      revert S3 e3
      generalize upd Hc pl (.lst (ps.map V.str)) = H3
      intro S3 e3
      obtain ⟨p0, pr, rfl⟩ : ∃ p0 pr, ps = p0 :: pr := by
        cases ps with
        | nil => exact absurd rfl pn
        | cons x y => exact ⟨x, y, rfl⟩
      have e3' : H3 pl = some (.lst (V.str p0 :: pr.map V.str)) := e3
      have pa : ∀ x ∈ p0 :: pr, Asc x ∧ x.length ≤ 2000000 := fun x hx => ⟨(p2 x hx).2 za, by have := (p2 x hx).1; omega⟩
      have pl2 : (p0 :: pr).length ≤ 2000000 := by omega
      have RD3 := RD.same S3
      have hP := RD3.at_.top
      have el3 := S3 _ _ el
      have ln := RD3.at_.len
      subst hG2
      by_cases cd : p0 = "def"
      · subst cd
        simp! [tBM, e3']
        refine ⟨.inl ⟨rfl, _, .of hP⟩, pl, _, rfl, e3, pl2, pa, rfl, fun d D d0 ed t' rlA H4 S4 nt nrl ntr et erl => ?_, fun no H4 S4 => qn (nd rfl no) _ ((RD.sm.trans S3).trans S4)⟩
        have RD4 := RD3.same S4
        have nr0 : rlA ≠ PL := fun z => by rw [z, hP] at nrl; cases nrl
        have nr1 : rlA ∉ das.map (·.2.1) := fun m => by
          obtain ⟨a, ha, rfl⟩ := List.mem_map.mp m
          obtain ⟨_, _, _, g, _⟩ := RD3.has ha
          rw [g] at nrl; cases nrl
        have nrll : rlA ≠ ll := fun z => by rw [z, el3] at nrl; cases nrl
        have ez : z = defTx d := by rw [← pj, ed]; rfl
        refine ⟨PL, _, _, rfl, rfl, RD4.at_.top, by rw [sizeLine_eq, List.length_map, ln]; omega, das ++ [(t', rlA, [])], _, RD4.snocD et erl (RD3.sm.free nrl) nr0 nr1, ?_, ?_, by rw [upd_ne nll]; exact S4 _ _ el3, ?_⟩
        · rw [TK, lines_app, ez]; rfl
        · intro x hx
          rcases List.mem_append.mp hx with h | h
          · exact GD x h
          · rw [List.mem_singleton.mp h]; exact ⟨D.tk, D.gv, D.wd, fun r hr => by cases hr⟩
        · rw [List.map_append, List.mem_append]
          intro h
          rcases h with h | h
          · exact nl h
          · simp at h; exact nrll h.symm
      · simp! [tBM, e3', cd]
        have cd' : (p0 :: pr).head? ≠ some ("def" : Str) := fun h => cd (by simpa using h)
        rcases List.eq_nil_or_concat qs with eq | ⟨q0, d, eq⟩
        · subst eq
          have ed : das = [] := List.length_eq_zero_iff.mp ln
          subst ed
          refine ⟨false, .inl ⟨_, .of hP, by simp⟩, ?_⟩
          rw [if_neg (by simp)]
          have i0 : i = 0 := by
            have := congrArg List.length LN
            rw [List.length_take] at this
            have e0 : (linesP []).length = 0 := rfl
            omega
          exact qn (nr cd' (.inl i0)) _ (RD.sm.trans S3)
        · rw [List.concat_eq_append] at eq
          subst eq
          obtain ⟨das0, da, eda⟩ : ∃ x y, das = x ++ [y] := by
            rcases List.eq_nil_or_concat das with e | ⟨x, y, e⟩
            · rw [e] at ln; simp at ln
            · exact ⟨x, y, by rw [e, List.concat_eq_append]⟩
          subst eda
          have ln0 : das0.length = q0.length := by simpa using ln
          obtain ⟨ga1, ga2⟩ := RD3.at_.def_ das0.length da d (by simp) (by rw [ln0]; simp)
          have al : atI ((das0 ++ [da]).map fun a => V.ref a.1) (-1) = some (.ref da.1) := by rw [List.map_append]; exact atI_last _ _
          refine ⟨true, .inl ⟨_, .of hP, by simp⟩, ?_⟩
          rw [if_pos rfl]
          refine ⟨_, by rw [hP]; rfl, _, al, da.1, rfl, _, by rw [ga1]; rfl, .ref da.2.1, atI_3, .inl ⟨rfl, _, .of ga2.top⟩, ?_⟩
          refine ⟨pl, _, rfl, e3, by simp, pl2, pa, fun r R er rp H4 S4 ra => ?_, fun no H4 S4 => qn (nr cd' (.inr no)) _ ((RD.sm.trans S3).trans S4)⟩
          have RD4 := RD3.same S4
          have lrs : da.2.2.length = d.2.2.length := ga2.len
          have ez : z = rowTx r := by rw [← pj, er]; rfl
          have lr : d.2.2.length ≤ (linesP (q0 ++ [d])).length := by
            rw [lines_app, List.length_append]
            have : (linesP [d]).length = d.2.2.length + 1 := by simp [linesP, linesD]
            omega
          refine ⟨da.2.1, _, _, rfl, rfl, S4 _ _ ga2.top, by rw [sizeLine_eq, List.length_map]; omega, das0 ++ [(da.1, da.2.1, da.2.2 ++ [rp])], _, RD4.snocR (y := (d.1, d.2.1)) ra, ?_, ?_, ?_, ?_⟩
          · rw [TK, lines_app, lines_app, ez]
            simp [linesP, linesD]
            rfl
          · intro x hx
            rcases List.mem_append.mp hx with h | h
            · exact GD x (List.mem_append_left _ h)
            · rw [List.mem_singleton.mp h]
              have D := GD d (by simp)
              exact ⟨D.tk, D.gv, D.wd, fun r' hr' => by
                rcases List.mem_append.mp hr' with h | h
                · exact D.rs r' h
                · rw [List.mem_singleton.mp h]; exact R⟩
          · rw [upd_ne (fun z => nl (by rw [z]; simp))]; exact S4 _ _ el3
          · have := nl
            rw [List.map_append] at this ⊢
            exact this
    · rintro σ Hc ⟨v2, v3, das, qs, rfl, RD, ⟨LN, GD⟩, el, nl⟩
      rw [List.length_map, List.take_length] at LN
      subst hG
      simp! []
      refine q qs PL das Hc ⟨fun e => ?_, GD⟩ ?_ RD
      · rw [e] at LN
        exact split_ne t 10 LN.symm
      · have := StrLaws.join_split t nl10
        rw [← LN] at this
        exact this.symm

end
section
variable {P : Program} {w : World} {K : PySem.W.Frag} {mg : Str → Option Value} {base : Heap} {a : Ad}
theorem join_more {x : Nat} (z : Str) (zs ys : List Str) : Str.join ⟨#[x]⟩ (z :: (zs ++ ys)) = Str.join ⟨#[x]⟩ (z :: zs) ++ PySem.Txt.join ("" : Str) (ys.map fun y => (⟨#[x]⟩ : Str) ++ y) := by
  apply L2.str_eq_of
  have e : ∀ a b : Str, (a ++ b).cps.toList = a.cps.toList ++ b.cps.toList := fun a b => by show (a.cps ++ b.cps).toList = _; simp
  rw [e, L2.join_list, L2.join_list, Law.join_list, List.flatMap_append, List.append_assoc, List.flatMap_map]
  congr 2
  have : (fun y : Str => ((⟨#[x]⟩ : Str) ++ y).cps.toList) = fun y => x :: y.cps.toList := funext fun y => by rw [e]; rfl
  rw [this]
theorem app_len1 {x : Nat} {y : Str} : ((⟨#[x]⟩ : Str) ++ y).length = y.length + 1 := by
  rw [len_def, app_size, ← len_def y]; exact Nat.add_comm _ _
def lineUp (r : Row) (i : Nat) : Str := Str.join sp32 (r.1 :: (pI (r.2.take i)).map strI)
theorem lineUp_len {r : Row} (h : TxR r) (i : Nat) : (lineUp r i).length ≤ 600 := by
  have l := pI_len h i
  have h1 : ∀ z ∈ (r.1 :: (pI (r.2.take i)).map strI), z.length ≤ 61 := fun z hz => by
    rcases List.mem_cons.mp hz with rfl | hz
    · exact (rowPs_len h).1 _ (by simp [rowPs])
    · obtain ⟨n, hn, rfl⟩ := List.mem_map.mp hz
      exact strI_len (h.nb n (pI_sub n hn))
  have := join_le (x := 32) h1
  rw [List.length_cons, List.length_map] at this
  have m2 : ((pI (r.2.take i)).length + 1) * (61 + 1) ≤ 9 * 62 := Nat.mul_le_mul_right _ (by omega)
  unfold lineUp sp32
  omega
def sp_written : Sp := fun vs H Q _ => ∃ (pl : Addr) (das : List (Addr × Addr × List Addr)) (ds : List Df), vs = [.ref pl] ∧ ProgAt H pl das ds ∧ TxP ds ∧ ∀ H', Same H H' → Q (.str (progTx ds)) H'
theorem def_len {d : Df} (h : TxD d) : (("def " : Str) ++ tkTx d.1.1).length ≤ 200 ∧ (("def " : Str) ++ tkTx d.1.1 ++ (" " : Str)).length ≤ 300 ∧ (("def " : Str) ++ tkTx d.1.1 ++ (" " : Str) ++ d.1.2).length ≤ 400 ∧ (("def " : Str) ++ tkTx d.1.1 ++ (" " : Str) ++ d.1.2 ++ (" " : Str)).length ≤ 500 := by
  have tl := tkTx_len h.tl
  have gl : d.1.2.length = 1 := by rcases h.gv with e | e <;> rw [e] <;> rfl
  have e1 : ("def " : Str).length = 4 := by decide
  have e2 : (" " : Str).length = 1 := by decide
  have al : ∀ a b : Str, (a ++ b).length = a.length + b.length := fun a b => by rw [len_def, app_size]; rfl
  simp only [al]
  omega
set_option maxHeartbeats 4000000 in
theorem ok_law_written (T : Txt K mg a) : FnOk P w K mg base (CX1 P w) 1 a.f_law_written a.d_law_written ["program"] sp_written := by
  refine T.F_law_written.okC sc_law_written (fun vs H Q E h => ?_) (fun cdv A outer s H vs Q E hr h => ?_)
  · obtain ⟨pl, das, ds, rfl, _⟩ := h
    rfl
  · obtain ⟨pl, das, ds, rfl, PR, TP, q⟩ := h
    have hu := hu_of hr
    refine ⟨_, (pss_cons (ps_set (i := 1) sc_law_written.nd (by rfl) (Or.inl rfl) (pe_lst pa_nil))
      (pss_cons (ps_for PassesOwn.never (by rfl) (pi_list (pv 0)) (pg_tup (n := 4) (by rfl) (pgs_cons (pg_name (i := 2) sc_law_written.nd (by rfl) (Or.inl rfl)) (pgs_cons (pg_name (i := 3) sc_law_written.nd (by rfl) (Or.inl rfl)) (pgs_cons (pg_name (i := 4) sc_law_written.nd (by rfl) (Or.inl rfl)) (pgs_cons (pg_name (i := 5) sc_law_written.nd (by rfl) (Or.inl rfl)) pgs_nil)))))
      (pss_cons (ps_expr (pe_bm PySem.F.plainAttrs_list PySem.F.slot_list_append PySem.F.type_list_append mt_append (pv 1) (pa_cons (pe_op op_add_str (pe_op op_add_str (pe_op op_add_str (pe_op op_add_str (pe_op op_add_str pe_str (pe_ix ix_F (pe_lst (pa_cons (pv 2) (pa_cons pe_str pa_nil))) (pe_callTy call_int1 (by rfl) T.z_int (by decide +kernel) (pa_cons (pe_cmpR op_eq (pv 2) pe_str (nomark _)) pa_nil)) (fun _ _ => rfl))) pe_str) (pv 3)) pe_str) (pe_callTy call_strI (by rfl) T.z_str (by decide +kernel) (pa_cons (pv 4) pa_nil))) pa_nil)))
      (pss_one (ps_for PassesOwn.never (by rfl) (pi_list (pv 5)) (pg_name (i := 6) sc_law_written.nd (by rfl) (Or.inl rfl))
      (pss_cons (ps_set (i := 7) sc_law_written.nd (by rfl) (Or.inl rfl) (pe_ix ix_F (pv 6) pe_int (fun _ _ => rfl)))
      (pss_cons (ps_for PassesOwn.never (by rfl) (pi_tup (pe_slice sl_tup (pv 6) (po_some pe_int) po_none)) (pg_name (i := 8) sc_law_written.nd (by rfl) (Or.inl rfl))
      (pss_one (ps_if (pt_val (pe_callB call_isF (by rfl) T.z_isinstance (by decide +kernel) (pa_cons (pv 8) (pa_cons (pe_bltn (v := .ty "tuple") (u := .type "tuple") (by rfl) T.z_tuple (by decide +kernel) (by rfl)) pa_nil)))) (pss_one (ps_set (i := 7) sc_law_written.nd (by rfl) (Or.inl rfl) (pe_op op_add_str (pv 7) (pe_bm PySem.F.plainAttrs_str PySem.F.slot_str_join PySem.F.type_str_join mt_join pe_str (pa_cons (pe_comp (N' := ["q"]) (cap := [none]) ⟨rfl, (by decide +kernel), (by decide +kernel), (by rfl), rfl, (by rfl)⟩ (by rfl) (pi_tup (pv 8)) (fun C_ ex_ s_ H_ => (pg_name (i := 0) (show (["q"] : List Str).Nodup by decide +kernel) (by rfl) (Or.inl rfl))) gkp_name (fun C_ ex_ s_ H_ => pifs_nil) (fun C_ ex_ s_ H_ => (pe_op op_add_str pe_str (pe_callTy call_strI (by rfl) T.z_str (by decide +kernel) (pa_cons (pv 0) pa_nil))))) pa_nil))))) (pss_one (ps_set (i := 7) sc_law_written.nd (by rfl) (Or.inl rfl) (pe_op op_add_str (pe_op op_add_str (pv 7) pe_str) (pe_callTy call_strI (by rfl) T.z_str (by decide +kernel) (pa_cons (pv 8) pa_nil))))))))
      (pss_one (ps_expr (pe_bm PySem.F.plainAttrs_list PySem.F.slot_list_append PySem.F.type_list_append mt_append (pv 1) (pa_cons (pv 7) pa_nil))))))))))
      (pss_one (ps_ret (pe_bm PySem.F.plainAttrs_str PySem.F.slot_str_join PySem.F.type_str_join mt_join pe_str (pa_cons (pv 1) pa_nil)))))), ?_⟩
    have lp := PR.len
    generalize hG : tSeq (tFor _ _ _) _ = tail
    simp! []
    intro L nL
    have S1 : Same H (upd H L (.lst [])) := .laid nL
    have e1 : upd H L (.lst []) L = some (.lst []) := upd_same
    revert S1 e1
    generalize upd H L (.lst []) = H1
    intro S1 e1
    subst hG
    generalize hG : tRet _ = tail
    refine forL (H1 := H1) pl (das.map fun a => V.ref a.1) (fun Q2 h2 => by simp! []; exact h2) (fun i σ Hc => ∃ v2 v3 v4 v5 v6 v7 v8 : Option V, σ = [some (V.ref pl), some (V.ref L), v2, v3, v4, v5, v6, v7, v8] ∧ Same H Hc ∧ Hc L = some (.lst ((linesP (ds.take i)).map V.str))) ⟨_, _, _, _, _, _, _, rfl, S1, e1⟩ (fun i σ Hc _ ⟨_, _, _, _, _, _, _, _, Sc, _⟩ => .of (Sc _ _ PR.top)) ?_ ?_
    · rintro i x σ Hc hx ⟨v2, v3, v4, v5, v6, v7, v8, rfl, Sc, eL⟩
      obtain ⟨da, hda, rfl⟩ := of_map_get hx
      have il : i < ds.length := by rw [← lp]; exact (List.getElem?_eq_some_iff.mp hda).1
      obtain ⟨d, hd⟩ : ∃ d, ds[i]? = some d := ⟨_, List.getElem?_eq_getElem il⟩
      have TD := TP.ds d (List.mem_of_getElem? hd)
      obtain ⟨ht, RW⟩ := (PR.same Sc).def_ i da d hda hd
      have lk := lines_take hd
      have ll := lines_le TP i
      have rl := TD.rl
      have tl := TD.tl
      refine gTup_of ht rfl ?_
      generalize hG2 : tFor _ _ _ = tail2
      obtain ⟨dl1, dl2, dl3, dl4⟩ := def_len TD
      have sl := strI_len TD.wd
      have al : ∀ x y : Str, (x ++ y).length = x.length + y.length := fun x y => by rw [len_def, app_size]; rfl
      have gl : d.1.2.length = 1 := by rcases TD.gv with e | e <;> rw [e] <;> rfl
      have e1 : ("def " : Str).length = 4 := by decide
      have e2 : (" " : Str).length = 1 := by decide
      have tkl := tkTx_len TD.tl
      simp! [tBM]
      refine ⟨.inl ⟨rfl, _, .of eL⟩, fun p np => ?_⟩
      have ea : atI [V.str d.1.1, V.str (Str.ofString "-")] (if d.1.1 = Str.ofString "" then 1 else 0) = some (V.str (tkTx d.1.1)) := by
        unfold tkTx
        by_cases c : d.1.1 = Str.ofString ""
        · rw [if_pos c, if_pos c]; exact atI_1
        · rw [if_neg c, if_neg c]; exact atI_0
      have sl : (Str.ofString (toString d.2.1)).length ≤ 61 := sl
      refine ⟨_, ea, _, rfl, by omega, by omega, by omega, by omega, logB TD.wd, by omega, ?_⟩
      rw [def_eq]
      have eLp := upd_old (u := .lst [V.str d.1.1, V.str (Str.ofString "-")]) eL np
      refine ⟨L, _, _, rfl, rfl, eLp, by rw [sizeLine_eq, List.length_map]; omega, ?_⟩
      have npL : p ≠ L := fun z => by rw [z, eL] at np; cases np
      have S2 : Same H (upd (upd Hc p (.lst [V.str d.1.1, V.str (Str.ofString "-")])) L (.lst ((linesP (ds.take i)).map V.str ++ [V.str (defTx d)]))) := upd_newS (fun c o e => upd_old (Sc _ _ e) np) nL
      have eL2 : upd (upd Hc p (.lst [V.str d.1.1, V.str (Str.ofString "-")])) L (.lst ((linesP (ds.take i)).map V.str ++ [V.str (defTx d)])) L = some (.lst ((linesP (ds.take i) ++ [defTx d]).map V.str)) := by rw [upd_same, List.map_append]; rfl
      revert S2 eL2
      generalize upd (upd Hc p (.lst [V.str d.1.1, V.str (Str.ofString "-")])) L (.lst ((linesP (ds.take i)).map V.str ++ [V.str (defTx d)])) = H2
      intro S2 eL2
      obtain ⟨ht2, RW2⟩ := (PR.same S2).def_ i da d hda hd
      clear eLp eL Sc np npL RW ht
      subst hG2
      refine forL (H1 := H2) da.2.1 (da.2.2.map V.ref) (fun Q2 h2 => by simp! []; exact h2) (fun j σ Hd => ∃ v6 v7 v8 : Option V, σ = [some (V.ref pl), some (V.ref L), some (V.str d.1.1), some (V.str d.1.2), some (V.int d.2.1), some (V.ref da.2.1), v6, v7, v8] ∧ Same H Hd ∧ Hd L = some (.lst ((linesP (ds.take i) ++ defTx d :: (d.2.2.take j).map rowTx).map V.str))) ⟨_, _, _, rfl, S2, eL2⟩ (fun j σ Hd _ ⟨_, _, _, _, Sd, _⟩ => .of ((PR.same Sd).def_ i da d hda hd).2.top) ?_ ?_
      · rintro j x σ Hd hx ⟨v6, v7, v8, rfl, Sd, eLd⟩
        obtain ⟨rp, hrp, rfl⟩ := of_map_get hx
        obtain ⟨r, hr0⟩ : ∃ r, d.2.2[j]? = some r := ⟨_, List.getElem?_eq_getElem (by rw [← RW2.len]; exact (List.getElem?_eq_some_iff.mp hrp).1)⟩
        have TR := TD.rs r (List.mem_of_getElem? hr0)
        have RA := ((PR.same Sd).def_ i da d hda hd).2.row j rp r hrp hr0
        obtain ⟨us, hp, PA⟩ := id RA
        have l3 := TR.len
        have lu := PA.len
        generalize hG3 : tSeq (tFor _ _ _) _ = tail3
        simp! [hp]
        subst hG3
        generalize hG3 : tDrop _ = tail3
        refine forT_ (fun tp H3 => Same Hd H3 ∧ H3 tp = some (.tup us)) (fun Q2 hQ => ?_) ?_
        · simp! [tSl, tNoPart, tPart, rSlT]
          refine ⟨_, .of hp, fun z => ?_, fun tp ntp => ?_⟩
          · have := z.1
            simp [HT.sIx] at this
          · have ec : cutV (V.str r.1 :: us) (some 1) none = us := cut_from (V.str r.1 :: us) 1
            rw [ec] at *
            exact hQ tp _ ⟨.laid ntp, upd_same⟩
        rintro tp H3 ⟨S3, e3⟩
        refine forT (H1 := H3) tp us (fun Q2 h2 => h2) (fun m σ Hf => ∃ v8 : Option V, σ = [some (V.ref pl), some (V.ref L), some (V.str d.1.1), some (V.str d.1.2), some (V.int d.2.1), some (V.ref da.2.1), some (V.ref rp), some (V.str (lineUp r m)), v8] ∧ Same H3 Hf) ⟨_, by rw [show lineUp r 0 = r.1 from rfl], Same.refl _⟩ (fun m σ Hf _ ⟨_, _, Sf⟩ => .of (Sf _ _ e3)) ?_ ?_
        · rintro m x σ Hf hx ⟨v8, rfl, Sf⟩
          have ml : m < r.2.length := by rw [← lu]; exact (List.getElem?_eq_some_iff.mp hx).1
          obtain ⟨pt, hpt⟩ : ∃ pt, r.2[m]? = some pt := ⟨_, List.getElem?_eq_getElem ml⟩
          have pa := PA.at_ m x pt hx hpt
          have nbp : ∀ z ∈ pOf pt, NumB z := fun z hz => TR.nb z (List.mem_flatMap.mpr ⟨pt, List.mem_of_getElem? hpt, hz⟩)
          have tk := pI_take hpt
          have lup := lineUp_len TR m
          cases pt with
          | inl n =>
            cases (show x = .int n from pa)
            have sn := strI_len (nbp n (by simp [pOf]))
            simp! []
            have el : lineUp r m ++ Str.ofString " " ++ Str.ofString (toString n) = lineUp r (m + 1) := by
              unfold lineUp
              rw [tk, List.map_append, show Str.ofString " " = sp32 by decide]
              exact (join_snoc _ _ _).symm
            have sn : (Str.ofString (toString n)).length ≤ 61 := sn
            exact ⟨by omega, logB (nbp n (by simp [pOf])), by rw [al]; omega, el, Sf⟩
          | inr l =>
            obtain ⟨qa, rfl, hqa⟩ := pa
            have hqf := Sf _ _ (S3 _ _ hqa)
            have l100 := TR.inr (List.mem_of_getElem? hpt)
            simp! [hqf, tBM]
            refine ⟨rfl, ?_⟩
            refine compTS (H1 := Hf) qa (l.map V.int) (fun v => match v with | .int x => some (.str (sp32 ++ strI x)) | _ => none) (fun Q2 h2 => by simp! []; exact h2) hqf (by rw [sizeLine_eq, List.length_map]; omega) ?_ ?_
            · intro x H4 R N hx S4 hR hN
              obtain ⟨z, hz, rfl⟩ := List.mem_map.mp hx
              have sz : (Str.ofString (toString z)).length ≤ 61 := strI_len (nbp z hz)
              simp! [capSt, tTrue]
              rw [show Str.ofString " " = sp32 by decide]
              exact ⟨logB (nbp z hz), by have : sp32.length = 1 := rfl; omega, hR _ _ rfl (Same.refl _)⟩
            · intro D H4 nD S4 e4
              have em : (l.map V.int).filterMap (fun v => match v with | .int x => some (V.str (sp32 ++ strI x)) | _ => none) = (((l.map strI).map fun y => sp32 ++ y).map V.str) := by
                rw [List.filterMap_map, List.map_map, List.map_map]
                show List.filterMap (some ∘ fun x => V.str (sp32 ++ strI x)) l = _
                rw [List.filterMap_eq_map]; rfl
              rw [em] at e4
              have h62 : ∀ z ∈ (l.map strI).map fun y => sp32 ++ y, z.length ≤ 62 := fun z hz => by
                obtain ⟨y, hy, rfl⟩ := List.mem_map.mp hz
                obtain ⟨n, hn, rfl⟩ := List.mem_map.mp hy
                have := strI_len (nbp n hn)
                have e := app_len1 (x := 32) (y := strI n)
                show ((⟨#[32]⟩ : Str) ++ strI n).length ≤ 62
                omega
              have sm := sums_le h62
              rw [List.length_map, List.length_map] at sm
              have m62 : l.length * 62 ≤ 6 * 62 := Nat.mul_le_mul_right _ l100
              have jl : (PySem.Txt.join ("" : Str) ((l.map strI).map fun y => sp32 ++ y)).length ≤ 372 := by
                have := join_len _ h62
                rw [List.length_map, List.length_map] at this
                omega
              refine ⟨Str.ofString "", D, _, rfl, rfl, e4, by have : (Str.ofString "").length = 0 := rfl; rw [this]; omega, _, rfl, by omega, ?_, Sf.trans S4⟩
              unfold lineUp
              rw [tk, List.map_append]
              exact (join_more r.1 _ _).symm
        · rintro σ Hf ⟨v8, rfl, Sf⟩
          rw [lu]
          subst hG3
          have eu : lineUp r r.2.length = rowTx r := by unfold lineUp; rw [List.take_length]; rfl
          rw [eu]
          have eLf := Sf _ _ (S3 _ _ eLd)
          simp! [tBM]
          refine ⟨.inl ⟨rfl, _, .of eLf⟩, L, _, _, rfl, rfl, eLf, ?_, ?_⟩
          · rw [sizeLine_eq, List.length_map, List.length_append, List.length_cons, List.length_map, List.length_take]; omega
          · refine ⟨upd_newS (fun c o e => Sf _ _ (S3 _ _ (Sd _ _ e))) nL, ?_⟩
            rw [upd_same, List.take_succ, hr0]
            simp
      · rintro σ Hd ⟨v6, v7, v8, rfl, Sd, eLd⟩
        rw [List.length_map, RW2.len, List.take_length] at eLd
        exact ⟨_, _, _, _, _, _, _, rfl, Sd, by rw [eLd, lk]; rfl⟩
    · rintro σ Hc ⟨v2, v3, v4, v5, v6, v7, v8, rfl, Sc, eL⟩
      rw [List.length_map, lp, List.take_length] at eL
      subst hG
      obtain ⟨g1, g2, g3⟩ := progTx_len TP
      simp! [tBM]
      refine ⟨rfl, nl10, L, linesP ds, by rw [show Str.ofString "\n" = nl10 by decide], rfl, eL, g2, ?_⟩
      have e : PySem.Txt.join nl10 (linesP ds) = progTx ds := StrLaws.glued_eq_join _ _
      rw [e]
      exact q Hc Sc

end
section
variable {P : Program} {w : World} {K : PySem.W.Frag} {mg : Str → Option Value} {base : Heap} {a : Ad}

def DefA (H : Hp) (a : DA) (d : Df) : Prop := H a.1 = some (.tup [.str d.1.1, .str d.1.2, .int d.2.1, .ref a.2.1]) ∧ RowsOf H a.2.1 a.2.2 d.2.2
theorem DefA.same {H H' : Hp} {a : DA} {d : Df} (S : Same H H') (h : DefA H a d) : DefA H' a d := ⟨S _ _ h.1, h.2.same S⟩
theorem DefA.put {H : Hp} {a : DA} {d : Df} {fl : Addr} {xs : List V} {u : HO} (h : DefA H a d) (hf : H fl = some (.lst xs)) (n : a.2.1 ≠ fl) : DefA (upd H fl u) a d := by
  refine ⟨by rw [upd_ne (fun e => by rw [← e, h.1] at hf; cases hf)]; exact h.1, ?_⟩
  exact h.2.fr (M := (· = fl)) (Fr.put rfl fun ys e => by rw [hf] at e; cases e) n
structure DL (H : Hp) (as : List DA) (ds : List Df) : Prop where
  len : as.length = ds.length
  def_ : ∀ (i : Nat) (a : DA) (d : Df), as[i]? = some a → ds[i]? = some d → DefA H a d
theorem DL.same {H H' : Hp} {as : List DA} {ds : List Df} (S : Same H H') (h : DL H as ds) : DL H' as ds := ⟨h.len, fun i a d h1 h2 => (h.def_ i a d h1 h2).same S⟩
theorem DL.put {H : Hp} {as : List DA} {ds : List Df} {fl : Addr} {xs : List V} {u : HO} (h : DL H as ds) (hf : H fl = some (.lst xs)) (n : ∀ a ∈ as, a.2.1 ≠ fl) : DL (upd H fl u) as ds :=
  ⟨h.len, fun i a d h1 h2 => (h.def_ i a d h1 h2).put hf (n a (List.mem_of_getElem? h1))⟩
theorem DL.snoc {H : Hp} {as : List DA} {ds : List Df} {a : DA} {d : Df} (h : DL H as ds) (hr : DefA H a d) : DL H (as ++ [a]) (ds ++ [d]) := by
  refine ⟨by rw [List.length_append, List.length_append, h.len]; rfl, fun i q x h1 h2 => ?_⟩
  rcases Nat.lt_trichotomy i as.length with c | c | c
  · rw [List.getElem?_append_left c] at h1
    rw [List.getElem?_append_left (by rw [← h.len]; exact c)] at h2
    exact h.def_ i q x h1 h2
  · subst c
    rw [List.getElem?_append_right (Nat.le_refl _), Nat.sub_self] at h1
    rw [h.len, List.getElem?_append_right (Nat.le_refl _), Nat.sub_self] at h2
    cases h1
    cases h2
    exact hr
  · rw [List.getElem?_eq_none (by simp; omega)] at h1
    cases h1
def RowSm (r : Row) : Prop := r.2.length ≤ 3 ∧ ∀ ks : List Int, Sum.inr ks ∈ r.2 → ks.length ≤ 6
theorem Al.row2 {H : Hp} {p q : Addr} {r : Row} (A : RowAt H p r) (B : RowAt H q r) (sm : RowSm r) : Al H 3 (.ref p) (.ref q) := by
  obtain ⟨vs, hp, PA⟩ := A
  obtain ⟨us, hq, PB⟩ := B
  have la := PA.len
  have lb := PB.len
  have l3 := sm.1
  refine .inr ⟨p, q, _, _, rfl, rfl, .inr ⟨hp, hq⟩, by rw [List.length_cons, List.length_cons]; omega, by rw [List.length_cons]; omega, fun i a b e1 e2 => ?_⟩
  cases i with
  | zero => cases e1; cases e2; exact .inl ⟨rfl, rfl⟩
  | succ i =>
    rw [List.getElem?_cons_succ] at e1 e2
    have hi := (List.getElem?_eq_some_iff.mp e1).1
    have e3 := List.getElem?_eq_getElem (l := r.2) (i := i) (by omega)
    have pa := PA.at_ i a _ e1 e3
    have pb := PB.at_ i b _ e2 e3
    have mm := List.mem_of_getElem? e3
    revert pa pb mm
    generalize r.2[i] = pt
    intro pa pb mm
    cases pt with
    | inl x => cases (show a = .int x from pa); cases (show b = .int x from pb); exact .inl ⟨rfl, rfl⟩
    | inr ks =>
      obtain ⟨qa, rfl, ha⟩ := pa
      obtain ⟨qb, rfl, hb⟩ := pb
      have := sm.2 ks mm
      refine .inr ⟨qa, qb, _, _, rfl, rfl, .inr ⟨ha, hb⟩, rfl, by rw [List.length_map]; omega, fun i a b e1 e2 => ?_⟩
      rw [e1] at e2
      cases e2
      obtain ⟨z, _, rfl⟩ := of_map_get e1
      exact .inl ⟨rfl, rfl⟩
theorem Al.rows {H : Hp} {l1 l2 : Addr} {rs1 rs2 : List Addr} {rws : List Row} (A : RowsOf H l1 rs1 rws) (B : RowsOf H l2 rs2 rws) (sm : ∀ r ∈ rws, RowSm r) (ln : rws.length ≤ 1000) : Al H 4 (.ref l1) (.ref l2) := by
  have la := A.len
  have lb := B.len
  refine .inr ⟨l1, l2, _, _, rfl, rfl, .inl ⟨A.top, B.top⟩, by rw [List.length_map, List.length_map]; omega, by rw [List.length_map]; omega, fun i a b e1 e2 => ?_⟩
  obtain ⟨p, hp, rfl⟩ := of_map_get e1
  obtain ⟨q, hq, rfl⟩ := of_map_get e2
  have il : i < rws.length := by rw [← la]; exact (List.getElem?_eq_some_iff.mp hp).1
  have e3 := List.getElem?_eq_getElem il
  exact Al.row2 (A.row i p _ hp e3) (B.row i q _ hq e3) (sm _ (List.getElem_mem il))
theorem Al.prog {H : Hp} {p1 p2 : Addr} {as bs : List DA} {ds : List Df} (A : ProgAt H p1 as ds) (B : ProgAt H p2 bs ds) (sm : ∀ d ∈ ds, d.2.2.length ≤ 1000 ∧ ∀ r ∈ d.2.2, RowSm r) (ln : ds.length ≤ 1000) : Al H 6 (.ref p1) (.ref p2) := by
  have la := A.len
  have lb := B.len
  refine .inr ⟨p1, p2, _, _, rfl, rfl, .inl ⟨A.top, B.top⟩, by rw [List.length_map, List.length_map]; omega, by rw [List.length_map]; omega, fun i x y e1 e2 => ?_⟩
  obtain ⟨p, hp, rfl⟩ := of_map_get e1
  obtain ⟨q, hq, rfl⟩ := of_map_get e2
  have il : i < ds.length := by rw [← la]; exact (List.getElem?_eq_some_iff.mp hp).1
  have e3 := List.getElem?_eq_getElem il
  obtain ⟨a1, a2⟩ := A.def_ i p _ hp e3
  obtain ⟨b1, b2⟩ := B.def_ i q _ hq e3
  obtain ⟨s1, s2⟩ := sm _ (List.getElem_mem il)
  refine .inr ⟨p.1, q.1, _, _, rfl, rfl, .inr ⟨a1, b1⟩, rfl, by simp, fun j x y h1 h2 => ?_⟩
  match j, h1, h2 with
  | 0, h1, h2 => cases h1; cases h2; exact .inl ⟨rfl, rfl⟩
  | 1, h1, h2 => cases h1; cases h2; exact .inl ⟨rfl, rfl⟩
  | 2, h1, h2 => cases h1; cases h2; exact .inl ⟨rfl, rfl⟩
  | 3, h1, h2 => cases h1; cases h2; exact Al.rows a2 b2 s2 s1
  | j + 4, h1, h2 => simp at h1
def spLaw (K : PySem.W.Frag) : Sp := fun vs H Q _ => ∃ (a : Addr) (ns : List Int), vs = [.ref a] ∧ SqL K H a (ns.map V.int) ∧ ns.length ≤ 63 ∧ ∀ H', Q (.bl true) H'

def sp_copy : Sp := fun vs H Q _ => ∃ (pl : Addr) (das : List DA) (ds : List Df), vs = [.ref pl] ∧ ProgAt H pl das ds ∧ ds.length ≤ 8 ∧ ∀ (hl : Addr) (has : List DA) (H' : Hp), H hl = none → Same H H' → ProgAt H' hl has ds → Q (.ref hl) H'
set_option maxHeartbeats 2000000 in
theorem ok_law_copy (T : Txt K mg a) : FnOk P w K mg base (CX1 P w) 1 a.f_law_copy a.d_law_copy ["program"] sp_copy := by
  refine T.F_law_copy.okC sc_law_copy (fun vs H Q E h => ?_) (fun cdv A outer s H vs Q E hr h => ?_)
  · obtain ⟨pl, das, ds, rfl, _⟩ := h
    rfl
  · obtain ⟨pl, das, ds, rfl, PR, l8, q⟩ := h
    have hu := hu_of hr
    have lp := PR.len
    refine ⟨_, (pss_one (ps_ret (pe_comp (N' := ["takes", "gives", "words", "rows"]) (cap := [none, none, none, none]) ⟨rfl, (by decide +kernel), (by decide +kernel), (by rfl), rfl, (by rfl)⟩ (by rfl) (pi_list (pv 0)) (fun C_ ex_ s_ H_ => (pg_tup (n := 4) (by rfl) (pgs_cons (pg_name (i := 0) (show (["takes", "gives", "words", "rows"] : List Str).Nodup by decide +kernel) (by rfl) (Or.inl rfl)) (pgs_cons (pg_name (i := 1) (show (["takes", "gives", "words", "rows"] : List Str).Nodup by decide +kernel) (by rfl) (Or.inl rfl)) (pgs_cons (pg_name (i := 2) (show (["takes", "gives", "words", "rows"] : List Str).Nodup by decide +kernel) (by rfl) (Or.inl rfl)) (pgs_cons (pg_name (i := 3) (show (["takes", "gives", "words", "rows"] : List Str).Nodup by decide +kernel) (by rfl) (Or.inl rfl)) pgs_nil)))))) (gkp_tup (gskp_cons (by rfl) (gskp_cons (by rfl) (gskp_cons (by rfl) (gskp_cons (by rfl) gskp_nil))))) (fun C_ ex_ s_ H_ => pifs_nil) (fun C_ ex_ s_ H_ => (pe_tup (pa_cons (pv 0) (pa_cons (pv 1) (pa_cons (pv 2) (pa_cons (pe_callTy (call_list_ofK (K := K) (by rfl)) (by rfl) T.z_list (by decide +kernel) (pa_cons (pv 3) pa_nil)) pa_nil))))))))), ?_⟩
    simp! []
    refine compL pl (das.map fun a => V.ref a.1) (fun Q2 h2 => by simp! []; exact h2) (.of PR.top) (fun D i ys H2 => ∃ has : List DA, ys = has.map (fun a => V.ref a.1) ∧ Same H H2 ∧ H2 D = some (.lst ys) ∧ DL H2 has (ds.take i) ∧ (∀ a ∈ has, a.2.1 ≠ D))
      (fun D hD => ⟨[], rfl, Same.laid hD, upd_same, ⟨rfl, fun i p r h1 _ => by cases h1⟩, fun a h => by cases h⟩) ?_ (by rw [sizeLine_eq, List.length_map]; omega) ?_ ?_
    · rintro D hD i ys H2 hi ⟨has, rfl, S2, h2, D2, _⟩
      refine ⟨.of (S2 _ _ PR.top), h2, ?_⟩
      rw [List.length_map, D2.len, List.length_take]
      omega
    · rintro D hD i x ys H2 hx ⟨has, rfl, S2, h2, D2, nD⟩
      obtain ⟨da, hda, rfl⟩ := of_map_get hx
      have il : i < ds.length := by rw [← lp]; exact (List.getElem?_eq_some_iff.mp hda).1
      have hdi := List.getElem?_eq_getElem il
      have DA2 := (show DefA H da ds[i] from PR.def_ i da _ hda hdi).same S2
      revert hdi DA2
      generalize ds[i] = d
      intro hdi DA2
      refine gTup_of DA2.1 rfl ?_
      simp! [tTrue, capSt]
      refine ⟨_, .inl (.of DA2.2.top), fun l nl p np => ?_⟩
      have S4 : Same H2 (upd (upd H2 l (.lst (da.2.2.map V.ref))) p (.tup [.str d.1.1, .str d.1.2, .int d.2.1, .ref l])) := (Same.laid nl).step np
      have hl4 : upd (upd H2 l (.lst (da.2.2.map V.ref))) p (.tup [.str d.1.1, .str d.1.2, .int d.2.1, .ref l]) l = some (.lst (da.2.2.map V.ref)) := upd_old upd_same np
      have hp4 : upd (upd H2 l (.lst (da.2.2.map V.ref))) p (.tup [.str d.1.1, .str d.1.2, .int d.2.1, .ref l]) p = some (.tup [.str d.1.1, .str d.1.2, .int d.2.1, .ref l]) := upd_same
      revert S4 hl4 hp4
      generalize upd (upd H2 l (.lst (da.2.2.map V.ref))) p (.tup [.str d.1.1, .str d.1.2, .int d.2.1, .ref l]) = H4
      intro S4 hl4 hp4
      have h4 := S4 _ _ h2
      have nlD : l ≠ D := fun e => by rw [e, h2] at nl; cases nl
      have R4 := DA2.2.same S4
      have D4 := (D2.same S4).snoc (a := (p, l, da.2.2)) (d := d) ⟨hp4, hl4, R4.len, R4.row⟩
      have nD4 : ∀ a ∈ has ++ [(p, l, da.2.2)], a.2.1 ≠ D := by
        intro a ha
        rcases List.mem_append.mp ha with ha | ha
        · exact nD a ha
        · rw [List.mem_singleton.mp ha]; exact nlD
      refine ⟨h4, has ++ [(p, l, da.2.2)], by rw [List.map_append]; rfl, upd_newS (S2.trans S4) hD, ?_, nD4⟩
      rw [List.take_succ, hdi]
      exact D4.put h4 nD4
    · rintro D hD ys H2 ⟨has, rfl, S2, h2, D2, _⟩
      rw [List.length_map, lp, List.take_length] at D2
      exact q D has H2 hD S2 ⟨h2, D2.len, D2.def_⟩
theorem LW_words : ∀ p ∈ LW, (p.1 ≠ "call" → ∀ c ∈ p.2.cps.toList, c = 112 ∨ c = 107 ∨ c = 116 ∨ c = 105) ∧ (p.1 = "call" → p.2 = "pfq") := by decide +kernel
/-- a formed program can be written -/
theorem RowFit.tx {words many : Int} {sg : List Sg} {r : Row} (F : RowFit words many sg r) (w1 : words ≤ 16) (m1 : many ≤ 1000) (g1 : sg.length ≤ 1000) (s6 : ∀ x ∈ sg, x.1.cps.size ≤ 6) : TxR r := by
  obtain ⟨ls, m, l, pf⟩ := F
  obtain ⟨w2, w3⟩ := LW_words _ m
  have b60 : (1000 : Int) < 10 ^ 60 := by decide
  have b0 : -(10 ^ 60 : Int) < 0 := by decide
  have part : ∀ (i : Nat) (p : Part), r.2[i]? = some p → ∃ c, ls.cps[i]? = some c ∧ PartFit words many sg r.2 c p := fun i p h => by
    have il := (List.getElem?_eq_some_iff.mp h).1
    have hc := Array.getElem?_eq_getElem (show i < ls.cps.size by omega)
    exact ⟨_, hc, pf.at_ i _ p hc h⟩
  have nb1 : ∀ (c : Nat) (p : Part), PartFit words many sg r.2 c p → ∀ z ∈ pOf p, NumB z := fun c p h z hz => by
    rcases h with ⟨_, x, rfl, h1, h2⟩ | ⟨_, x, rfl, h1, h2⟩ | ⟨_, x, rfl, h1, h2⟩ | ⟨_, x, rfl, h1, h2⟩ | ⟨_, x, rfl, h1, h2⟩ | ⟨_, f, l', y, _, _, rfl, _, h1⟩
    · simp [pOf] at hz; subst hz; exact ⟨by omega, by omega⟩
    · simp [pOf] at hz; subst hz; exact ⟨by omega, by omega⟩
    · simp [pOf] at hz; subst hz; exact ⟨by omega, by omega⟩
    · simp [pOf] at hz; subst hz; exact ⟨by omega, by omega⟩
    · simp [pOf] at hz; subst hz; exact ⟨h1, h2⟩
    · obtain ⟨z0, z1⟩ := h1 z hz; exact ⟨by omega, by omega⟩
  refine ⟨⟨ls, m, fun c => ⟨l, fun x hx => ?_⟩⟩, fun c => ?_, fun z hz => ?_⟩
  · obtain ⟨i, hi⟩ := List.mem_iff_getElem?.mp hx
    obtain ⟨ch, hc, h⟩ := part i x hi
    have := w2 c ch (by rw [← Array.getElem?_toList] at hc; exact List.mem_of_getElem? hc)
    rcases h with ⟨_, x, rfl, _⟩ | ⟨_, x, rfl, _⟩ | ⟨_, x, rfl, _⟩ | ⟨_, x, rfl, _⟩ | ⟨_, x, rfl, _⟩ | ⟨e, _⟩
    · exact ⟨x, rfl⟩
    · exact ⟨x, rfl⟩
    · exact ⟨x, rfl⟩
    · exact ⟨x, rfl⟩
    · exact ⟨x, rfl⟩
    · omega
  · have e := w3 c
    dsimp only at e
    subst e
    have l3 : r.2.length = 3 := l
    match er : r.2, l3 with
    | [u, v, x], _ =>
      have h0 := pf.at_ 0 112 u (by decide) (by rw [er]; rfl)
      have h1 := pf.at_ 1 102 v (by decide) (by rw [er]; rfl)
      have h2 := pf.at_ 2 113 x (by decide) (by rw [er]; rfl)
      rcases h0 with ⟨_, x0, rfl, _⟩ | ⟨e, _⟩ | ⟨e, _⟩ | ⟨e, _⟩ | ⟨e, _⟩ | ⟨e, _⟩
      rotate_left
      all_goals first | exact absurd e (by decide) | skip
      rcases h1 with ⟨e, _⟩ | ⟨e, _⟩ | ⟨e, _⟩ | ⟨_, x1, rfl, _⟩ | ⟨e, _⟩ | ⟨e, _⟩
      all_goals first | exact absurd e (by decide) | skip
      rcases h2 with ⟨e, _⟩ | ⟨e, _⟩ | ⟨e, _⟩ | ⟨e, _⟩ | ⟨e, _⟩ | ⟨_, f, l', y, _, hy, rfl, hl, _⟩
      all_goals first | exact absurd e (by decide) | skip
      have := s6 y (List.mem_of_getElem? hy)
      exact ⟨x0, x1, l', rfl, by omega⟩
  · obtain ⟨p, hp, hz⟩ := List.mem_flatMap.mp hz
    obtain ⟨i, hi⟩ := List.mem_iff_getElem?.mp hp
    obtain ⟨c, _, h⟩ := part i p hi
    exact nb1 c p h z hz
theorem ProgFit.tx {ds : List Df} (h : ProgFit ds) : TxP ds := by
  refine ⟨fun z => by have := h.n0; rw [z] at this; simp at this, by have := h.n1; omega, fun d hd => ?_⟩
  have D := h.defs d hd
  have m : d.1 ∈ ds.map (·.1) := List.mem_map.mpr ⟨d, hd, rfl⟩
  have b60 : (16 : Int) < 10 ^ 60 := by decide
  have b0 : -(10 ^ 60 : Int) < 0 := by decide
  have w0 := D.w0
  have w1 := D.w1
  have n1 := D.n1
  have dl := h.n1
  exact ⟨h.sg.let_ d.1 m, by have := h.sg.sz d.1 m; omega, h.sg.gives d.1 m, ⟨by omega, by omega⟩, fun r hr => (D.rows r hr).tx w1 (by omega) (by rw [List.length_map]; omega) h.sg.sz, by omega⟩
theorem TxR.sm {r : Row} (h : TxR r) : RowSm r := ⟨h.len, fun ks hk => h.inr hk⟩

end
section
variable {P : Program} {w : World} {K : PySem.W.Frag} {mg : Str → Option Value} {base : Heap} {a : Ad}
def RwAt (H : Hp) (v : V) (r : Row) : Prop := ∃ p vs, v = .ref p ∧ H p = some (.tup (.str r.1 :: vs)) ∧ All2 (PartAt H) vs r.2
def RsAt (H : Hp) (l : Addr) (rws : List Row) : Prop := ∃ vs, H l = some (.lst vs) ∧ All2 (RwAt H) vs rws
def DfAt (H : Hp) (v : V) (d : Df) : Prop := ∃ p l, v = .ref p ∧ H p = some (.tup [.str d.1.1, .str d.1.2, .int d.2.1, .ref l]) ∧ RsAt H l d.2.2
def PgAt (H : Hp) (pl : Addr) (ds : List Df) : Prop := ∃ vs, H pl = some (.lst vs) ∧ All2 (DfAt H) vs ds
theorem PartAt.same {H H' : Hp} (S : Same H H') (v : V) (p : Part) (h : PartAt H v p) : PartAt H' v p := by
  cases p with
  | inl y => exact h
  | inr l => obtain ⟨q, e, h⟩ := h; exact ⟨q, e, S _ _ h⟩
theorem RwAt.same {H H' : Hp} (S : Same H H') (v : V) (r : Row) (h : RwAt H v r) : RwAt H' v r := by
  obtain ⟨p, vs, e, h1, h2⟩ := h
  exact ⟨p, vs, e, S _ _ h1, h2.imp (PartAt.same S)⟩
theorem RsAt.same {H H' : Hp} (S : Same H H') {l : Addr} {r : List Row} (h : RsAt H l r) : RsAt H' l r := by
  obtain ⟨vs, h1, h2⟩ := h
  exact ⟨vs, S _ _ h1, h2.imp (RwAt.same S)⟩
theorem DfAt.same {H H' : Hp} (S : Same H H') (v : V) (d : Df) (h : DfAt H v d) : DfAt H' v d := by
  obtain ⟨p, l, e, h1, h2⟩ := h
  exact ⟨p, l, e, S _ _ h1, h2.same S⟩
theorem PgAt.same {H H' : Hp} (S : Same H H') {l : Addr} {r : List Df} (h : PgAt H l r) : PgAt H' l r := by
  obtain ⟨vs, h1, h2⟩ := h
  exact ⟨vs, S _ _ h1, h2.imp (DfAt.same S)⟩
structure RwB (n : Nat) (r : Row) : Prop where
  wd : r.1.cps.size ≤ 2000000
  ln : r.2.length ≤ 2000000
  qs : ∀ l, .inr l ∈ r.2 → l.length ≤ 2000000
structure DfB (n : Nat) (d : Df) : Prop where
  tk : d.1.1.cps.size ≤ 2000000
  asc : d.1.1.cps.all (· < 128) = true
  ln : d.2.2.length ≤ 2000000
  rows : ∀ r ∈ d.2.2, RwB n r
structure PgB (n : Nat) (ds : List Df) : Prop where
  ln : ds.length ≤ 2000000
  defs : ∀ d ∈ ds, DfB n d
def wholeB (p : Part) : Bool := p.isLeft
def belowB (p : Part) (b : Int) : Bool := match p with
  | .inl x => decide (0 ≤ x) && decide (x < b)
  | .inr _ => false
def placesB (p : Part) (b : Int) : Bool := match p with
  | .inl _ => false
  | .inr l => l.all fun x => decide (0 ≤ x) && decide (x < b)
def partP (nd nr : Nat) (w : Int) (c : Nat) (p : Part) : Bool := if c = 110 then wholeB p else if c = 113 then placesB p (8 + w) else if c = 112 then belowB p (8 + w) else if c = 107 then belowB p 10 else if c = 116 then belowB p nr else belowB p nd
def callB (ds : List Df) (r : Row) : Bool := match r.2 with
  | [_, .inl g, .inr l] => decide (l.length = (ds[g.toNat]?).elim 0 fun d => d.1.1.cps.size)
  | _ => false
def rowB (ds : List Df) (d : Df) (r : Row) : Bool := match LW.lookup r.1 with
  | none => false
  | some ls => decide (r.2.length = ls.cps.size) && (((plS ls).cps.toList.zip r.2).all fun q => partP ds.length d.2.2.length d.2.1 q.1 q.2) && (decide (r.1 ≠ "call") || callB ds r)
def okL (f : Nat) : List Str := if f = 0 then ["n"] else ["n", "h"]
def headB (f : Nat) (d : Df) : Bool := decide (d.1.1.cps.size ≤ 6) && (d.1.1.cps.toList.all fun c => decide ((⟨#[c]⟩ : Str) ∈ okL f)) && decide (d.1.2 ∈ okL f) && decide (0 ≤ d.2.1) && decide (d.2.1 < 17)
def lastB (d : Df) : Bool := (d.2.2.getLast?).elim false fun r => decide (r.1 ∈ (["jump", "back"] : List Str))
def defB (ds : List Df) (f : Nat) (d : Df) : Bool := headB f d && decide (1 ≤ d.2.2.length) && decide (d.2.2.length ≤ 40) && d.2.2.all (rowB ds d) && lastB d
def formB (ds : List Df) : Bool := decide (1 ≤ ds.length) && decide (ds.length ≤ 8) && (List.range ds.length).all fun f => (ds[f]?).elim false (defB ds f)
theorem PgAt.at_ {H : Hp} {pl : Addr} {ds : List Df} (h : PgAt H pl ds) {f : Nat} {d : Df} (e : ds[f]? = some d) : ∃ vs p l, H pl = some (.lst vs) ∧ vs.length = ds.length ∧ atI vs ((f : Nat) : Int) = some (.ref p) ∧ H p = some (.tup [.str d.1.1, .str d.1.2, .int d.2.1, .ref l]) ∧ RsAt H l d.2.2 := by
  obtain ⟨vs, h1, h2⟩ := h
  obtain ⟨v, hv, p, l, rfl, h3, h4⟩ := h2.get2 e
  exact ⟨vs, p, l, h1, h2.len, atI_nat hv, h3, h4⟩
theorem one_iff {x y : Nat} : ((⟨#[x]⟩ : Str) = ⟨#[y]⟩) ↔ x = y := ⟨fun h => by injection h with h; simpa using h, fun h => by rw [h]⟩
theorem plS_size (s : Str) : (plS s).cps.size = s.cps.size := by unfold plS; simp
theorem LW_pl : ∀ p ∈ LW, (plS p.2).cps.all (· < 128) = true ∧ p.2.cps.size ≤ 3 ∧ (p.1 = "call" → plS p.2 = "pfq") := by decide +kernel
theorem below_int {p : Part} {b : Int} (h : belowB p b = true) : ∃ x, p = .inl x ∧ 0 ≤ x ∧ x < b := by
  cases p with
  | inl x =>
    have h' : (decide (0 ≤ x) && decide (x < b)) = true := h
    rw [Bool.and_eq_true] at h'
    exact ⟨x, rfl, of_decide_eq_true h'.1, of_decide_eq_true h'.2⟩
  | inr l => cases h
theorem places_tup {p : Part} {b : Int} (h : placesB p b = true) : ∃ l, p = .inr l := by
  cases p with
  | inl x => cases h
  | inr l => exact ⟨l, rfl⟩
/-- a call row whose parts are good -/
theorem call_parts {ps : List Part} {nd nr : Nat} {w : Int} (l : ps.length = 3) (h : (((("pfq" : Str)).cps.toList.zip ps).all fun q => partP nd nr w q.1 q.2) = true) : ∃ x g l, ps = [x, .inl ((g : Nat) : Int), .inr l] ∧ g < nd := by
  match ps, l with
  | [x, y, z], _ =>
    have e : (("pfq" : Str)).cps.toList = [112, 102, 113] := by decide
    rw [e] at h
    simp only [List.zip_cons_cons, List.all_cons, Bool.and_eq_true] at h
    obtain ⟨_, h2, h3, _⟩ := h
    obtain ⟨g, rfl, g0, g1⟩ := below_int (show belowB y nd = true from h2)
    obtain ⟨l, rfl⟩ := places_tup (show placesB z _ = true from h3)
    obtain ⟨gN, rfl⟩ := Int.eq_ofNat_of_zero_le g0
    exact ⟨x, gN, l, rfl, by omega⟩
def valP (H : Hp) (v : V) : Part := match v with
  | .int x => .inl x
  | .ref q => (match H q with
    | some (.tup vs) => .inr (vs.filterMap fun u => match u with | .int i => some i | _ => none)
    | _ => .inl 0)
  | _ => .inl 0
theorem valP_of {H : Hp} {v : V} {p : Part} (h : PartAt H v p) : valP H v = p := by
  cases p with
  | inl x => cases (show v = .int x from h); rfl
  | inr l =>
    obtain ⟨q, rfl, e⟩ := h
    unfold valP
    simp only [e]
    congr 1
    clear e
    induction l with
    | nil => rfl
    | cons x r ih => rw [List.map_cons, List.filterMap_cons]; simp only; rw [ih]
theorem lenF_txt {H : Hp} {x : Str} (h : x.cps.size ≤ sizeLine) : lenF (.str x) H = some x.length := by
  show (if x.length ≤ sizeLine then some x.length else none) = _
  exact if_pos h
def valR (H : Hp) (v : V) : Row := match v with
  | .ref p => (match H p with
    | some (.tup (.str w :: vs)) => (w, vs.map (valP H))
    | _ => ("", []))
  | _ => ("", [])
theorem valPs_of {H : Hp} : ∀ {vs : List V} {ps : List Part}, All2 (PartAt H) vs ps → vs.map (valP H) = ps := by
  intro vs ps h
  induction h with
  | nil => rfl
  | cons h _ ih => rw [List.map_cons, ih, valP_of h]
theorem valR_of {H : Hp} {v : V} {r : Row} (h : RwAt H v r) : valR H v = r := by
  obtain ⟨p, vs, rfl, h1, h2⟩ := h
  unfold valR
  simp only [h1, valPs_of h2]
theorem all2_last {α β : Type} {R : α → β → Prop} {as : List α} {bs : List β} (h : All2 R as bs) {b : β} (e : bs.getLast? = some b) : ∃ a, as.getLast? = some a ∧ R a b := by
  rw [List.getLast?_eq_getElem?] at e
  obtain ⟨a, h1, h2⟩ := h.get2 e
  exact ⟨a, by rw [List.getLast?_eq_getElem?, h.len]; exact h1, h2⟩
theorem atI_lst {α : Type} {xs : List α} {x : α} (e : xs.getLast? = some x) : atI xs (-1) = some x := by
  rw [List.getLast?_eq_getElem?] at e
  have hl := (List.getElem?_eq_some_iff.mp e).1
  unfold atI ixN
  rw [if_neg (by decide), if_pos (by omega)]
  have : (-1 + (xs.length : Int)).toNat = xs.length - 1 := by omega
  rw [this]
  exact e
def sp_formed : Sp := fun vs H Q _ => ∃ (pl : Addr) (ds : List Df), vs = [.ref pl] ∧ PgAt H pl ds ∧ PgB 10 ds ∧ ∀ H', Same H H' → Q (.bl (formB ds)) H'

def sp_pgood : Sp := fun vs H Q _ => ∃ (pl one : Addr) (ds : List Df) (d : Df) (c : Nat) (v : V) (p : Part), vs = [.ref pl, .ref one, .str ⟨#[c]⟩, v] ∧ PgAt H pl ds ∧ DfAt H (.ref one) d ∧ (c = 113 ∨ c = 112 ∨ c = 107 ∨ c = 116 ∨ c = 102 ∨ c = 105) ∧ PartAt H v p ∧ (∀ l, p = .inr l → l.length ≤ 2000000) ∧ ∀ H', Same H H' → Q (.bl (partP ds.length d.2.2.length d.2.1 (pcode c) p)) H'
set_option maxHeartbeats 2000000 in
theorem ok_law_part_good (T : Txt K mg a) : FnOk P w K mg base (CX1 P w) 1 a.f_law_part_good a.d_law_part_good ["program", "one", "letter", "part"] sp_pgood := by
  refine T.F_law_part_good.okC sc_law_part_good (fun vs H Q E h => ?_) (fun cdv A outer s H vs Q E hr h => ?_)
  · obtain ⟨pl, one, ds, d, c, v, p, rfl, _⟩ := h
    rfl
  · obtain ⟨pl, one, ds, d, c, v, p, rfl, PG, DA, hc, hp, hl, q⟩ := h
    have hu := hu_of hr
    refine ⟨_, (pss_cons (ps_if (pt_cmpR op_eq (pv 2) pe_str (nomark _)) (pss_one (ps_ret (pe_and (pe_callB call_isF (by rfl) T.z_isinstance (by decide +kernel) (pa_cons (pv 3) (pa_cons (pe_bltn (v := .ty "tuple") (u := .type "tuple") (by rfl) T.z_tuple (by decide +kernel) (by rfl)) pa_nil))) (pe_one (pe_cmpR (op_eqE hu) (pe_comp (N' := ["p", "one"]) (cap := [none, some 1]) ⟨rfl, (by decide +kernel), (by decide +kernel), (by rfl), rfl, (by rfl)⟩ (by rfl) (pi_tup (pv 3)) (fun C_ ex_ s_ H_ => (pg_name (i := 0) (show (["p", "one"] : List Str).Nodup by decide +kernel) (by rfl) (Or.inl rfl))) gkp_name (fun C_ ex_ s_ H_ => (pifs_one (PW.pt (pw_or (pt_cmpR op_lt (pv 0) pe_int (nomark _)) (pw_or1 (pt_cmpR op_gt (pv 0) (pe_op op_add pe_int (pe_ix ix_F (pv 1) pe_int (fun _ _ => rfl))) (nomark _))))))) (fun C_ ex_ s_ H_ => (pv 0))) (pe_lst pa_nil) (nomark _)))))) pss_nil)
      (pss_cons (ps_if (pt_val (pe_callB call_isF (by rfl) T.z_isinstance (by decide +kernel) (pa_cons (pv 3) (pa_cons (pe_bltn (v := .ty "tuple") (u := .type "tuple") (by rfl) T.z_tuple (by decide +kernel) (by rfl)) pa_nil)))) (pss_one (ps_ret pe_bl)) pss_nil)
      (pss_cons (ps_set (i := 4) sc_law_part_good.nd (by rfl) (Or.inl rfl) (pe_dgetF hu (pe_disp (pps_cons pe_str (pe_op op_add pe_int (pe_ix ix_F (pv 1) pe_int (fun _ _ => rfl))) (pps_cons pe_str pe_int (pps_cons pe_str (pe_op op_sub (pe_callB call_lenF (by rfl) T.z_len (by decide +kernel) (pa_cons (pe_ix ix_F (pv 1) pe_int (fun _ _ => rfl)) pa_nil)) pe_int) (pps_cons pe_str (pe_op op_sub (pe_callB call_lenF (by rfl) T.z_len (by decide +kernel) (pa_cons (pv 0) pa_nil)) pe_int) (pps_cons pe_str pe_int pps_nil))))) (by rfl) (by rfl) (List.cons_ne_nil _ _) (Nat.le_of_ble_eq_true (by rfl))) (pv 2) (fun _ _ => rfl)))
      (pss_one (ps_ret (pe_or (pe_cmpR op_eq (pv 2) pe_str (nomark _)) (pe_one (pe_and (pe_cmpR op_le pe_int (pv 3) (nomark _)) (pe_one (pe_cmpR op_le (pv 3) (pv 4) (nomark _))))))))))), ?_⟩
    obtain ⟨op, ol, e1, h2, rv, h3, h4⟩ := DA
    cases e1
    obtain ⟨dv, h1, h5⟩ := PG
    have l4 := h4.len
    have l5 := h5.len
    simp! [h2]
    have eq1 : ((⟨#[c]⟩ : Str) = Str.ofString "q") ↔ c = 113 := by rw [show Str.ofString "q" = ⟨#[113]⟩ by decide]; exact one_iff
    have ei1 : ((⟨#[c]⟩ : Str) = Str.ofString "i") ↔ c = 105 := by rw [show Str.ofString "i" = ⟨#[105]⟩ by decide]; exact one_iff
    by_cases cq : c = 113
    · rw [if_pos (eq1.mpr cq)]
      have q1 : ∀ H', Same H H' → Q (.bl (placesB p (8 + d.2.1))) H' := fun H' S => by
        have := q H' S
        rw [cq] at this
        exact this
      cases p with
      | inl x =>
        cases (show v = .int x from hp)
        refine ⟨_, rfl, ?_⟩
        rw [if_neg (by decide)]
        exact q1 H (Same.refl _)
      | inr l =>
        obtain ⟨t, rfl, ht⟩ := hp
        have ll := hl l rfl
        refine ⟨"tuple", by rw [tyF_ref, ht]; rfl, ?_⟩
        rw [if_pos (by decide)]
        refine compTS (H1 := H) t (l.map V.int) (fun v => match v with | .int x => if x < 0 ∨ 7 + d.2.1 < x then some (.int x) else none | _ => none) (fun Q2 h2 => by simp! []; exact h2) ht (by rw [sizeLine_eq, List.length_map]; omega) ?_ ?_
        · intro x H2 R N hx S hy hn
          obtain ⟨i, _, rfl⟩ := List.mem_map.mp hx
          have h22 := S _ _ h2
          simp! [capSt, h22]
          by_cases c1 : i < 0
          · rw [if_pos c1]
            exact hy _ _ (by simp only; rw [if_pos (.inl c1)]) (Same.refl _)
          · rw [if_neg c1]
            by_cases c2 : 7 + d.2.1 < i
            · rw [if_pos c2]
              exact hy _ _ (by simp only; rw [if_pos (.inr c2)]) (Same.refl _)
            · rw [if_neg c2]
              exact hn (by simp only; rw [if_neg (by omega)]) _ (Same.refl _)
        · intro D H2 _ S2 hD
          intro b nb
          have hD2 := upd_old (u := .lst []) hD nb
          simp! [hD2]
          have := q1 _ (S2.step nb (u := .lst []))
          have e : ((l.map V.int).filterMap fun v => match v with | .int x => if x < 0 ∨ 7 + d.2.1 < x then some (V.int x) else none | _ => none).isEmpty = placesB (.inr l) (8 + d.2.1) := by
            show _ = l.all _
            clear hD hD2 this ht ll hl q q1
            induction l with
            | nil => rfl
            | cons x r ih =>
              rw [List.map_cons, List.filterMap_cons, List.all_cons]
              simp only
              by_cases c : x < 0 ∨ 7 + d.2.1 < x
              · rw [if_pos c]
                simp only [List.isEmpty_cons]
                by_cases c0 : 0 ≤ x
                · rw [decide_eq_false (show ¬ x < 8 + d.2.1 by omega)]; simp
                · rw [decide_eq_false c0]; simp
              · rw [if_neg c, decide_eq_true (show 0 ≤ x by omega), decide_eq_true (show x < 8 + d.2.1 by omega)]
                simpa using ih
          rw [e]
          exact this
    · rw [if_neg (fun z => cq (eq1.mp z))]
      cases p with
      | inr l =>
        obtain ⟨t, rfl, ht⟩ := hp
        refine ⟨"tuple", by rw [tyF_ref, ht]; rfl, ?_⟩
        rw [if_pos (by decide)]
        have := q H (Same.refl _)
        have e : partP ds.length d.2.2.length d.2.1 (pcode c) (.inr l) = false := by
          rcases hc with rfl | rfl | rfl | rfl | rfl | rfl
          · exact absurd rfl cq
          all_goals rfl
        rw [e] at this
        exact this
      | inl x =>
        cases (show v = .int x from hp)
        refine ⟨_, rfl, ?_⟩
        rw [if_neg (by decide)]
        simp! [tDisp, tPairs, tC]
        intro sd nsd
        have h22 := upd_old (u := .dK []) h2 nsd
        have h12 := upd_old (u := .dK []) h1 nsd
        have h32 := upd_old (u := .dK []) h3 nsd
        simp! [h22, h12, h32]
        refine ⟨[(.inr "p", .int (7 + d.2.1)), (.inr "k", .int 9), (.inr "t", .int (rv.length - 1)), (.inr "f", .int (dv.length - 1)), (.inr "i", .int 0)], rfl, by simp, ?_⟩
        rw [upd_upd]
        have S4 := Same.laid nsd (u := .dK (mergeK [] [(.inr "p", .int (7 + d.2.1)), (.inr "k", .int 9), (.inr "t", .int (rv.length - 1)), (.inr "f", .int (dv.length - 1)), (.inr "i", .int 0)]))
        have q1 := q _ S4
        rcases hc with rfl | rfl | rfl | rfl | rfl | rfl
        · exact absurd rfl cq
        all_goals
          refine ⟨_, by rfl, ?_⟩
          first
            | (rw [if_pos (ei1.mpr rfl)]; exact q1)
            | (rw [if_neg (fun z => absurd (ei1.mp z) (by decide))]
               have q2 : Q (.bl (decide (0 ≤ x) && decide (x < _))) _ := q1
               by_cases c0 : 0 ≤ x
               · rw [if_pos c0]
                 rw [decide_eq_true c0, Bool.true_and] at q2
                 refine ⟨_, rfl, ?_⟩
                 refine cast (congrArg (fun b => Q (V.bl b) _) (decide_eq_decide.mpr ?_)) q2
                 omega
               · rw [if_neg c0]
                 rw [decide_eq_false c0, Bool.false_and] at q2
                 exact q2)

def sp_rgood : Sp := fun vs H Q _ => ∃ (pl one : Addr) (ds : List Df) (d : Df) (v : V) (r : Row), vs = [.ref pl, .ref one, v] ∧ PgAt H pl ds ∧ DfAt H (.ref one) d ∧ RwAt H v r ∧ RwB 10 r ∧ PgB 10 ds ∧ ∀ H', Same H H' → Q (.bl (rowB ds d r)) H'
theorem valV_let (w : Str) : valV LET (.inr w) = (LW.lookup w).map V.str := by
  unfold LET valV
  generalize LW = l
  induction l with
  | nil => rfl
  | cons p r ih =>
    obtain ⟨k, s⟩ := p
    rw [List.map_cons, List.find?_cons, List.lookup_cons]
    by_cases c : w = k
    · subst c
      simp
    · have e1 : decide ((Sum.inr k : Key) = .inr w) = false := decide_eq_false fun z => c (by injection z with z; exact z.symm)
      simp only [e1, beq_eq_false_iff_ne.mpr c]
      exact ih
theorem plS_at {s : Str} {i c : Nat} (h : s.cps[i]? = some c) : (plS s).cps[i]? = some (pcode c) := by
  unfold plS
  simp only [Array.getElem?_map, h, Option.map_some]
theorem zip_all {B : Nat → Part → Bool} : ∀ {cs : List Nat} {ps : List Part}, (∀ (j c : Nat) (p : Part), cs[j]? = some c → ps[j]? = some p → B c p = true) → ((cs.zip ps).all fun q => B q.1 q.2) = true
  | [], _, _ => by simp
  | _ :: _, [], _ => by simp
  | c :: cs, p :: ps, h => by
    rw [List.zip_cons_cons, List.all_cons, h 0 c p rfl rfl, Bool.true_and]
    exact zip_all fun j c' p' h1 h2 => h (j + 1) c' p' h1 h2
theorem zip_not {B : Nat → Part → Bool} {cs : List Nat} {ps : List Part} {j c : Nat} {p : Part} (h1 : cs[j]? = some c) (h2 : ps[j]? = some p) (h : B c p = false) : ((cs.zip ps).all fun q => B q.1 q.2) = false := by
  cases e : (cs.zip ps).all fun q => B q.1 q.2 with
  | false => rfl
  | true =>
    have hz : (cs.zip ps)[j]? = some (c, p) := by rw [List.getElem?_zip_eq_some]; exact ⟨h1, h2⟩
    have := List.all_eq_true.mp e _ (List.mem_of_getElem? hz)
    rw [h] at this
    cases this
set_option maxHeartbeats 2000000 in
theorem ok_law_row_good (T : Txt K mg a) : FnOk P w K mg base (CX1 P w) 2 a.f_law_row_good a.d_law_row_good ["program", "one", "row"] sp_rgood := by
  refine T.F_law_row_good.okC sc_law_row_good (fun vs H Q E h => ?_) (fun cdv A outer s H vs Q E hr h => ?_)
  · obtain ⟨pl, one, ds, d, v, r, rfl, _⟩ := h
    rfl
  · obtain ⟨pl, one, ds, d, v, r, rfl, PG, DA, RW, rb, pb, q⟩ := h
    have hu := hu_of hr
    refine ⟨_, (pss_cons (ps_set (i := 3) sc_law_row_good.nd (by rfl) (Or.inl rfl) (pe_dget1 hu (pe_call0 (ok_law_letters T) (hr.mono (by decide)) (by rfl) T.m_law_letters T.F_law_letters.kp T.b_law_letters .nil pass1) (pe_ix ix_F (pv 2) pe_int (fun _ _ => rfl)) ⟨rfl, rfl, rfl, rfl⟩))
      (pss_cons (ps_if (PW.pt (pw_or (pt_cmp (pc_isN (pv 3))) (pw_or1 (pt_cmpR op_ne (pe_callB call_lenF (by rfl) T.z_len (by decide +kernel) (pa_cons (pv 2) pa_nil)) (pe_op op_add pe_int (pe_callB call_lenF (by rfl) T.z_len (by decide +kernel) (pa_cons (pv 3) pa_nil))) (nomark _))))) (pss_one (ps_ret pe_bl)) pss_nil)
      (pss_cons (ps_for PassesOwn.never (by rfl) (pi_range1 (by rfl) T.z_range (pa_cons (pe_callB call_lenF (by rfl) T.z_len (by decide +kernel) (pa_cons (pv 3) pa_nil)) pa_nil)) (pg_name (i := 4) sc_law_row_good.nd (by rfl) (Or.inl rfl))
      (pss_one (ps_if (pt_not (pt_val (pe_call (ok_law_part_good T) (hr.mono (by decide)) (by rfl) T.m_law_part_good T.F_law_part_good.kp T.b_law_part_good .nil pass1 (pa_cons (pv 0) (pa_cons (pv 1) (pa_cons (pe_ix ix_str (pv 3) (pv 4) (fun _ _ => rfl)) (pa_cons (pe_ix ix_F (pv 2) (pe_op op_add pe_int (pv 4)) (fun _ _ => rfl)) pa_nil))))))) (pss_one (ps_ret pe_bl)) pss_nil)))
      (pss_one (ps_ret (pe_or (pe_cmpR op_ne (pe_ix ix_F (pv 2) pe_int (fun _ _ => rfl)) pe_str (nomark _)) (pe_one (pe_cmpR op_eq (pe_callB call_lenF (by rfl) T.z_len (by decide +kernel) (pa_cons (pe_ix ix_F (pv 2) pe_int (fun _ _ => rfl)) pa_nil)) (pe_callB call_lenF (by rfl) T.z_len (by decide +kernel) (pa_cons (pe_ix ix_F (pe_ix ix_F (pv 0) (pe_ix ix_F (pv 2) pe_int (fun _ _ => rfl)) (fun _ _ => rfl)) pe_int (fun _ _ => rfl)) pa_nil)) (nomark _))))))))), ?_⟩
    obtain ⟨p, us, rfl, hp, PA⟩ := RW
    have ul := PA.len
    have r10 := rb.ln
    have q1 : ∀ H', Same H H' → ∀ b, rowB ds d r = b → Q (.bl b) H' := fun H' S b e => by rw [← e]; exact q H' S
    clear q
    unfold rowB at q1
    simp! [tDGet1]
    refine ⟨rfl, fun pe H1 S1 np e1 => ?_⟩
    have hp1 := S1 _ _ hp
    refine ⟨pe, rfl, .inl ⟨_, .of e1⟩, _, by rw [hp1]; rfl, _, atI_0, _, DGet.k (k := .inr r.1) e1, ?_⟩
    rw [valV_let]
    cases hlk : LW.lookup r.1 with
    | none =>
      simp only [hlk] at q1
      simp! [Option.map_none, Option.getD_none]
      exact q1 _ S1 _ rfl
    | some ls =>
      simp only [hlk] at q1
      obtain ⟨la, l3, lc⟩ := LW_pl _ (LW_mem hlk)
      obtain ⟨_, lsa, _⟩ := LW_ok _ (LW_mem hlk)
      have lsl := LW_letter _ (LW_mem hlk)
      simp only at la l3 lc lsa lsl
      simp! [Option.map_some, Option.getD_some, hp1]
      refine ⟨_, lenF_txt (by rw [sizeLine_eq]; omega), ?_⟩
      have e0 : (((us.length + 1 : Nat)) : Int) = 1 + (ls.length : Nat) ↔ r.2.length = ls.cps.size := by
        rw [show ls.length = ls.cps.size from rfl, ul]
        omega
      by_cases c : r.2.length = ls.cps.size
      · rw [if_neg (by rw [e0]; exact fun z => z c)]
        rw [decide_eq_true c] at q1
        refine for1 (H1 := H1) (ls.cps.size : Int) (fun Q2 h2 => by simp! []; exact ⟨_, lenF_txt (by rw [sizeLine_eq]; omega), h2⟩) (by omega) (by omega) (fun i σ H2 => ∃ v4 : Option V, σ = [some (.ref pl), some (.ref one), some (.ref p), some (.str ls), v4] ∧ Same H H2 ∧ ∀ (j c : Nat) (pt : Part), j < i → (plS ls).cps.toList[j]? = some c → r.2[j]? = some pt → partP ds.length d.2.2.length d.2.1 c pt = true) ⟨_, rfl, S1, fun j c pt h => absurd h (Nat.not_lt_zero _)⟩ ?_ ?_
        · rintro i σ H2 hi ⟨v4, rfl, S2, inv⟩
          have hi1 : i < ls.cps.size := by omega
          have hi2 : i < r.2.length := by omega
          have hi3 : i < us.length := by omega
          have g1 : ls.cps[i]? = some ls.cps[i] := Array.getElem?_eq_getElem hi1
          have g2 := List.getElem?_eq_getElem hi2
          have g3 := List.getElem?_eq_getElem hi3
          have pt := PA.get i _ _ g3 g2
          have hp2 := S2 _ _ hp
          have a1 : atI (V.str r.1 :: us) (1 + ((i : Nat) : Int)) = some us[i] := by
            rw [show (1 + ((i : Nat) : Int)) = ((i + 1 : Nat) : Int) by omega]
            exact atI_nat (by rw [List.getElem?_cons_succ]; exact g3)
          have a2 : atI ls.cps.toList ((i : Nat) : Int) = some ls.cps[i] := atI_nat (by rw [Array.getElem?_toList]; exact g1)
          have hmem : r.2[i] ∈ r.2 := List.getElem_mem hi2
          have hcc := lsl i _ g1
          have hpl := plS_at g1
          revert hpl g1 g2 g3 pt a1 a2 hcc hmem
          generalize ls.cps[i] = ch
          generalize us[i] = uv
          generalize r.2[i] = rp
          intro g1 g2 g3 pt a1 a2 hmem hcc hpl
          simp! [Int.zero_add, hp2, a1]
          refine ⟨_, _, ch, rfl, rfl, by rw [sizeLine_eq]; show ls.cps.size ≤ _; omega, a2, ?_⟩
          refine ⟨_, by rw [hp2]; rfl, _, a1, pl, one, ds, d, ch, uv, rp, rfl, PG.same S2, DA.same S2, by omega, PartAt.same S2 _ _ pt, fun l e => ?_, fun H3 S3 => ⟨_, rfl, ?_⟩⟩
          · subst e
            have := rb.qs l hmem
            omega
          · cases hB : partP ds.length d.2.2.length d.2.1 (pcode ch) rp with
            | false =>
              rw [if_pos rfl]
              refine q1 _ (S2.trans S3) _ ?_
              rw [zip_not (by rw [Array.getElem?_toList]; exact hpl) g2 hB]
              simp only [Bool.and_false, Bool.false_and]
            | true =>
              rw [if_neg (by decide)]
              refine ⟨S2.trans S3, fun j c' pt' hj h1 h2 => ?_⟩
              by_cases e : j = i
              · subst e
                rw [Array.getElem?_toList, hpl] at h1
                rw [g2] at h2
                cases h1
                cases h2
                exact hB
              · exact inv j c' pt' (by omega) h1 h2
        · rintro σ H2 ⟨v4, rfl, S2, inv⟩
          have hp2 := S2 _ _ hp
          simp! [hp2]
          have hall : (((plS ls).cps.toList.zip r.2).all fun q => partP ds.length d.2.2.length d.2.1 q.1 q.2) = true := zip_all fun j c' pt' h1 h2 => inv j c' pt' (by
            have := (List.getElem?_eq_some_iff.mp h2).1
            omega) h1 h2
          rw [hall] at q1
          by_cases cw : r.1 = Str.ofString "call"
          · rw [if_neg (fun z => z cw)]
            have ec := lc cw
            rw [ec] at hall
            have l3' : r.2.length = 3 := by
              rw [c, ← plS_size, ec]; rfl
            obtain ⟨x, g, l, eps, gd⟩ := call_parts l3' hall
            have PA2 := PA.imp (PartAt.same S2)
            rw [eps] at PA2
            cases PA2 with
            | cons h1 t1 => cases t1 with
              | cons h2 t2 => cases t2 with
                | cons h3 t3 =>
                  cases t3
                  cases (show _ = V.int (g : Int) from h2)
                  obtain ⟨tq, rfl, htq⟩ := h3
                  obtain ⟨dv, dp, dl, z1, zl, z2, z3, _⟩ := (PG.same S2).at_ (List.getElem?_eq_getElem gd)
                  have tk := (pb.defs _ (List.getElem_mem gd)).tk
                  refine ⟨_, atI_3, _, by rw [lenF_ref, htq]; rfl, _, atI_2, _, rfl, _, by rw [z1]; rfl, _, z2, _, rfl, _, by rw [z3]; rfl, _, atI_0, _, lenF_txt (by rw [sizeLine_eq]; omega), ?_⟩
                  refine q1 H2 S2 _ ?_
                  rw [decide_eq_false (fun z => z cw)]
                  have ecb : callB ds r = decide (l.length = ds[g].1.1.cps.size) := by
                    unfold callB
                    rw [eps]
                    simp only [Int.toNat_natCast, List.getElem?_eq_getElem gd, Option.elim_some]
                  rw [ecb]
                  have e5 : decide ((((l.map V.int).length : Nat) : Int) = ((ds[g].1.1.length : Nat) : Int)) = decide (l.length = ds[g].1.1.cps.size) := by
                    rw [List.length_map]
                    exact decide_eq_decide.mpr (by rw [show ds[g].1.1.length = ds[g].1.1.cps.size from rfl]; omega)
                  rw [e5]
                  simp only [Bool.true_and, Bool.false_or]
          · rw [if_pos cw]
            refine q1 _ S2 _ ?_
            rw [decide_eq_true cw]
            rfl
      · rw [if_pos (by rw [e0]; exact c)]
        refine q1 _ S1 _ ?_
        rw [decide_eq_false c]
        rfl

end
section
variable {P : Program} {w : World} {K : PySem.W.Frag} {mg : Str → Option Value} {base : Heap} {a : Ad}

def nhL : List Str := ["n", "h"]
def defL (ds : List Df) (d : Df) : Bool := decide (d.1.1.cps.size ≤ 6) && (d.1.1.cps.toList.all fun c => decide ((⟨#[c]⟩ : Str) ∈ nhL)) && decide (d.1.2 ∈ nhL) && decide (0 ≤ d.2.1) && decide (d.2.1 ≤ 16) && decide (1 ≤ d.2.2.length) && decide (d.2.2.length ≤ 40) && lastB d && d.2.2.all (rowB ds d)
def firstB (d : Df) : Bool := (d.1.1.cps.toList.all fun c => decide (c = 110)) && decide (d.1.2 = "n")
theorem formB_eq (ds : List Df) : formB ds = (decide (1 ≤ ds.length) && decide (ds.length ≤ 8) && (ds[0]?).elim false firstB && ds.all (defL ds)) := by
  have en : Str.ofString "n" = ⟨#[110]⟩ := by decide
  have eh : Str.ofString "h" = ⟨#[104]⟩ := by decide
  rw [Bool.eq_iff_iff]
  unfold formB
  simp only [Bool.and_eq_true, decide_eq_true_eq, List.all_eq_true, List.mem_range]
  constructor
  · rintro ⟨⟨h1, h8⟩, hf⟩
    have g0 := List.getElem?_eq_getElem (show 0 < ds.length by omega)
    refine ⟨⟨⟨h1, h8⟩, ?_⟩, ?_⟩
    · have := hf 0 (by omega)
      rw [g0] at this ⊢
      simp only [Option.elim_some] at this ⊢
      unfold defB headB okL at this
      simp only [Bool.and_eq_true, decide_eq_true_eq, List.all_eq_true, if_true, List.mem_singleton] at this
      unfold firstB
      simp only [Bool.and_eq_true, decide_eq_true_eq, List.all_eq_true]
      obtain ⟨⟨⟨⟨⟨⟨⟨⟨_, a⟩, b⟩, _⟩, _⟩, _⟩, _⟩, _⟩, _⟩ := this
      exact ⟨fun c hc => by have := a c hc; rw [en] at this; exact one_iff.mp this, b⟩
    · intro d hd
      obtain ⟨i, hi, rfl⟩ := List.getElem_of_mem hd
      have := hf i hi
      rw [List.getElem?_eq_getElem hi] at this
      simp only [Option.elim_some] at this
      unfold defB headB at this
      simp only [Bool.and_eq_true, decide_eq_true_eq, List.all_eq_true] at this
      unfold defL
      simp only [Bool.and_eq_true, decide_eq_true_eq, List.all_eq_true]
      obtain ⟨⟨⟨⟨⟨⟨⟨⟨a1, a2⟩, a3⟩, a4⟩, a5⟩, a6⟩, a7⟩, a8⟩, a9⟩ := this
      have sub : ∀ x, x ∈ okL i → x ∈ nhL := fun x hx => by
        unfold okL at hx
        unfold nhL
        split at hx
        · rw [List.mem_singleton.mp hx]; exact List.mem_cons_self
        · exact hx
      exact ⟨⟨⟨⟨⟨⟨⟨⟨a1, fun c hc => sub _ (a2 c hc)⟩, sub _ a3⟩, a4⟩, by omega⟩, a6⟩, a7⟩, a9⟩, a8⟩
  · rintro ⟨⟨⟨h1, h8⟩, hf⟩, ha⟩
    refine ⟨⟨h1, h8⟩, fun i hi => ?_⟩
    have g0 := List.getElem?_eq_getElem (show 0 < ds.length by omega)
    rw [g0] at hf
    simp only [Option.elim_some] at hf
    unfold firstB at hf
    simp only [Bool.and_eq_true, decide_eq_true_eq, List.all_eq_true] at hf
    have := ha _ (List.getElem_mem hi)
    unfold defL at this
    simp only [Bool.and_eq_true, decide_eq_true_eq, List.all_eq_true] at this
    obtain ⟨⟨⟨⟨⟨⟨⟨⟨a1, a2⟩, a3⟩, a4⟩, a5⟩, a6⟩, a7⟩, a9⟩, a8⟩ := this
    rw [List.getElem?_eq_getElem hi]
    simp only [Option.elim_some]
    unfold defB headB
    simp only [Bool.and_eq_true, decide_eq_true_eq, List.all_eq_true]
    refine ⟨⟨⟨⟨⟨⟨⟨⟨a1, fun c hc => ?_⟩, ?_⟩, a4⟩, by omega⟩, a6⟩, a7⟩, a8⟩, a9⟩
    · unfold okL
      by_cases c0 : i = 0
      · subst c0
        rw [if_pos rfl, hf.1 c hc, ← en]
        exact List.mem_cons_self
      · rw [if_neg c0]
        exact a2 c hc
    · unfold okL
      by_cases c0 : i = 0
      · subst c0
        rw [if_pos rfl, hf.2]
        exact List.mem_cons_self
      · rw [if_neg c0]
        exact a3
theorem nh_ite {g : Str} {F R : Prop} (h : g ∈ nhL) (r : R) : if ¬ g = Str.ofString "n" then (if ¬ g = Str.ofString "h" then F else R) else R := by
  by_cases c : g = Str.ofString "n"
  · rw [if_neg (fun z => z c)]; exact r
  · rw [if_pos c]
    by_cases c2 : g = Str.ofString "h"
    · rw [if_neg (fun z => z c2)]; exact r
    · unfold nhL at h
      rcases List.mem_cons.mp h with h | h
      · exact absurd h c
      · exact absurd (List.mem_singleton.mp h) c2
theorem jb_ite {g : Str} {F R : Prop} (h : g ∈ (["jump", "back"] : List Str)) (r : R) : if ¬ g = Str.ofString "jump" then (if ¬ g = Str.ofString "back" then F else R) else R := by
  by_cases c : g = Str.ofString "jump"
  · rw [if_neg (fun z => z c)]; exact r
  · rw [if_pos c]
    by_cases c2 : g = Str.ofString "back"
    · rw [if_neg (fun z => z c2)]; exact r
    · rcases List.mem_cons.mp h with h | h
      · exact absurd h c
      · exact absurd (List.mem_singleton.mp h) c2
theorem rows_bad {H : Hp} (B : Row → Bool) : ∀ {vs : List V} {rs : List Row}, All2 (RwAt H) vs rs → (vs.filterMap fun v => if B (valR H v) = true then none else some v).isEmpty = rs.all B := by
  intro vs rs h
  induction h with
  | nil => rfl
  | cons h _ ih =>
    rw [List.filterMap_cons, List.all_cons, valR_of h]
    rename_i r _ _ _
    cases e : B r with
    | true => rw [if_pos rfl, Bool.true_and]; exact ih
    | false => rw [if_neg (by decide)]; rfl
set_option maxHeartbeats 2000000 in
theorem ok_law_formed (T : Txt K mg a) : FnOk P w K mg base (CX1 P w) 3 a.f_law_formed a.d_law_formed ["program"] sp_formed := by
  refine T.F_law_formed.okC sc_law_formed (fun vs H Q E h => ?_) (fun cdv A outer s H vs Q E hr h => ?_)
  · obtain ⟨pl, ds, rfl, _⟩ := h
    rfl
  · obtain ⟨pl, ds, rfl, PG, pb, q⟩ := h
    have hu := hu_of hr
    refine ⟨_, (pss_cons (ps_if (PW.pt (pw_or (pt_cmpR op_lt (pe_callB call_lenF (by rfl) T.z_len (by decide +kernel) (pa_cons (pv 0) pa_nil)) pe_int (nomark _)) (pw_or1 (pt_cmpR op_gt (pe_callB call_lenF (by rfl) T.z_len (by decide +kernel) (pa_cons (pv 0) pa_nil)) pe_int (nomark _))))) (pss_one (ps_ret pe_bl)) pss_nil)
      (pss_cons (ps_if (PW.pt (pw_or (pt_cmpR (op_neE hu) (pe_comp (N' := ["sign"]) (cap := [none]) ⟨rfl, (by decide +kernel), (by decide +kernel), (by rfl), rfl, (by rfl)⟩ (by rfl) (pi_str (pe_ix ix_F (pe_ix ix_F (pv 0) pe_int (fun _ _ => rfl)) pe_int (fun _ _ => rfl))) (fun C_ ex_ s_ H_ => (pg_name (i := 0) (show (["sign"] : List Str).Nodup by decide +kernel) (by rfl) (Or.inl rfl))) gkp_name (fun C_ ex_ s_ H_ => (pifs_one (pt_cmpR op_ne (pv 0) pe_str (nomark _)))) (fun C_ ex_ s_ H_ => (pv 0))) (pe_lst pa_nil) (nomark _)) (pw_or1 (pt_cmpR op_ne (pe_ix ix_F (pe_ix ix_F (pv 0) pe_int (fun _ _ => rfl)) pe_int (fun _ _ => rfl)) pe_str (nomark _))))) (pss_one (ps_ret pe_bl)) pss_nil)
      (pss_cons (ps_for PassesOwn.never (by rfl) (pi_list (pv 0)) (pg_name (i := 1) sc_law_formed.nd (by rfl) (Or.inr rfl))
      (pss_cons (ps_asg (pv 1) (pg_tup (n := 4) (by rfl) (pgs_cons (pg_name (i := 2) sc_law_formed.nd (by rfl) (Or.inl rfl)) (pgs_cons (pg_name (i := 3) sc_law_formed.nd (by rfl) (Or.inl rfl)) (pgs_cons (pg_name (i := 4) sc_law_formed.nd (by rfl) (Or.inl rfl)) (pgs_cons (pg_name (i := 5) sc_law_formed.nd (by rfl) (Or.inl rfl)) pgs_nil))))))
      (pss_cons (ps_if (PW.pt (pw_or (pt_cmpR op_gt (pe_callB call_lenF (by rfl) T.z_len (by decide +kernel) (pa_cons (pv 2) pa_nil)) pe_int (nomark _)) (pw_or1 (pt_cmpR (op_neE hu) (pe_comp (N' := ["sign"]) (cap := [none]) ⟨rfl, (by decide +kernel), (by decide +kernel), (by rfl), rfl, (by rfl)⟩ (by rfl) (pi_str (pv 2)) (fun C_ ex_ s_ H_ => (pg_name (i := 0) (show (["sign"] : List Str).Nodup by decide +kernel) (by rfl) (Or.inl rfl))) gkp_name (fun C_ ex_ s_ H_ => (pifs_one (PW.pt (pw_and (pt_cmpR op_ne (pv 0) pe_str (nomark _)) (pw_and1 (pt_cmpR op_ne (pv 0) pe_str (nomark _))))))) (fun C_ ex_ s_ H_ => (pv 0))) (pe_lst pa_nil) (nomark _))))) (pss_one (ps_ret pe_bl)) pss_nil)
      (pss_cons (ps_if (PW.pt (pw_or (PW.pt (pw_and (pt_cmpR op_ne (pv 3) pe_str (nomark _)) (pw_and1 (pt_cmpR op_ne (pv 3) pe_str (nomark _))))) (pw_or (pt_cmpR op_lt (pv 4) pe_int (nomark _)) (pw_or (pt_cmpR op_gt (pv 4) pe_int (nomark _)) (pw_or (pt_cmpR (op_eqE hu) (pv 5) (pe_lst pa_nil) (nomark _)) (pw_or1 (pt_cmpR op_gt (pe_callB call_lenF (by rfl) T.z_len (by decide +kernel) (pa_cons (pv 5) pa_nil)) pe_int (nomark _)))))))) (pss_one (ps_ret pe_bl)) pss_nil)
      (pss_cons (ps_if (PW.pt (pw_and (pt_cmpR op_ne (pe_ix ix_F (pe_ix ix_F (pv 5) (pe_un un_neg pe_int) (fun _ _ => rfl)) pe_int (fun _ _ => rfl)) pe_str (nomark _)) (pw_and1 (pt_cmpR op_ne (pe_ix ix_F (pe_ix ix_F (pv 5) (pe_un un_neg pe_int) (fun _ _ => rfl)) pe_int (fun _ _ => rfl)) pe_str (nomark _))))) (pss_one (ps_ret pe_bl)) pss_nil)
      (pss_one (ps_if (pt_cmpR (op_neE hu) (pe_comp (N' := ["row", "program", "one"]) (cap := [none, some 0, some 1]) ⟨rfl, (by decide +kernel), (by decide +kernel), (by rfl), rfl, (by rfl)⟩ (by rfl) (pi_list (pv 5)) (fun C_ ex_ s_ H_ => (pg_name (i := 0) (show (["row", "program", "one"] : List Str).Nodup by decide +kernel) (by rfl) (Or.inl rfl))) gkp_name (fun C_ ex_ s_ H_ => (pifs_one (pt_not (pt_val (pe_call (ok_law_row_good T) (by exact hr.mono (by decide)) (by rfl) T.m_law_row_good T.F_law_row_good.kp T.b_law_row_good .nil pass1 (pa_cons (pv 1) (pa_cons (pv 2) (pa_cons (pv 0) pa_nil)))))))) (fun C_ ex_ s_ H_ => (pv 0))) (pe_lst pa_nil) (nomark _)) (pss_one (ps_ret pe_bl)) pss_nil)))))))
      (pss_one (ps_ret pe_bl))))), ?_⟩
    obtain ⟨dv, h1, h2⟩ := id PG
    have l1 := h2.len
    have l0 := pb.ln
    rw [formB_eq] at q
    have q1 : ∀ H', Same H H' → ∀ b, (decide (1 ≤ ds.length) && decide (ds.length ≤ 8) && (ds[0]?).elim false firstB && ds.all (defL ds)) = b → Q (.bl b) H' := fun H' S b e => by rw [← e]; exact q H' S
    clear q
    simp! [h1]
    by_cases c1 : ((dv.length : Nat) : Int) < 1
    · rw [if_pos c1]
      refine q1 _ (Same.refl _) _ ?_
      rw [decide_eq_false (show ¬ 1 ≤ ds.length by omega)]
      simp only [Bool.false_and]
    rw [if_neg c1]
    by_cases c8 : 8 < ((dv.length : Nat) : Int)
    · rw [if_pos c8]
      refine q1 _ (Same.refl _) _ ?_
      rw [decide_eq_false (show ¬ ds.length ≤ 8 by omega)]
      simp only [Bool.false_and, Bool.and_false]
    rw [if_neg c8]
    obtain ⟨d0, hd0, m0⟩ : ∃ d0, ds[0]? = some d0 ∧ d0 ∈ ds := ⟨_, List.getElem?_eq_getElem (show 0 < ds.length by omega), List.getElem_mem _⟩
    rw [hd0, decide_eq_true (show 1 ≤ ds.length by omega), decide_eq_true (show ds.length ≤ 8 by omega)] at q1
    simp only [Option.elim_some, Bool.true_and] at q1
    obtain ⟨_, p0, l0', g1, _, a0, g2, _⟩ := PG.at_ hd0
    rw [h1] at g1
    cases g1
    have db0 := pb.defs d0 m0
    have tk0 := db0.tk
    have en : Str.ofString "n" = ⟨#[110]⟩ := by decide
    have a0' : atI dv 0 = some (.ref p0) := a0
    refine compSS (H1 := H) d0.1.1 (fun c => if c = 110 then none else some (.str ⟨#[c]⟩)) (fun Q2 h3 => by simp! [h1, a0', g2]; exact h3) db0.asc (by rw [sizeLine_eq]; omega) ?_ ?_
    · intro c H2 R N hc S2 hy hn
      simp! [capSt]
      rw [en]
      simp only [one_iff]
      by_cases cc : c = 110
      · rw [if_neg (fun z => z cc)]
        exact hn (by rw [if_pos cc]) _ (Same.refl _)
      · rw [if_pos cc]
        exact hy _ _ (by rw [if_neg cc]) (Same.refl _)
    intro D H2 _ S2 hD b nb
    have hD3 := upd_old (u := .lst []) hD nb
    have S3 := S2.step nb (u := .lst [])
    revert hD3 S3
    generalize upd H2 b (.lst []) = H3
    intro hD3 S3
    have h13 := S3 _ _ h1
    have g23 := S3 _ _ g2
    simp! [hD3, h13, a0', g23]
    have eE : (d0.1.1.cps.toList.filterMap fun c => if c = 110 then none else some (V.str ⟨#[c]⟩)).isEmpty = d0.1.1.cps.toList.all fun c => decide (c = 110) := by
      generalize d0.1.1.cps.toList = l
      induction l with
      | nil => rfl
      | cons x r ih =>
        rw [List.filterMap_cons, List.all_cons]
        by_cases c : x = 110
        · rw [if_pos c, decide_eq_true c]; simpa using ih
        · rw [if_neg c, decide_eq_false c]; rfl
    rw [eE]
    unfold firstB at q1
    cases hall : d0.1.1.cps.toList.all fun c => decide (c = 110) with
    | false =>
      rw [if_pos rfl]
      refine q1 _ S3 _ ?_
      rw [hall]
      simp only [Bool.false_and]
    | true =>
      rw [if_neg (by decide)]
      rw [hall] at q1
      by_cases cg : d0.1.2 = Str.ofString "n"
      · rw [if_neg (fun z => z cg)]
        rw [decide_eq_true cg] at q1
        simp only [Bool.true_and] at q1
        refine forL (H1 := H3) pl dv (fun Q2 h3 => by simp! []; exact h3) (fun i σ H4 => ∃ v1 v2 v3 v4 v5 : Option V, σ = [some (.ref pl), v1, v2, v3, v4, v5] ∧ Same H H4 ∧ (ds.take i).all (defL ds) = true) ⟨_, _, _, _, _, rfl, S3, rfl⟩ (fun i σ H4 _ ⟨_, _, _, _, _, _, S4, _⟩ => .of (S4 _ _ h1)) ?_ ?_
        · rintro i x σ H4 hx ⟨v1, v2, v3, v4, v5, rfl, S4, inv⟩
          have hi : i < ds.length := by
            have := (List.getElem?_eq_some_iff.mp hx).1
            omega
          have hd := List.getElem?_eq_getElem hi
          have md := List.getElem_mem hi
          revert hd md
          generalize ds[i] = d
          intro hd md
          have DA := h2.get i x d hx hd
          have db := pb.defs d md
          have tk := db.tk
          have hln := db.ln
          obtain ⟨op, ol, rfl, o2, rv, o3, o4⟩ := DA.same S4
          have ol4 := o4.len
          have bad : defL ds d = false → ∀ H', Same H H' → Q (.bl false) H' := fun e H' S' => by
            refine q1 _ S' _ ?_
            cases e5 : ds.all (defL ds) with
            | false => rfl
            | true => rw [List.all_eq_true.mp e5 d md] at e; cases e
          have good : defL ds d = true → (ds.take (i + 1)).all (defL ds) = true := fun e => by
            rw [List.take_succ, hd, List.all_append, inv]
            simp [e]
          clear q1
          simp! []
          refine gTup_of o2 rfl ?_
          simp! []
          refine ⟨_, lenF_txt (by rw [sizeLine_eq]; omega), ?_⟩
          by_cases c6 : 6 < ((d.1.1.length : Nat) : Int)
          · rw [if_pos c6]
            refine bad ?_ _ S4
            unfold defL
            rw [decide_eq_false (show ¬ d.1.1.cps.size ≤ 6 by have : d.1.1.length = d.1.1.cps.size := rfl; omega)]
            simp only [Bool.false_and]
          rw [if_neg c6]
          have c6' : d.1.1.cps.size ≤ 6 := by have : d.1.1.length = d.1.1.cps.size := rfl; omega
          refine compSS (H1 := H4) d.1.1 (fun c => if c = 110 ∨ c = 104 then none else some (.str ⟨#[c]⟩)) (fun Q2 h3 => by simp! []; exact h3) db.asc (by rw [sizeLine_eq]; omega) ?_ ?_
          · intro c H5 R N hc S5 hy hn
            simp! [capSt]
            rw [en, show Str.ofString "h" = ⟨#[104]⟩ by decide]
            simp only [one_iff]
            by_cases cc : c = 110
            · rw [if_neg (fun z => z cc)]
              exact hn (by rw [if_pos (.inl cc)]) _ (Same.refl _)
            · rw [if_pos cc]
              by_cases c2 : c = 104
              · rw [if_neg (fun z => z c2)]
                exact hn (by rw [if_pos (.inr c2)]) _ (Same.refl _)
              · rw [if_pos c2]
                exact hy _ _ (by rw [if_neg (by omega)]) (Same.refl _)
          intro D4 H5 _ S5 hD5 b5 nb5
          have hD6 := upd_old (u := .lst []) hD5 nb5
          have S6 := (S4.trans S5).step nb5 (u := .lst [])
          have S46 := S5.step nb5 (u := .lst [])
          revert hD6 S6 S46
          generalize upd H5 b5 (.lst []) = H6
          intro hD6 S6 S46
          have o36 := S46 _ _ o3
          have o46 := o4.imp (RwAt.same S46)
          simp! [hD6, o36]
          have eE : (d.1.1.cps.toList.filterMap fun c => if c = 110 ∨ c = 104 then none else some (V.str ⟨#[c]⟩)).isEmpty = d.1.1.cps.toList.all fun c => decide ((⟨#[c]⟩ : Str) ∈ nhL) := by
            generalize d.1.1.cps.toList = l
            have em : ∀ x : Nat, ((⟨#[x]⟩ : Str) ∈ nhL) ↔ (x = 110 ∨ x = 104) := fun x => by
              unfold nhL
              rw [List.mem_cons, List.mem_singleton, en, show Str.ofString "h" = ⟨#[104]⟩ by decide, one_iff, one_iff]
            induction l with
            | nil => rfl
            | cons x r ih =>
              rw [List.filterMap_cons, List.all_cons]
              by_cases c : x = 110 ∨ x = 104
              · rw [if_pos c, decide_eq_true ((em x).mpr c)]; simpa using ih
              · rw [if_neg c, decide_eq_false (fun z => c ((em x).mp z))]; rfl
          rw [eE]
          cases hall4 : d.1.1.cps.toList.all fun c => decide ((⟨#[c]⟩ : Str) ∈ nhL) with
          | false =>
            rw [if_pos rfl]
            refine bad ?_ _ S6
            unfold defL
            rw [hall4]
            simp only [Bool.false_and, Bool.and_false]
          | true =>
          rw [if_neg (by decide)]
          by_cases cgm : d.1.2 ∈ nhL
          rotate_left
          · rw [if_pos (fun z => cgm (by unfold nhL; rw [z]; exact List.mem_cons_self)), if_pos (fun z => cgm (by unfold nhL; rw [z]; exact List.mem_cons_of_mem _ List.mem_cons_self))]
            refine bad ?_ _ S6
            unfold defL
            rw [decide_eq_false cgm]
            simp only [Bool.false_and, Bool.and_false]
          refine nh_ite cgm ?_
          by_cases cw0 : d.2.1 < 0
          · rw [if_pos cw0]
            refine bad ?_ _ S6
            unfold defL
            rw [decide_eq_false (show ¬ 0 ≤ d.2.1 by omega)]
            simp only [Bool.false_and, Bool.and_false]
          rw [if_neg cw0]
          by_cases cw1 : 16 < d.2.1
          · rw [if_pos cw1]
            refine bad ?_ _ S6
            unfold defL
            rw [decide_eq_false (show ¬ d.2.1 ≤ 16 by omega)]
            simp only [Bool.false_and, Bool.and_false]
          rw [if_neg cw1]
          intro b6 nb6
          have S7 := S6.step nb6 (u := .lst [])
          have S67 := Same.laid nb6 (u := .lst [])
          revert S7 S67
          generalize upd H6 b6 (.lst []) = H7
          intro S7 S67
          have o37 := S67 _ _ o36
          have o47 := o46.imp (RwAt.same S67)
          refine ⟨_, by rw [o37]; rfl, by rw [o37]; rfl, ?_⟩
          by_cases ce : rv.isEmpty = true
          · rw [if_pos ce]
            refine bad ?_ _ S7
            rw [List.isEmpty_iff] at ce
            rw [ce] at ol4
            unfold defL
            rw [decide_eq_false (show ¬ 1 ≤ d.2.2.length by rw [← ol4]; simp)]
            simp only [Bool.false_and, Bool.and_false]
          rw [if_neg ce]
          have n1 : 1 ≤ d.2.2.length := by
            rw [← ol4]
            cases rv with
            | nil => exact absurd rfl ce
            | cons => simp
          refine ⟨_, by rw [o37]; rfl, ?_⟩
          by_cases c40 : 40 < ((rv.length : Nat) : Int)
          · rw [if_pos c40]
            refine bad ?_ _ S7
            unfold defL
            rw [decide_eq_false (show ¬ d.2.2.length ≤ 40 by omega)]
            simp only [Bool.false_and, Bool.and_false]
          rw [if_neg c40]
          obtain ⟨rl, el⟩ : ∃ rl, d.2.2.getLast? = some rl := by
            cases e : d.2.2.getLast? with
            | none => rw [List.getLast?_eq_none_iff] at e; rw [e] at n1; simp at n1
            | some x => exact ⟨x, rfl⟩
          obtain ⟨lv, elv, lp, lus, rfl, hlp, _⟩ := all2_last o47 el
          have a9 := atI_lst elv
          refine ⟨_, by rw [o37]; rfl, _, a9, _, rfl, _, by rw [hlp]; rfl, _, atI_0, rfl, ?_⟩
          simp! [o37, a9, hlp]
          by_cases cj : rl.1 ∈ (["jump", "back"] : List Str)
          rotate_left
          · rw [if_pos (fun z => cj (by rw [z]; exact List.mem_cons_self)), if_pos (fun z => cj (by rw [z]; exact List.mem_cons_of_mem _ List.mem_cons_self))]
            refine bad ?_ _ S7
            unfold defL lastB
            rw [el, Option.elim_some, decide_eq_false cj]
            simp only [Bool.false_and, Bool.and_false]
          refine jb_ite cj ?_
          refine compLS (H1 := H7) ol rv (fun v => if rowB ds d (valR H7 v) = true then none else some v) (fun Q2 h2 => by simp! []; exact h2) (.of o37) (by rw [sizeLine_eq]; omega) ?_ ?_
          · intro v H8 R N hv S8 hy hn
            obtain ⟨r, mr, hr⟩ := o47.mem hv
            simp! [capSt]
            refine ⟨pl, op, ds, d, v, r, rfl, PG.same (S7.trans S8), ?_, hr.same S8, db.rows r mr, pb, fun H9 S9 => ⟨_, rfl, ?_⟩⟩
            · exact DA.same (S7.trans S8)
            · have ev := valR_of hr
              cases eb : rowB ds d r with
              | true =>
                rw [if_neg (by decide)]
                exact hn (by rw [ev, if_pos eb]) _ S9
              | false =>
                rw [if_pos rfl]
                exact hy _ _ (by rw [ev, eb, if_neg (by decide)]) S9
          · intro D8 H8 _ S8 hD8 b8 nb8
            have hD9 := upd_old (u := .lst []) hD8 nb8
            have S9 := (S7.trans S8).step nb8 (u := .lst [])
            revert hD9 S9
            generalize upd H8 b8 (.lst []) = H9
            intro hD9 S9
            simp! [hD9]
            rw [rows_bad (rowB ds d) o47]
            cases hr : d.2.2.all (rowB ds d) with
            | false =>
              rw [if_pos rfl]
              refine bad ?_ _ S9
              unfold defL
              rw [hr]
              simp only [Bool.and_false]
            | true =>
              rw [if_neg (by decide)]
              refine ⟨S9, good ?_⟩
              unfold defL lastB
              rw [hr, hall4, el, Option.elim_some, decide_eq_true cj, decide_eq_true cgm, decide_eq_true c6', decide_eq_true n1, decide_eq_true (show d.2.2.length ≤ 40 by omega), decide_eq_true (show 0 ≤ d.2.1 by omega), decide_eq_true (show d.2.1 ≤ 16 by omega)]
              rfl
        · rintro σ H4 ⟨v1, v2, v3, v4, v5, rfl, S4, inv⟩
          simp! []
          refine q1 _ S4 _ ?_
          rw [l1, List.take_length] at inv
          exact inv
      · rw [if_pos cg]
        refine q1 _ S3 _ ?_
        rw [decide_eq_false cg]
        rfl

end
section
variable {P : Program} {w : World} {K : PySem.W.Frag} {mg : Str → Option Value} {base : Heap} {a : Ad}
theorem PgAt.of {H : Hp} {pl : Addr} {das : List (Addr × Addr × List Addr)} {ds : List Df} (h : ProgAt H pl das ds) : PgAt H pl ds := by
  refine ⟨_, h.top, All2.of_get (by rw [List.length_map, h.len]) fun i v d h1 h2 => ?_⟩
  obtain ⟨x, hx, rfl⟩ := of_map_get h1
  obtain ⟨g1, g2⟩ := h.def_ i x d hx h2
  refine ⟨x.1, x.2.1, rfl, g1, _, g2.top, All2.of_get (by rw [List.length_map, g2.len]) fun j v r h3 h4 => ?_⟩
  obtain ⟨p, hp, rfl⟩ := of_map_get h3
  obtain ⟨vs, e, PA⟩ := g2.row j p r hp h4
  exact ⟨p, vs, rfl, e, All2.of_get PA.len PA.at_⟩
theorem GxR.inls {r : Row} (h : GxR r) (c : r.1 ≠ "call") : r.2 = (partsI r).map Sum.inl := by
  obtain ⟨ls, m, hw⟩ := h.w
  obtain ⟨_, l2⟩ := hw c
  have : ∀ ps : List Part, (∀ x ∈ ps, ∃ i, x = .inl i) → ps = (ps.flatMap pOf).map Sum.inl := by
    intro ps
    induction ps with
    | nil => intro _; rfl
    | cons p ps ih =>
      intro h
      obtain ⟨i, rfl⟩ := h p (by simp)
      rw [List.flatMap_cons, List.map_append, ← ih fun x hx => h x (by simp [hx])]
      rfl
  exact this _ l2

theorem nums_back : ∀ l : List Int, (∀ i ∈ l, NumB i) → (l.map strI).map (fun z => (intText? z).getD 0) = l
  | [], _ => rfl
  | x :: l, h => by
    rw [List.map_cons, List.map_cons, nums_back l fun i hi => h i (by simp [hi]), (strI_ok (h x (by simp))).2.1]
    rfl
theorem row_inj {r r' : Row} (h : GxR r) (h' : GxR r') (e : rowPs r = rowPs r') : r = r' := by
  simp only [rowPs, List.cons.injEq] at e
  have e2 : partsI r = partsI r' := by rw [← nums_back _ h.nb, e.2, nums_back _ h'.nb]
  obtain ⟨w, ps⟩ := r
  obtain ⟨w', ps'⟩ := r'
  have e1 : w = w' := e.1
  subst e1
  by_cases c : w = "call"
  · obtain ⟨p, g, l, x⟩ := h.c c
    obtain ⟨p', g', l', x'⟩ := h'.c c
    dsimp only at x x'
    subst x x'
    simp [partsI, pOf] at e2
    rw [e2.1, e2.2.1, e2.2.2]
  · have i1 := h.inls c
    have i2 := h'.inls c
    dsimp only at i1 i2
    rw [i1, i2, e2]
theorem tk_inj {z z' : Str} (h : ∀ c ∈ z.cps.toList, NH c) (h' : ∀ c ∈ z'.cps.toList, NH c) (e : tkTx z = tkTx z') : z = z' := by
  have nm : ∀ y : Str, (∀ c ∈ y.cps.toList, NH c) → y ≠ "-" := fun y hy z => by
    have := hy 45 (by rw [z]; decide)
    exact absurd this (by decide)
  unfold tkTx at e
  by_cases c : z = ""
  · rw [if_pos c] at e
    by_cases c' : z' = ""
    · rw [c, c']
    · rw [if_neg c'] at e
      exact absurd e.symm (nm _ h')
  · rw [if_neg c] at e
    by_cases c' : z' = ""
    · rw [if_pos c'] at e
      exact absurd e (nm _ h)
    · rw [if_neg c'] at e
      exact e
theorem def_inj {d d' : Df} (h : GxD d) (h' : GxD d') (e : defPs d = defPs d') : d.1 = d'.1 ∧ d.2.1 = d'.2.1 := by
  simp only [defPs, List.cons.injEq, and_true, true_and] at e
  obtain ⟨e1, e2, e3⟩ := e
  have e4 := congrArg intText? e3
  rw [(strI_ok h.wd).2.1, (strI_ok h'.wd).2.1] at e4
  exact ⟨Prod.ext (tk_inj h.tk h'.tk e1) e2, Option.some.inj e4⟩
theorem def_row {d : Df} {r : Row} (h : GxD d) (h' : GxR r) (e : defTx d = rowTx r) : False := by
  have := split_def h
  rw [e, split_row h'] at this
  obtain ⟨ls, m, _⟩ := h'.w
  refine (LW_w _ m).2.2.2.2 ?_
  have := congrArg List.head? this
  simpa [rowPs, defPs] using this
def HdX (X : List Str) : Prop := X = [] ∨ ∃ d, GxD d ∧ X.head? = some (defTx d)
theorem rows_inj : ∀ (rs rs' : List Row) (X X' : List Str), (∀ r ∈ rs, GxR r) → (∀ r ∈ rs', GxR r) → HdX X → HdX X' → rs.map rowTx ++ X = rs'.map rowTx ++ X' → rs = rs' ∧ X = X'
  | [], [], _, _, _, _, _, _, e => ⟨rfl, e⟩
  | [], r :: rs, X, _, _, h', hX, _, e => by
    have e : X = rowTx r :: (rs.map rowTx ++ _) := e
    rcases hX with z | ⟨d, D, z⟩
    · rw [z] at e; cases e
    · rw [e] at z
      exact (def_row D (h' r (by simp)) (by simpa using z.symm)).elim
  | r :: rs, [], _, X, h, _, _, hX, e => by
    have e : rowTx r :: (rs.map rowTx ++ _) = X := e
    rcases hX with z | ⟨d, D, z⟩
    · rw [z] at e; cases e
    · rw [← e] at z
      exact (def_row D (h r (by simp)) (by simpa using z.symm)).elim
  | r :: rs, r' :: rs', X, X', h, h', hX, hX', e => by
    have e : rowTx r :: (rs.map rowTx ++ X) = rowTx r' :: (rs'.map rowTx ++ X') := e
    injection e with e1 e2
    have R := h r (by simp)
    have R' := h' r' (by simp)
    have er : r = r' := row_inj R R' (by rw [← split_row R, ← split_row R', e1])
    obtain ⟨i1, i2⟩ := rows_inj rs rs' X X' (fun x hx => h x (by simp [hx])) (fun x hx => h' x (by simp [hx])) hX hX' e2
    exact ⟨by rw [er, i1], i2⟩
theorem hdx {p : List Df} (h : ∀ d ∈ p, GxD d) : HdX (linesP p) := by
  cases p with
  | nil => exact .inl rfl
  | cons d p => exact .inr ⟨d, h d (by simp), rfl⟩
theorem lines_inj : ∀ (p q : List Df), (∀ d ∈ p, GxD d) → (∀ d ∈ q, GxD d) → linesP p = linesP q → p = q
  | [], [], _, _, _ => rfl
  | [], d :: q, _, _, e => by
    have e : [] = defTx d :: (d.2.2.map rowTx ++ linesP q) := e
    cases e
  | d :: p, [], _, _, e => by
    have e : defTx d :: (d.2.2.map rowTx ++ linesP p) = [] := e
    cases e
  | d :: p, d' :: q, h, h', e => by
    have e : defTx d :: (d.2.2.map rowTx ++ linesP p) = defTx d' :: (d'.2.2.map rowTx ++ linesP q) := e
    injection e with e1 e2
    have D := h d (by simp)
    have D' := h' d' (by simp)
    have hp : ∀ x ∈ p, GxD x := fun x hx => h x (by simp [hx])
    have hq : ∀ x ∈ q, GxD x := fun x hx => h' x (by simp [hx])
    obtain ⟨x1, x2⟩ := def_inj D D' (by rw [← split_def D, ← split_def D', e1])
    obtain ⟨y1, y2⟩ := rows_inj _ _ _ _ D.rs D'.rs (hdx hp) (hdx hq) e2
    rw [lines_inj p q hp hq y2]
    obtain ⟨a, b, c⟩ := d
    obtain ⟨a', b', c'⟩ := d'
    dsimp only at x1 x2 y1
    rw [x1, x2, y1]
theorem prog_inj {p q : List Df} (G : GxP p) (G' : GxP q) (e : progTx p = progTx q) : p = q := lines_inj p q G.ds G'.ds (by rw [← split_prog G, ← split_prog G', e])
/-- a formed program's text is small -/
theorem GxP.tx {ds : List Df} (G : GxP ds) (f : formB ds = true) : TxP ds := by
  rw [formB_eq] at f
  simp only [Bool.and_eq_true, decide_eq_true_eq, List.all_eq_true] at f
  obtain ⟨⟨⟨h1, h8⟩, _⟩, ha⟩ := f
  have tk6 : ∀ d ∈ ds, d.1.1.cps.size ≤ 6 := fun d hd => by
    have := ha d hd
    unfold defL at this
    simp only [Bool.and_eq_true, decide_eq_true_eq] at this
    obtain ⟨⟨⟨⟨⟨⟨⟨⟨a1, _⟩, _⟩, _⟩, _⟩, _⟩, _⟩, _⟩, _⟩ := this
    exact a1
  refine ⟨G.n0, h8, fun d hd => ?_⟩
  have D := G.ds d hd
  have t6 := tk6 d hd
  have := ha d hd
  unfold defL at this
  simp only [Bool.and_eq_true, decide_eq_true_eq, List.all_eq_true] at this
  obtain ⟨⟨_, a7⟩, a8⟩ : (_ ∧ d.2.2.length ≤ 40) ∧ ∀ r ∈ d.2.2, rowB ds d r = true := by
    obtain ⟨⟨⟨h, a7⟩, a9⟩, a8⟩ := this
    exact ⟨⟨h, a7⟩, a8⟩
  refine ⟨D.tk, by omega, D.gv, D.wd, fun r hr => ?_, a7⟩
  have R := D.rs r hr
  refine ⟨R.w, fun c => ?_, R.nb⟩
  obtain ⟨p, g, l, e⟩ := R.c c
  refine ⟨p, g, l, e, ?_⟩
  have rb := a8 r hr
  obtain ⟨ls, m, _⟩ := R.w
  unfold rowB at rb
  rw [LW_look _ m] at rb
  simp only [Bool.and_eq_true, Bool.or_eq_true, decide_eq_true_eq] at rb
  rcases rb.2 with z | z
  · exact absurd c z
  · unfold callB at z
    rw [e] at z
    simp only [decide_eq_true_eq] at z
    rw [z]
    cases eg : ds[g.toNat]? with
    | none => simp
    | some d' => exact tk6 d' (List.mem_of_getElem? eg)
theorem GxP.b {ds : List Df} (G : GxP ds) (l : (progTx ds).length ≤ 1900000) : PgB 10 ds := by
  have ln : (linesP ds).length ≤ 1900001 := by
    cases e : linesP ds with
    | nil => simp
    | cons z zs =>
      have := (join_has (c := 10) (zs := linesP ds) (p := z) (by rw [e]; simp)).2.2
      rw [e] at this
      have : (z :: zs).length ≤ (progTx ds).length + 1 := by unfold progTx nl10; rw [e]; exact this
      omega
  have lz : ∀ z ∈ linesP ds, z.length ≤ 1900000 := fun z hz => Nat.le_trans (join_has (c := 10) hz).1 l
  have le : ∀ p : List Df, p.length ≤ (linesP p).length ∧ ∀ d ∈ p, d.2.2.length ≤ (linesP p).length := by
    intro p
    induction p with
    | nil => exact ⟨Nat.le_refl _, by simp⟩
    | cons d p ih =>
      have e : (linesP (d :: p)).length = d.2.2.length + 1 + (linesP p).length := by show (linesD d ++ linesP p).length = _; rw [List.length_append, linesD_len]
      rw [e, List.length_cons]
      refine ⟨by omega, fun x hx => ?_⟩
      rcases List.mem_cons.mp hx with rfl | hx
      · omega
      · have := ih.2 x hx; omega
  refine ⟨by have := (le ds).1; omega, fun d hd => ?_⟩
  have D := G.ds d hd
  have dl := lz (defTx d) (List.mem_flatMap.mpr ⟨d, hd, by simp [linesD]⟩)
  refine ⟨?_, ?_, by have := (le ds).2 d hd; omega, fun r hr => ?_⟩
  · have h1 := (join_has (c := 32) (zs := defPs d) (p := tkTx d.1.1) (by simp [defPs])).1
    have h2 : (tkTx d.1.1).length ≤ 1900000 := Nat.le_trans h1 dl
    by_cases c : d.1.1 = ""
    · rw [c]; decide
    · unfold tkTx at h2
      rw [if_neg c, len_def] at h2
      omega
  · rw [Array.all_eq_true']
    intro c hc
    have := (nh_c (D.tk c (by simpa using hc))).2.2
    simpa using this
  · have R := D.rs r hr
    have rl := lz (rowTx r) (List.mem_flatMap.mpr ⟨d, hd, by simp only [linesD, List.mem_cons, List.mem_map]; exact .inr ⟨r, hr, rfl⟩⟩)
    have h3 := (join_has (c := 32) (zs := rowPs r) (p := r.1) (by simp [rowPs])).2.2
    have h3 : (rowPs r).length ≤ (rowTx r).length + 1 := h3
    have e3 : (rowPs r).length = (partsI r).length + 1 := by simp [rowPs]
    obtain ⟨ls, m, hw⟩ := R.w
    have w5 := (LW_w _ m).1
    have w3 := (LW_w _ m).2.2.1
    dsimp only at w5 w3
    by_cases c : r.1 = "call"
    · obtain ⟨p, g, lq, e⟩ := R.c c
      have ep : partsI r = p :: g :: lq := by unfold partsI; rw [e]; simp [pOf]
      rw [ep] at e3
      refine ⟨by omega, by rw [e]; simp, fun q hq => ?_⟩
      rw [e] at hq
      simp at hq
      rw [hq]
      simp at e3
      omega
    · obtain ⟨h4, h5⟩ := hw c
      refine ⟨by omega, by omega, fun q hq => ?_⟩
      obtain ⟨i, z⟩ := h5 _ hq
      cases z

end
section
variable {P : Program} {w : World} {K : PySem.W.Frag} {mg : Str → Option Value} {base : Heap} {a : Ad}

theorem join_len1 {c : Nat} {zs : List Str} (h : zs ≠ []) : (Str.join ⟨#[c]⟩ zs).length + 1 = (zs.map (·.length)).sum + zs.length := by
  cases zs with
  | nil => exact absurd rfl h
  | cons x r =>
    have el : ∀ y : Str, y.length = y.cps.toList.length := fun y => by rw [len_def, Array.length_toList]
    have : ∀ l : List Str, (l.flatMap fun z => c :: z.cps.toList).length = (l.map (·.length)).sum + l.length := by
      intro l
      induction l with
      | nil => rfl
      | cons y l ih => rw [List.flatMap_cons, List.length_append, ih, List.map_cons, List.sum_cons, List.length_cons, List.length_cons, el y]; omega
    rw [el, L2.join_list, List.length_append, this, List.map_cons, List.sum_cons, List.length_cons, el x]
    omega
theorem ixN_nat {n i : Nat} (h : i < n) : ixN n (i : Int) = some i := by
  unfold ixN
  rw [if_pos (by omega), if_pos (by omega)]
  simp
theorem sum_set : ∀ (l : List Nat) (i x : Nat) (h : i < l.length), (l.set i x).sum + l[i] = l.sum + x
  | [], _, _, h => by simp at h
  | y :: l, 0, x, _ => by simp; omega
  | y :: l, i + 1, x, h => by
    have := sum_set l i x (by simpa using h)
    simp only [List.set_cons_succ, List.sum_cons, List.getElem_cons_succ]
    omega
theorem sum_swap {l : List Nat} {i j : Nat} (hi : i < l.length) (hj : j < l.length) : ((l.set i l[j]).set j l[i]).sum = l.sum := by
  have h1 := sum_set l i l[j] hi
  have h2 := sum_set (l.set i l[j]) j l[i] (by simpa using hj)
  have h3 : (l.set i l[j])[j]'(by simpa using hj) = l[j] := by
    rw [List.getElem_set]
    split <;> rfl
  omega
def sp_turned : Sp := fun vs H Q _ => ∃ (pk : Addr) (z : Str) (a0 a1 a2 : Int), vs = [.str z, .ref pk] ∧ H pk = some (.lst [.int a0, .int a1, .int a2]) ∧ 0 ≤ a1 ∧ 0 ≤ a2 ∧ Asc z ∧ z.length ≤ 900000 ∧ ∀ (y : Str) (H' : Hp), Asc y → y.length ≤ z.length → Same H H' → Q (.str y) H'
set_option maxHeartbeats 4000000 in
theorem ok_law_turned (T : Txt K mg a) : FnOk P w K mg base (CX1 P w) 1 a.f_law_turned a.d_law_turned ["text", "pick"] sp_turned := by
  refine T.F_law_turned.okC sc_law_turned (fun vs H Q E h => ?_) (fun cdv A outer s H vs Q E hr h => ?_)
  · obtain ⟨pk, z, a0, a1, a2, rfl, _⟩ := h
    rfl
  · obtain ⟨pk, z, a0, a1, a2, rfl, hk, h1, h2, az, zl, q⟩ := h
    have hu := hu_of hr
    refine ⟨_, (pss_cons (ps_set (i := 2) sc_law_turned.nd (by rfl) (Or.inl rfl) (pe_bm PySem.F.plainAttrs_str PySem.F.slot_str_split PySem.F.type_str_split mt_split (pv 0) (pa_cons pe_str pa_nil)))
      (pss_cons (ps_set (i := 3) sc_law_turned.nd (by rfl) (Or.inl rfl) (pe_op op_mod (pe_ix ix_F (pv 1) pe_int (fun _ _ => rfl)) (pe_callB call_lenF (by rfl) T.z_len (by decide +kernel) (pa_cons (pv 2) pa_nil))))
      (pss_cons (ps_set (i := 4) sc_law_turned.nd (by rfl) (Or.inl rfl) (pe_op op_mod (pe_ix ix_F (pv 1) pe_int (fun _ _ => rfl)) (pe_callB call_lenF (by rfl) T.z_len (by decide +kernel) (pa_cons (pv 2) pa_nil))))
      (pss_cons (ps_set (i := 5) sc_law_turned.nd (by rfl) (Or.inl rfl) (pe_ix ix_F (pv 2) (pv 3) (fun _ _ => rfl)))
      (pss_cons (ps_asg (pe_ix ix_F (pv 2) (pv 4) (fun _ _ => rfl)) (pg_sub (pv 2) (pv 3) set_list))
      (pss_cons (ps_asg (pv 5) (pg_sub (pv 2) (pv 4) set_list))
      (pss_one (ps_ret (pe_bm PySem.F.plainAttrs_str PySem.F.slot_str_join PySem.F.type_str_join mt_join pe_str (pa_cons (pv 2) pa_nil)))))))))), ?_⟩
    obtain ⟨g1, g2⟩ := split_has (z := z) (c := 10)
    have ne := split_ne z 10
    have ej := StrLaws.join_split z nl10
    generalize hG : tSeq (tAsg _ (gName 5)) _ = tail
    simp! [tBM]
    refine ⟨rfl, z, nl10, rfl, by rw [show Str.ofString "\n" = nl10 by decide], rfl, by rw [sizeLine_eq]; omega, by rw [sizeLine_eq]; unfold nl10; omega, fun l nl => ?_⟩
    have g1 : (PySem.Txt.split z nl10).length ≤ z.length + 1 := g1
    have g2 : ∀ p ∈ PySem.Txt.split z nl10, p.length ≤ z.length ∧ (Asc z → Asc p) := g2
    have ne : PySem.Txt.split z nl10 ≠ [] := ne
    revert g1 g2 ne ej
    generalize PySem.Txt.split z nl10 = ls
    intro ej g1 g2 ne
    have hk1 := upd_old (u := .lst (ls.map V.str)) hk nl
    have e1 : upd H l (.lst (ls.map V.str)) l = some (.lst (ls.map V.str)) := upd_same
    have S1 : Same H (upd H l (.lst (ls.map V.str))) := .laid nl
    revert hk1 e1 S1
    generalize upd H l (.lst (ls.map V.str)) = H1
    intro hk1 e1 S1
    have n0 : 0 < ls.length := List.length_pos_iff.mpr ne
    have lf : lenF (.ref l) H1 = some ls.length := by rw [lenF_ref, e1]; show some _ = some _; rw [List.length_map]
    refine ⟨_, by rw [hk1]; rfl, _, atI_1, _, lf, a1, rfl, by omega, _, by rw [hk1]; rfl, _, atI_2, _, lf, a2, rfl, by omega, ?_⟩
    have i0 : 0 ≤ a1 % (ls.length : Int) := Int.emod_nonneg _ (by omega)
    have i1 : a1 % (ls.length : Int) < ls.length := Int.emod_lt_of_pos _ (by omega)
    have j0 : 0 ≤ a2 % (ls.length : Int) := Int.emod_nonneg _ (by omega)
    have j1 : a2 % (ls.length : Int) < ls.length := Int.emod_lt_of_pos _ (by omega)
    obtain ⟨i, hi⟩ := Int.eq_ofNat_of_zero_le i0
    obtain ⟨j, hj⟩ := Int.eq_ofNat_of_zero_le j0
    rw [hi] at i1 ⊢
    rw [hj] at j1 ⊢
    have il : i < ls.length := by omega
    have jl : j < ls.length := by omega
    subst hG
    simp! [e1]
    have gi := List.getElem?_eq_getElem il
    have gj := List.getElem?_eq_getElem jl
    have ai : atI (ls.map V.str) (i : Int) = some (.str ls[i]) := atI_nat (by rw [List.getElem?_map, gi]; rfl)
    have aj : atI (ls.map V.str) (j : Int) = some (.str ls[j]) := atI_nat (by rw [List.getElem?_map, gj]; rfl)
    refine ⟨_, ai, _, aj, i, ixN_nat (by rw [List.length_map]; exact il), j, ixN_nat (by rw [List.length_set, List.length_map]; exact jl), ?_⟩
    have em : ((ls.map V.str).set i (V.str ls[j])).set j (V.str ls[i]) = ((ls.set i ls[j]).set j ls[i]).map V.str := by rw [List.map_set, List.map_set]
    rw [upd_upd, em]
    have S2 : Same H (upd H1 l (.lst (((ls.set i ls[j]).set j ls[i]).map V.str))) := upd_newS S1 nl
    have e2 : upd H1 l (.lst (((ls.set i ls[j]).set j ls[i]).map V.str)) l = some (.lst (((ls.set i ls[j]).set j ls[i]).map V.str)) := upd_same
    have n2 : ((ls.set i ls[j]).set j ls[i]) ≠ [] := fun z => by
      have := congrArg List.length z
      simp at this
      exact ne this
    have sm : (((ls.set i ls[j]).set j ls[i]).map (·.length)).sum = (ls.map (·.length)).sum := by
      have := sum_swap (l := ls.map (·.length)) (i := i) (j := j) (by simpa using il) (by simpa using jl)
      rw [List.map_set, List.map_set]
      simpa using this
    have l1 := join_len1 (c := 10) ne
    have l2 := join_len1 (c := 10) n2
    have ll : ((ls.set i ls[j]).set j ls[i]).length = ls.length := by simp
    have mem : ∀ p ∈ ((ls.set i ls[j]).set j ls[i]), p ∈ ls := fun p hp => by
      rcases List.mem_or_eq_of_mem_set hp with h | h
      · rcases List.mem_or_eq_of_mem_set h with h | h
        · exact h
        · rw [h]; exact List.getElem_mem jl
      · rw [h]; exact List.getElem_mem il
    revert S2 e2 sm l2 ll mem n2
    generalize ((ls.set i ls[j]).set j ls[i]) = ms
    intro S2 e2 n2 sm l2 ll mem
    have ej : (Str.join ⟨#[10]⟩ ls) = z := ej
    rw [ej] at l1
    revert S2 e2
    generalize upd H1 l (.lst (ms.map V.str)) = H2
    intro S2 e2
    simp! [tBM]
    refine ⟨rfl, nl10, l, ms, by rw [show Str.ofString "\n" = nl10 by decide], rfl, e2, ?_, ?_⟩
    · have e : nl10.length = 1 := rfl
      rw [e, sm, ll]; omega
    · have e : PySem.Txt.join nl10 ms = Str.join nl10 ms := StrLaws.glued_eq_join _ _
      rw [e]
      refine q _ H2 (asc_mem.mpr fun c hc => ?_) ?_ S2
      · rcases join_mem hc with rfl | ⟨p, hp, hc⟩
        · decide
        · exact asc_mem.mp ((g2 p (mem p hp)).2 az) c hc
      · have : (Str.join nl10 ms).length + 1 = _ := l2
        omega

end
section
variable {P : Program} {w : World} {K : PySem.W.Frag} {mg : Str → Option Value} {base : Heap} {a : Ad}

theorem RdAt.up {H0 H1 H : Hp} {pl : Addr} {das : List DA} {q : List Df} (x : RdAt H1 H pl das q) (S : Same H0 H1) : RdAt H0 H pl das q := ⟨x.at_, S.trans x.sm, S.free x.np, x.nd, x.np2, fun a h => S.free (x.fr a h)⟩
def sp_lread : Sp := fun vs H Q _ => ∃ (z : Str), vs = [.str z] ∧ Asc z ∧ z.length ≤ 1900000 ∧
  (NoTx z → ∀ r tl H', Same H H' → H' r = some (.tup [.non, .ref tl]) → H' tl = some (.lst [.bl true, .bl true, .bl false]) → Q (.ref r) H') ∧
  (∀ (ds : List Df) (pl : Addr) (das : List DA) (r tl : Addr) (H' : Hp), GxP ds → z = progTx ds → RdAt H H' pl das ds → H' r = some (.tup [.ref pl, .ref tl]) → H' tl = some (.lst []) → Q (.ref r) H')
set_option maxHeartbeats 4000000 in
theorem ok_law_read (T : Txt K mg a) : FnOk P w K mg base (CX1 P w) 4 a.f_law_read a.d_law_read ["text"] sp_lread := by
  refine T.F_law_read.okC sc_law_read (fun vs H Q E h => ?_) (fun cdv A outer s H vs Q E hr h => ?_)
  · obtain ⟨z, rfl, _⟩ := h
    rfl
  · obtain ⟨z, rfl, az, lz, qn, q⟩ := h
    have hu := hu_of hr
    refine ⟨_, (pss_cons (ps_set (i := 1) sc_law_read.nd (by rfl) (Or.inl rfl) pe_non)
      (pss_cons (ps_set (i := 2) sc_law_read.nd (by rfl) (Or.inl rfl) (pe_lst pa_nil))
      (pss_cons (ps_tryAs (i := 3) T.xt (by rfl) T.m_HoldError (by rfl) (by rfl) sc_law_read.nd (by rfl) (by rfl) (fun pn_ W_ R_ hW_ => (pss_one (ps_set (i := 1) sc_law_read.nd (by rfl) (Or.inl rfl) (pe_callE (ok_read T) (hr.mono (by decide)) (by rfl) T.m_read T.F_read.kp T.b_read .nil hW_ (pa_cons (pv 0) pa_nil))))) (fun e_ => (pss_cons (ps_set (i := 4) sc_law_read.nd (by rfl) (Or.inl rfl) (pe_lst (pa_cons (pe_callB (call_isX T.xt) (by rfl) T.z_isinstance (by decide +kernel) (pa_cons (pv 3) (pa_cons (pe_glob (v := .ref a.c_NoSpot) (by rfl) T.m_NoSpot (by rfl)) pa_nil))) (pa_cons (pe_callB (call_isX T.xt) (by rfl) T.z_isinstance (by decide +kernel) (pa_cons (pv 3) (pa_cons (pe_glob (v := .ref a.c_NoThing) (by rfl) T.m_NoThing (by rfl)) pa_nil))) (pa_cons (pe_callB (call_isX T.xt) (by rfl) T.z_isinstance (by decide +kernel) (pa_cons (pv 3) (pa_cons (pe_glob (v := .ref a.c_NotFormed) (by rfl) T.m_NotFormed (by rfl)) pa_nil))) pa_nil)))))
      (pss_cons (ps_set (i := 4) sc_law_read.nd (by rfl) (Or.inl rfl) (pe_op op_cat (pv 4) (pe_lst (pa_cons (pe_callB (call_isX T.xt) (by rfl) T.z_isinstance (by decide +kernel) (pa_cons (pv 3) (pa_cons (pe_glob (v := .ref a.c_NoTable) (by rfl) T.m_NoTable (by rfl)) pa_nil))) (pa_cons (pe_callB (call_isX T.xt) (by rfl) T.z_isinstance (by decide +kernel) (pa_cons (pv 3) (pa_cons (pe_glob (v := .ref a.c_Faulty) (by rfl) T.m_Faulty (by rfl)) pa_nil))) pa_nil)))))
      (pss_one (ps_set (i := 2) sc_law_read.nd (by rfl) (Or.inl rfl) (pe_lst (pa_cons (pe_callB (call_isX T.xt) (by rfl) T.z_isinstance (by decide +kernel) (pa_cons (pv 3) (pa_cons (pe_bltn (v := .ty "ValueError") (u := .type "ValueError") (by rfl) T.z_ValueError (by decide +kernel) (by rfl)) pa_nil))) (pa_cons (pe_callB (call_isX T.xt) (by rfl) T.z_isinstance (by decide +kernel) (pa_cons (pv 3) (pa_cons (pe_glob (v := .ref a.c_NoText) (by rfl) T.m_NoText (by rfl)) pa_nil))) (pa_cons (pe_cmpR (op_in_seqK (K := K) (by rfl)) pe_bl (pv 4) (by with_unfolding_all rfl)) pa_nil))))))))))
      (pss_one (ps_ret (pe_tup (pa_cons (pv 1) (pa_cons (pv 2) pa_nil)))))))), ?_⟩
    generalize hT : tSeq (tAsg _ (gName 4)) _ = th
    by_cases o : NoTx z
    rotate_left
    · simp! []
      intro p np
      simp! [tCallE]
      refine ⟨z, rfl, az, lz, fun ds pl das H2 G e RD r nr => ?_, fun n => absurd n o⟩
      have S2 := RD.sm
      exact q ds pl das r p _ G e ((RD.same (Same.laid nr)).up (Same.laid np)) upd_same (upd_old (S2 _ _ upd_same) nr)
    · simp! []
      intro p np
      simp! [tCallE]
      refine ⟨z, rfl, az, lz, fun ds pl das H2 G e RD => absurd e (o ds G), fun _ H2 S2 => ⟨a.c_NoText, by simp, rfl, fun ea he => ?_⟩⟩
      subst hT
      have hE : upd H2 ea (excO a.c_NoText ea) ea = some (excO a.c_NoText ea) := upd_same
      have SE : Same H (upd H2 ea (excO a.c_NoText ea)) := ((Same.laid np).trans S2).step he
      revert hE SE
      generalize upd H2 ea (excO a.c_NoText ea) = H3
      intro hE SE
      have nd := T.xt.nd
      have m1' : a.c_NoText ∈ [a.c_HoldError, a.c_NoSpot, a.c_NoThing, a.c_NoText, a.c_NotFormed, a.c_NoTable, a.c_Faulty] := by simp
      have f1 : decide (a.c_NoText = a.c_NoSpot ∨ a.c_NoSpot = a.c_HoldError) = false := decide_eq_false fun e => by rcases e with e | e <;> (rw [e] at nd; simp at nd)
      have f2 : decide (a.c_NoText = a.c_NoThing ∨ a.c_NoThing = a.c_HoldError) = false := decide_eq_false fun e => by rcases e with e | e <;> (rw [e] at nd; simp at nd)
      have f3 : decide (a.c_NoText = a.c_NotFormed ∨ a.c_NotFormed = a.c_HoldError) = false := decide_eq_false fun e => by rcases e with e | e <;> (rw [e] at nd; simp at nd)
      have f4 : decide (a.c_NoText = a.c_NoTable ∨ a.c_NoTable = a.c_HoldError) = false := decide_eq_false fun e => by rcases e with e | e <;> (rw [e] at nd; simp at nd)
      have f5 : decide (a.c_NoText = a.c_Faulty ∨ a.c_Faulty = a.c_HoldError) = false := decide_eq_false fun e => by rcases e with e | e <;> (rw [e] at nd; simp at nd)
      have f6 : decide (a.c_NoText = a.c_NoText ∨ a.c_NoText = a.c_HoldError) = true := decide_eq_true (.inl rfl)
      generalize hR : tSeq (tAsg (tOp rCat _ _) _) _ = t2
      have FIN2 : ∀ (D : Ends) (v2 v3 : Option V) (p1 : Addr) (H4 : Hp), H4 ea = some (excO a.c_NoText ea) → H4 p1 = some (.lst [.bl false, .bl false, .bl false]) → (∀ p4 H5, Same H4 H5 → H5 p4 = some (.lst [.bl true, .bl true, .bl false]) → ∀ v5, D.nx [some (.str z), v2, some (.ref p4), some (.ref ea), v5] H5) → t2 D [some (.str z), v2, v3, some (.ref ea), some (.ref p1)] H4 := by
        intro D v2 v3 p1 H4 hE4 h1 nx
        subst hR
        simp! []
        refine ⟨ea, _, hE4, m1', .inl ⟨rfl, by simp, ea, _, hE4, m1', .inl ⟨rfl, by simp, ?_⟩⟩⟩
        rw [f4, f5]
        intro p2 np2
        have h1' := upd_old (u := .lst [.bl false, .bl false]) h1 np2
        have h2' : upd H4 p2 (.lst [.bl false, .bl false]) p2 = some (.lst [.bl false, .bl false]) := upd_same
        have S2' : Same H4 (upd H4 p2 (.lst [.bl false, .bl false])) := .laid np2
        revert h1' h2' S2'
        generalize upd H4 p2 (.lst [.bl false, .bl false]) = H5
        intro h1' h2' S2'
        simp! [rCat, h1', h2']
        intro p3 np3
        have hE5 := upd_old (u := .lst [.bl false, .bl false, .bl false, .bl false, .bl false]) (S2' _ _ hE4) np3
        have h3 : upd H5 p3 (.lst [.bl false, .bl false, .bl false, .bl false, .bl false]) p3 = some (.lst [.bl false, .bl false, .bl false, .bl false, .bl false]) := upd_same
        have S3' := S2'.step np3 (u := .lst [.bl false, .bl false, .bl false, .bl false, .bl false])
        revert hE5 h3 S3'
        generalize upd H5 p3 (.lst [.bl false, .bl false, .bl false, .bl false, .bl false]) = H6
        intro hE5 h3 S3'
        refine ⟨ea, _, hE5, m1', rfl, ea, _, hE5, m1', .inl ⟨rfl, m1', ?_⟩⟩
        refine ⟨p3, _, rfl, .inl (.of h3), rfl, rfl, fun p4 np4 => ?_⟩
        rw [f6]
        exact nx p4 _ (S3'.step np4) upd_same _
      simp! [goneD]
      refine ⟨ea, _, hE, m1', .inl ⟨rfl, by simp, ea, _, hE, m1', .inl ⟨rfl, by simp, ea, _, hE, m1', .inl ⟨rfl, by simp, ?_⟩⟩⟩⟩
      rw [f1, f2, f3]
      intro p1 np1
      refine FIN2 _ _ _ p1 _ (upd_old hE np1) upd_same fun p4 H5 S5 h5 v5 => ?_
      exact ⟨_, rfl, _, rfl, fun r nr => qn o r p4 _ (((SE.step np1).trans S5).step nr) upd_same (upd_old h5 nr)⟩

end
section
variable {P : Program} {w : World} {K : PySem.W.Frag} {mg : Str → Option Value} {base : Heap} {a : Ad}

theorem TxP.sm {ds : List Df} (h : TxP ds) : ∀ d ∈ ds, d.2.2.length ≤ 1000 ∧ ∀ r ∈ d.2.2, RowSm r := fun d hd => ⟨by have := (h.ds d hd).rl; omega, fun r hr => ((h.ds d hd).rs r hr).sm⟩
theorem prog_asc {ds : List Df} (h : GxP ds) : Asc (progTx ds) := asc_mem.mpr fun c hc => by
  rcases join_mem hc with rfl | ⟨z, hz, hc⟩
  · decide
  · exact (line_free h z hz c hc).2
/-- the picks, growing -/
def PkL (H : Hp) (b D : Addr) (ps : List (Addr × Int × Int × Int)) : Prop := H D = some (.lst (ps.map fun x => V.ref x.1)) ∧ D ≠ b ∧ ∀ x ∈ ps, H x.1 = some (.lst [.int x.2.1, .int x.2.2.1, .int x.2.2.2]) ∧ 0 ≤ x.2.1 ∧ 0 ≤ x.2.2.1 ∧ 0 ≤ x.2.2.2 ∧ x.1 ≠ D ∧ x.1 ≠ b
theorem PkL.kp {H H' : Hp} {b D : Addr} {ps : List (Addr × Int × Int × Int)} (k : Kp b H H') (h : PkL H b D ps) : PkL H' b D ps := ⟨k _ _ h.1 h.2.1, h.2.1, fun x hx => by
  obtain ⟨e1, e2, e3, e4, e5, e6⟩ := h.2.2 x hx
  exact ⟨k _ _ e1 e6, e2, e3, e4, e5, e6⟩⟩
theorem Kp.of {b : Addr} {H H' : Hp} (S : Same H H') : Kp b H H' := fun q o h _ => S q o h
set_option maxHeartbeats 4000000 in
theorem ok_law (T : Txt K mg a) : FnOk P w K mg base (CX1 P w) 7 a.f_law a.d_law ["script"] (spLaw K) := by
  refine T.F_law.okC sc_law (fun vs H Q E h => ?_) (fun cdv A outer s H vs Q E hr h => ?_)
  · obtain ⟨r, ns, rfl, _⟩ := h
    rfl
  · obtain ⟨r, ns, rfl, hS, _, fin⟩ := h
    have hu := hu_of hr
    refine ⟨_, (pss_cons (ps_set (i := 1) sc_law.nd (by rfl) (Or.inl rfl) (pe_call (ok_law_bag T) (hr.mono (by decide)) (by rfl) T.m_law_bag T.F_law_bag.kp T.b_law_bag .nil pass1 (pa_cons (pv 0) pa_nil)))
      (pss_cons (ps_set (i := 2) sc_law.nd (by rfl) (Or.inl rfl) (pe_lst pa_nil))
      (pss_cons (ps_for PassesOwn.never (by rfl) (pi_range1 (by rfl) T.z_range (pa_cons (pe_call (ok_law_draw T) (hr.mono (by decide)) (by rfl) T.m_law_draw T.F_law_draw.kp T.b_law_draw .nil pass1 (pa_cons (pv 1) (pa_cons pe_int pa_nil))) pa_nil)) (pg_name (i := 3) sc_law.nd (by rfl) (Or.inl rfl))
      (pss_one (ps_expr (pe_bm PySem.F.plainAttrs_list PySem.F.slot_list_append PySem.F.type_list_append mt_append (pv 2) (pa_cons (pe_lst (pa_cons (pe_call (ok_law_draw T) (hr.mono (by decide)) (by rfl) T.m_law_draw T.F_law_draw.kp T.b_law_draw .nil pass1 (pa_cons (pv 1) (pa_cons pe_int pa_nil))) (pa_cons (pe_call (ok_law_draw T) (hr.mono (by decide)) (by rfl) T.m_law_draw T.F_law_draw.kp T.b_law_draw .nil pass1 (pa_cons (pv 1) (pa_cons (pe_op op_pow pe_int pe_int) pa_nil))) (pa_cons (pe_call (ok_law_draw T) (hr.mono (by decide)) (by rfl) T.m_law_draw T.F_law_draw.kp T.b_law_draw .nil pass1 (pa_cons (pv 1) (pa_cons pe_int pa_nil))) pa_nil)))) pa_nil)))))
      (pss_cons (ps_set (i := 4) sc_law.nd (by rfl) (Or.inl rfl) (pe_call (ok_law_written T) (hr.mono (by decide)) (by rfl) T.m_law_written T.F_law_written.kp T.b_law_written .nil pass1 (pa_cons (pe_call (ok_law_program T) (hr.mono (by decide)) (by rfl) T.m_law_program T.F_law_program.kp T.b_law_program .nil pass1 (pa_cons (pv 1) pa_nil)) pa_nil)))
      (pss_cons (ps_for PassesOwn.never (by rfl) (pi_list (pv 2)) (pg_name (i := 5) sc_law.nd (by rfl) (Or.inl rfl))
      (pss_one (ps_if (pt_cmpR op_lt (pe_ix ix_F (pv 5) pe_int (fun _ _ => rfl)) pe_int (nomark _)) (pss_one (ps_set (i := 4) sc_law.nd (by rfl) (Or.inl rfl) (pe_call (ok_law_bent_text T) (hr.mono (by decide)) (by rfl) T.m_law_bent_text T.F_law_bent_text.kp T.b_law_bent_text .nil pass1 (pa_cons (pv 4) (pa_cons (pv 5) (pa_cons (pv 1) pa_nil)))))) (pss_one (ps_set (i := 4) sc_law.nd (by rfl) (Or.inl rfl) (pe_call (ok_law_turned T) (hr.mono (by decide)) (by rfl) T.m_law_turned T.F_law_turned.kp T.b_law_turned .nil pass1 (pa_cons (pv 4) (pa_cons (pv 5) pa_nil))))))))
      (pss_cons (ps_asg (pe_call (ok_law_read T) (hr.mono (by decide)) (by rfl) T.m_law_read T.F_law_read.kp T.b_law_read .nil pass1 (pa_cons (pv 4) pa_nil)) (pg_tup (n := 2) (by rfl) (pgs_cons (pg_name (i := 6) sc_law.nd (by rfl) (Or.inl rfl)) (pgs_cons (pg_name (i := 7) sc_law.nd (by rfl) (Or.inl rfl)) pgs_nil))))
      (pss_cons (ps_if (pt_cmpR (op_neE hu) (pv 7) (pe_lst pa_nil) (nomark _)) (pss_one (ps_ret (pe_and (pe_cmp (pc_isN (pv 6))) (pe_and (pe_cmpR (op_eqF hu) (pv 7) (pe_lst (pa_cons pe_bl (pa_cons pe_bl (pa_cons pe_bl pa_nil)))) (nomark _)) (pe_one (pe_cmpR op_gt (pe_callB call_lenF (by rfl) T.z_len (by decide +kernel) (pa_cons (pv 2) pa_nil)) pe_int (nomark _))))))) pss_nil)
      (pss_cons (ps_if (pt_not (pt_val (pe_call (ok_law_formed T) (hr.mono (by decide)) (by rfl) T.m_law_formed T.F_law_formed.kp T.b_law_formed .nil pass1 (pa_cons (pv 6) pa_nil)))) (pss_one (ps_ret pe_bl)) pss_nil)
      (pss_cons (ps_set (i := 8) sc_law.nd (by rfl) (Or.inl rfl) (pe_call (ok_law_copy T) (hr.mono (by decide)) (by rfl) T.m_law_copy T.F_law_copy.kp T.b_law_copy .nil pass1 (pa_cons (pv 6) pa_nil)))
      (pss_cons (ps_set (i := 9) sc_law.nd (by rfl) (Or.inl rfl) (pe_call (ok_shown T) (hr.mono (by decide)) (by rfl) T.m_shown T.F_shown.kp T.b_shown .nil pass1 (pa_cons (pv 6) pa_nil)))
      (pss_cons (ps_if (PW.pt (pw_or (pt_not (pt_val (pe_callB call_isF (by rfl) T.z_isinstance (by decide +kernel) (pa_cons (pv 9) (pa_cons (pe_bltn (v := .ty "str") (u := .type "str") (by rfl) T.z_str (by decide +kernel) (by rfl)) pa_nil))))) (pw_or (pt_cmpR op_ne (pv 9) (pv 4) (nomark _)) (pw_or1 (pt_not (pt_val (pe_call (ok_law_alike T 6) (hr.mono (by decide)) (by rfl) T.m_law_alike T.F_law_alike.kp T.b_law_alike .nil pass1 (pa_cons (pv 6) (pa_cons (pv 8) pa_nil))))))))) (pss_one (ps_ret pe_bl)) pss_nil)
      (pss_one (ps_ret (pe_call (ok_law_alike T 6) (hr.mono (by decide)) (by rfl) T.m_law_alike T.F_law_alike.kp T.b_law_alike .nil pass1 (pa_cons (pe_call (ok_read T) (hr.mono (by decide)) (by rfl) T.m_read T.F_read.kp T.b_read .nil pass1 (pa_cons (pv 9) pa_nil)) (pa_cons (pv 8) pa_nil)))))))))))))))), ?_⟩
    generalize hG : tSeq (tFor _ _ _) _ = tail
    simp! []
    refine ⟨r, ns, rfl, hS, fun b c cs H0 nb nc B0 S0 => ?_⟩
    intro D nD
    obtain ⟨Db, Dc⟩ := B0.apart nD
    have B1 := B0.laid (u := .lst []) nD
    have e1 : PkL (upd H0 D (.lst [])) b D [] := ⟨upd_same, Db, fun x h => by cases h⟩
    revert B1 e1
    generalize upd H0 D (.lst []) = H1
    intro B1 e1
    subst hG
    generalize hG : tSeq (tAsg _ _) _ = tail
    refine for1_ (fun n H2 => 0 ≤ n ∧ n ≤ 3 ∧ BagAt H2 b c cs ∧ PkL H2 b D []) (fun Q2 hQ => ?_) ?_
    · simp! []
      exact ⟨b, c, cs, 4, rfl, B1, by decide, by decide, fun x H2 x0 x1 B2 k2 => hQ x _ ⟨x0, by omega, B2, e1.kp k2⟩⟩
    rintro n H2 ⟨n0, n3, B2, e2⟩
    refine for1 (H1 := H2) n (fun Q2 h2 => by simp! []; exact h2) (by omega) (by omega) (fun i σ Hc => ∃ (v3 v4 v5 v6 v7 v8 v9 : Option V) (ps : List (Addr × Int × Int × Int)), σ = [some (V.ref r), some (V.ref b), some (V.ref D), v3, v4, v5, v6, v7, v8, v9] ∧ BagAt Hc b c cs ∧ PkL Hc b D ps ∧ ps.length = i)
      ⟨_, _, _, _, _, _, _, [], rfl, B2, e2, rfl⟩ ?_ ?_
    · rintro i σ Hc hi ⟨v3, v4, v5, v6, v7, v8, v9, ps, rfl, B, PK, lp⟩
      simp! [tBM]
      refine ⟨.inl ⟨rfl, _, .of PK.1⟩, ?_⟩
      refine ⟨b, c, cs, _, rfl, B, by decide, by decide, fun a0 H8 a00 a01 B8 k8 => ?_⟩
      refine ⟨by first | decide | (unfold CPow; decide) | exact ⟨by decide, by decide⟩, b, c, cs, _, rfl, B8, by decide, by decide, fun a1 H9 a10 a11 B9 k9 => ?_⟩
      refine ⟨b, c, cs, _, rfl, B9, by decide, by decide, fun a2 H10 a20 a21 B10 k10 => ?_⟩
      intro p np
      have PK10 := PK.kp ((k8.trans k9).trans k10)
      obtain ⟨pb, pc⟩ := B10.apart np
      have pD : p ≠ D := fun e => by rw [e, PK10.1] at np; cases np
      refine ⟨D, _, _, rfl, rfl, upd_old PK10.1 np, by rw [sizeLine_eq, List.length_map]; omega, (B10.laid np).other PK.2.1 Dc, ps ++ [(p, a0, a1, a2)], ⟨by rw [upd_same, List.map_append]; rfl, PK.2.1, fun x hx => ?_⟩, by rw [List.length_append, lp]; rfl⟩
      rcases List.mem_append.mp hx with hx | hx
      · obtain ⟨e1, e2, e3, e4, e5, e6⟩ := PK10.2.2 x hx
        exact ⟨by rw [upd_ne e5]; exact upd_old e1 np, e2, e3, e4, e5, e6⟩
      · rw [List.mem_singleton.mp hx]
        exact ⟨by rw [upd_ne pD]; exact upd_same, a00, a10, a20, pD, pb⟩
    · rintro σ Hc ⟨v3, v4, v5, v6, v7, v8, v9, ps, rfl, B, PK, lp⟩
      subst hG
      generalize hG : tSeq (tFor _ _ _) _ = tail
      simp! []
      refine ⟨b, c, cs, rfl, B, fun pl das ds H3 PR FIT _ _ B3 k3 => ?_⟩
      refine ⟨pl, das, ds, rfl, PR, FIT.tx, fun H4 S4 => ?_⟩
      have X := FIT.tx
      have B4 := B3.keep S4
      have PK4 := (PK.kp k3).kp (Kp.of S4)
      have tl := (progTx_len X).1
      have ta := prog_asc X.g
      have l3 : ps.length ≤ 3 := by omega
      clear lp S4 k3 PK B PR B3
      subst hG
      generalize hG : tSeq (tAsg _ _) _ = tail
      refine forL (H1 := H4) D (ps.map fun x => V.ref x.1) (fun Q2 h2 => by simp! []; exact h2) (fun i σ Hc => ∃ (z : Str) (v5 : Option V), σ = [some (V.ref r), some (V.ref b), some (V.ref D), v3, some (V.str z), v5, v6, v7, v8, v9] ∧ Asc z ∧ z.length + 13 ≤ 200013 * 2 ^ i ∧ (i = 0 → z = progTx ds) ∧ BagAt Hc b c cs ∧ PkL Hc b D ps)
        ⟨progTx ds, _, rfl, ta, by omega, fun _ => rfl, B4, PK4⟩ (fun i σ Hc _ ⟨_, _, _, _, _, _, _, pk⟩ => .of pk.1) ?_ ?_
      · rintro i x σ Hc hx ⟨z, v5, rfl, az, lz, _, B5, PK5⟩
        obtain ⟨pk, hpk, rfl⟩ := of_map_get hx
        have il := (List.getElem?_eq_some_iff.mp hpk).1
        obtain ⟨e1, e2, e3, e4, e5, e6⟩ := PK5.2.2 pk (List.mem_of_getElem? hpk)
        have p2 : 2 ^ i ≤ 4 := by
          have : i = 0 ∨ i = 1 ∨ i = 2 := by omega
          rcases this with rfl | rfl | rfl <;> decide
        have ps2 : 200013 * 2 ^ (i + 1) = 2 * (200013 * 2 ^ i) := by rw [Nat.pow_succ]; omega
        simp! [e1]
        refine ite2 (fun _ => ?_) fun _ => ?_
        · refine ⟨b, c, pk.1, cs, z, _, _, _, rfl, B5, e1, e2, e3, e4, az, by omega, fun y H6 ay ly B6 k6 => ?_⟩
          exact ⟨y, rfl, ay, by omega, fun h => h.elim, B6, PK5.kp k6⟩
        · refine ⟨pk.1, z, _, _, _, rfl, e1, e3, e4, az, by omega, fun y H6 ay ly S6 => ?_⟩
          exact ⟨y, rfl, ay, by omega, fun h => h.elim, B5.keep S6, PK5.kp (Kp.of S6)⟩
      · rintro σ Hc ⟨z, v5, rfl, az, lz, z0, B5, PK5⟩
        rw [List.length_map] at lz z0
        have p3 : 2 ^ ps.length ≤ 8 := by
          have : ps.length = 0 ∨ ps.length = 1 ∨ ps.length = 2 ∨ ps.length = 3 := by omega
          rcases this with e | e | e | e <;> rw [e] <;> decide
        have lz2 : z.length ≤ 1900000 := by omega
        subst hG
        generalize hG : tSeq (tIfS _ _ _) _ = tail
        simp! []
        refine ⟨z, rfl, az, lz2, fun no rr tl H6 S6 hr hl => ?_, fun dq fl fas rr tl H6 G ez RD hr hl => ?_⟩
        · refine gTup_of hr rfl ?_
          subst hG
          have PK6 := PK5.kp (Kp.of S6)
          have p0 : 0 < ps.length := Nat.pos_of_ne_zero fun e => no _ X.g (z0 e)
          have topp := PK6.1
          simp! [hl]
          intro p np
          have h7 := upd_old (u := .lst []) hl np
          refine ⟨_, by rw [h7]; rfl, by rw [h7]; rfl, ?_⟩
          rw [if_pos (by simp)]
          intro p1 np1
          have h8 := upd_old (u := .lst [V.bl true, V.bl true, V.bl false]) h7 np1
          have t8 := upd_old (u := .lst [V.bl true, V.bl true, V.bl false]) (upd_old (u := .lst []) topp np) np1
          have ee : eqVs [V.bl true, V.bl true, V.bl false] [V.bl true, V.bl true, V.bl false] = true := by first | rfl | decide
          refine ⟨true, [V.bl true, V.bl true, V.bl false], by rw [h8]; rfl, by rw [h8]; rfl, rfl, rfl, rfl, ?_⟩
          rw [if_pos ee]
          refine ⟨ps.length, by rw [t8]; show some _ = some _; rw [List.length_map], ?_⟩
          rw [decide_eq_true (by omega)]
          exact fin _
        · refine gTup_of hr rfl ?_
          subst hG
          generalize hG : tSeq (tIfS (tNot _) _ _) _ = tail
          simp! [hl]
          intro p np
          have h7 := upd_old (u := .lst []) hl np
          have RD7 := RD.same (Same.laid (u := .lst []) np)
          refine ⟨_, by rw [h7]; rfl, by rw [h7]; rfl, ?_⟩
          rw [if_neg (by simp)]
          revert RD7
          generalize upd H6 p (.lst []) = H7
          intro RD7
          clear h7 hl hr RD np
          subst ez
          subst hG
          simp! []
          refine ⟨fl, dq, rfl, .of RD7.at_, G.b lz2, fun H8 S8 => ⟨_, rfl, ?_⟩⟩
          cases hf : formB dq with
          | false =>
            rw [if_pos rfl]
            exact fin _
          | true =>
            rw [if_neg (by simp)]
            have X2 := G.tx hf
            have x8 := X2.n1
            have P8 := RD7.at_.same S8
            refine ⟨fl, fas, dq, rfl, P8, x8, fun hl has H9 _ S9 PK9 => ?_⟩
            refine ⟨fl, fas, dq, rfl, P8.same S9, X2, fun H10 S10 => ?_⟩
            have P10 := (P8.same S9).same S10
            have K10 := PK9.same S10
            simp! []
            refine ⟨_, _, rfl, .prog P10 K10 X2.sm (by omega), ?_⟩
            simp! []
            refine ⟨_, rfl, prog_asc G, lz2, fun dr gl gas H11 G' e11 RD11 => ?_, fun no => absurd rfl (no dq G)⟩
            have ed := prog_inj G G' e11
            subst ed
            exact ⟨_, _, rfl, .prog RD11.at_ (K10.same RD11.sm) X2.sm (by omega), fin _⟩

end
set_option maxHeartbeats 4000000 in
theorem all_mk {l : PySem.W.OpenLaw} {w : World} {K : PySem.W.Frag} {h : Heap} {mg : Str → Option Value} {fa : Addr} {X_NoText : Addr} {X_HoldError : Addr} {X_NoSpot : Addr} {X_NoThing : Addr} {X_NotFormed : Addr} {X_NoTable : Addr} {X_Faulty : Addr} {f0 f1 f2 f3 f4 f5 f6 f7 f8 f9 f10 f11 f12 f13 f14 f15 f16 f17 f18 f19 f20 f21 f22 f23 f24 f25 f26 f27 f28 : Addr} {tk_FIGURES : Nat} {tk_MOST_FIGURES : Nat} {gK_PARTS : Addr}
    (X : K.In h) (G : h.Ns mainGlobals mg) (hfa : mg "law" = some (.ref fa))
    (aX_NoText : PySem.W.nsIn K mainGlobals "NoText" = some (some (.ref X_NoText))) (qX_NoText : XCls K X_NoText)
    (aX_HoldError : PySem.W.nsIn K mainGlobals "HoldError" = some (some (.ref X_HoldError)))
    (aX_NoSpot : PySem.W.nsIn K mainGlobals "NoSpot" = some (some (.ref X_NoSpot)))
    (aX_NoThing : PySem.W.nsIn K mainGlobals "NoThing" = some (some (.ref X_NoThing)))
    (aX_NotFormed : PySem.W.nsIn K mainGlobals "NotFormed" = some (some (.ref X_NotFormed)))
    (aX_NoTable : PySem.W.nsIn K mainGlobals "NoTable" = some (some (.ref X_NoTable)))
    (aX_Faulty : PySem.W.nsIn K mainGlobals "Faulty" = some (some (.ref X_Faulty)))
    (xT : HT.xTab K X_HoldError [X_HoldError, X_NoSpot, X_NoThing, X_NoText, X_NotFormed, X_NoTable, X_Faulty] = true)
    (a0 : PySem.W.nsIn K mainGlobals "parts_of" = some (some (.ref f0)))
    (F0 : ∃ fd, Fun K "parts_of" "parts_of" s_parts_of f0 fd)
    (a1 : PySem.W.nsIn K mainGlobals "read_whole" = some (some (.ref f1)))
    (F1 : ∃ fd, Fun K "read_whole" "read_whole" s_read_whole f1 fd)
    (a2 : PySem.W.nsIn K mainGlobals "shown_row" = some (some (.ref f2)))
    (F2 : ∃ fd, Fun K "shown_row" "shown_row" s_shown_row f2 fd)
    (a3 : PySem.W.nsIn K mainGlobals "shown" = some (some (.ref f3)))
    (F3 : ∃ fd, Fun K "shown" "shown" s_shown f3 fd)
    (a4 : PySem.W.nsIn K mainGlobals "read_takes" = some (some (.ref f4)))
    (F4 : ∃ fd, Fun K "read_takes" "read_takes" s_read_takes f4 fd)
    (a5 : PySem.W.nsIn K mainGlobals "read_head" = some (some (.ref f5)))
    (F5 : ∃ fd, Fun K "read_head" "read_head" s_read_head f5 fd)
    (a6 : PySem.W.nsIn K mainGlobals "read_row" = some (some (.ref f6)))
    (F6 : ∃ fd, Fun K "read_row" "read_row" s_read_row f6 fd)
    (a7 : PySem.W.nsIn K mainGlobals "read" = some (some (.ref f7)))
    (F7 : ∃ fd, Fun K "read" "read" s_read f7 fd)
    (a8 : PySem.W.nsIn K mainGlobals "_law_bag" = some (some (.ref f8)))
    (F8 : ∃ fd, Fun K "_law_bag" "_law_bag" s_law_bag f8 fd)
    (a9 : PySem.W.nsIn K mainGlobals "_law_draw" = some (some (.ref f9)))
    (F9 : ∃ fd, Fun K "_law_draw" "_law_draw" s_law_draw f9 fd)
    (a10 : PySem.W.nsIn K mainGlobals "_law_letters" = some (some (.ref f10)))
    (F10 : ∃ fd, Fun K "_law_letters" "_law_letters" s_law_letters f10 fd)
    (a11 : PySem.W.nsIn K mainGlobals "_law_number" = some (some (.ref f11)))
    (F11 : ∃ fd, Fun K "_law_number" "_law_number" s_law_number f11 fd)
    (a12 : PySem.W.nsIn K mainGlobals "_law_part" = some (some (.ref f12)))
    (F12 : ∃ fd, Fun K "_law_part" "_law_part" s_law_part f12 fd)
    (a13 : PySem.W.nsIn K mainGlobals "_law_row" = some (some (.ref f13)))
    (F13 : ∃ fd, Fun K "_law_row" "_law_row" s_law_row f13 fd)
    (a14 : PySem.W.nsIn K mainGlobals "_law_rows" = some (some (.ref f14)))
    (F14 : ∃ fd, Fun K "_law_rows" "_law_rows" s_law_rows f14 fd)
    (a15 : PySem.W.nsIn K mainGlobals "_law_signs" = some (some (.ref f15)))
    (F15 : ∃ fd, Fun K "_law_signs" "_law_signs" s_law_signs f15 fd)
    (a16 : PySem.W.nsIn K mainGlobals "_law_program" = some (some (.ref f16)))
    (F16 : ∃ fd, Fun K "_law_program" "_law_program" s_law_program f16 fd)
    (a17 : PySem.W.nsIn K mainGlobals "_law_written" = some (some (.ref f17)))
    (F17 : ∃ fd, Fun K "_law_written" "_law_written" s_law_written f17 fd)
    (a18 : PySem.W.nsIn K mainGlobals "_law_any_sign" = some (some (.ref f18)))
    (F18 : ∃ fd, Fun K "_law_any_sign" "_law_any_sign" s_law_any_sign f18 fd)
    (a19 : PySem.W.nsIn K mainGlobals "_law_run" = some (some (.ref f19)))
    (F19 : ∃ fd, Fun K "_law_run" "_law_run" s_law_run f19 fd)
    (a20 : PySem.W.nsIn K mainGlobals "_law_bent_text" = some (some (.ref f20)))
    (F20 : ∃ fd, Fun K "_law_bent_text" "_law_bent_text" s_law_bent_text f20 fd)
    (a21 : PySem.W.nsIn K mainGlobals "_law_part_good" = some (some (.ref f21)))
    (F21 : ∃ fd, Fun K "_law_part_good" "_law_part_good" s_law_part_good f21 fd)
    (a22 : PySem.W.nsIn K mainGlobals "_law_row_good" = some (some (.ref f22)))
    (F22 : ∃ fd, Fun K "_law_row_good" "_law_row_good" s_law_row_good f22 fd)
    (a23 : PySem.W.nsIn K mainGlobals "_law_formed" = some (some (.ref f23)))
    (F23 : ∃ fd, Fun K "_law_formed" "_law_formed" s_law_formed f23 fd)
    (a24 : PySem.W.nsIn K mainGlobals "_law_read" = some (some (.ref f24)))
    (F24 : ∃ fd, Fun K "_law_read" "_law_read" s_law_read f24 fd)
    (a25 : PySem.W.nsIn K mainGlobals "_law_copy" = some (some (.ref f25)))
    (F25 : ∃ fd, Fun K "_law_copy" "_law_copy" s_law_copy f25 fd)
    (a26 : PySem.W.nsIn K mainGlobals "_law_alike" = some (some (.ref f26)))
    (F26 : ∃ fd, Fun K "_law_alike" "_law_alike" s_law_alike f26 fd)
    (a27 : PySem.W.nsIn K mainGlobals "_law_turned" = some (some (.ref f27)))
    (F27 : ∃ fd, Fun K "_law_turned" "_law_turned" s_law_turned f27 fd)
    (a28 : PySem.W.nsIn K mainGlobals "law" = some (some (.ref f28)))
    (F28 : ∃ fd, Fun K "law" "law" s_law f28 fd)
    (z_ValueError : PySem.W.nsIn K mainGlobals "ValueError" = some none)
    (z_abs : PySem.W.nsIn K mainGlobals "abs" = some none)
    (z_all : PySem.W.nsIn K mainGlobals "all" = some none)
    (z_bool : PySem.W.nsIn K mainGlobals "bool" = some none)
    (z_int : PySem.W.nsIn K mainGlobals "int" = some none)
    (z_isinstance : PySem.W.nsIn K mainGlobals "isinstance" = some none)
    (z_len : PySem.W.nsIn K mainGlobals "len" = some none)
    (z_list : PySem.W.nsIn K mainGlobals "list" = some none)
    (z_range : PySem.W.nsIn K mainGlobals "range" = some none)
    (z_str : PySem.W.nsIn K mainGlobals "str" = some none)
    (z_tuple : PySem.W.nsIn K mainGlobals "tuple" = some none)
    (aK_FIGURES : PySem.W.nsIn K mainGlobals "FIGURES" = some (some (.str "0123456789" tk_FIGURES)))
    (aK_MOST_FIGURES : PySem.W.nsIn K mainGlobals "MOST_FIGURES" = some (some (.int (60) tk_MOST_FIGURES)))
    (aK_PARTS : PySem.W.nsIn K mainGlobals "PARTS" = some (some (.ref gK_PARTS))) (kK_PARTS : rdK K 6 (.ref gK_PARTS) = some kd_PARTS) :
    ∃ fd : FuncData, (∀ (s : Shared) (v : Value), BindsTo s fd ⟨[v], []⟩ [("script", v)]) ∧ ∀ base : Heap, K.In base → base.Ns mainGlobals mg → FnOk l.prog w K mg base (CX1 l.prog w) 7 fa fd ["script"] (spLaw K) := by
  have e := hfa.symm.trans (PySem.W.mg_of X G a28)
  cases e
  obtain ⟨_, F0⟩ := F0
  have b0 := F0.binds (ps := ["word"]) fun _ _ _ _ _ _ us hl => match us, hl with | [_], _ => rfl
  obtain ⟨_, F1⟩ := F1
  have b1 := F1.binds (ps := ["text", "most"]) fun _ _ _ _ _ _ us hl => match us, hl with | [_, _], _ => rfl
  obtain ⟨_, F2⟩ := F2
  have b2 := F2.binds (ps := ["row"]) fun _ _ _ _ _ _ us hl => match us, hl with | [_], _ => rfl
  obtain ⟨_, F3⟩ := F3
  have b3 := F3.binds (ps := ["program"]) fun _ _ _ _ _ _ us hl => match us, hl with | [_], _ => rfl
  obtain ⟨_, F4⟩ := F4
  have b4 := F4.binds (ps := ["part"]) fun _ _ _ _ _ _ us hl => match us, hl with | [_], _ => rfl
  obtain ⟨_, F5⟩ := F5
  have b5 := F5.binds (ps := ["parts"]) fun _ _ _ _ _ _ us hl => match us, hl with | [_], _ => rfl
  obtain ⟨_, F6⟩ := F6
  have b6 := F6.binds (ps := ["parts"]) fun _ _ _ _ _ _ us hl => match us, hl with | [_], _ => rfl
  obtain ⟨_, F7⟩ := F7
  have b7 := F7.binds (ps := ["text"]) fun _ _ _ _ _ _ us hl => match us, hl with | [_], _ => rfl
  obtain ⟨_, F8⟩ := F8
  have b8 := F8.binds (ps := ["script"]) fun _ _ _ _ _ _ us hl => match us, hl with | [_], _ => rfl
  obtain ⟨_, F9⟩ := F9
  have b9 := F9.binds (ps := ["bag", "many"]) fun _ _ _ _ _ _ us hl => match us, hl with | [_, _], _ => rfl
  obtain ⟨_, F10⟩ := F10
  have b10 := F10.binds (ps := []) fun _ _ _ _ _ _ us hl => match us, hl with | [], _ => rfl
  obtain ⟨_, F11⟩ := F11
  have b11 := F11.binds (ps := ["bag"]) fun _ _ _ _ _ _ us hl => match us, hl with | [_], _ => rfl
  obtain ⟨_, F12⟩ := F12
  have b12 := F12.binds (ps := ["bag", "letter", "words", "many", "signs"]) fun _ _ _ _ _ _ us hl => match us, hl with | [_, _, _, _, _], _ => rfl
  obtain ⟨_, F13⟩ := F13
  have b13 := F13.binds (ps := ["bag", "word", "words", "many", "signs"]) fun _ _ _ _ _ _ us hl => match us, hl with | [_, _, _, _, _], _ => rfl
  obtain ⟨_, F14⟩ := F14
  have b14 := F14.binds (ps := ["bag", "words", "many", "signs"]) fun _ _ _ _ _ _ us hl => match us, hl with | [_, _, _, _], _ => rfl
  obtain ⟨_, F15⟩ := F15
  have b15 := F15.binds (ps := ["bag", "many"]) fun _ _ _ _ _ _ us hl => match us, hl with | [_, _], _ => rfl
  obtain ⟨_, F16⟩ := F16
  have b16 := F16.binds (ps := ["bag"]) fun _ _ _ _ _ _ us hl => match us, hl with | [_], _ => rfl
  obtain ⟨_, F17⟩ := F17
  have b17 := F17.binds (ps := ["program"]) fun _ _ _ _ _ _ us hl => match us, hl with | [_], _ => rfl
  obtain ⟨_, F18⟩ := F18
  have b18 := F18.binds (ps := ["bag"]) fun _ _ _ _ _ _ us hl => match us, hl with | [_], _ => rfl
  obtain ⟨_, F19⟩ := F19
  have b19 := F19.binds (ps := ["bag"]) fun _ _ _ _ _ _ us hl => match us, hl with | [_], _ => rfl
  obtain ⟨_, F20⟩ := F20
  have b20 := F20.binds (ps := ["text", "pick", "bag"]) fun _ _ _ _ _ _ us hl => match us, hl with | [_, _, _], _ => rfl
  obtain ⟨_, F21⟩ := F21
  have b21 := F21.binds (ps := ["program", "one", "letter", "part"]) fun _ _ _ _ _ _ us hl => match us, hl with | [_, _, _, _], _ => rfl
  obtain ⟨_, F22⟩ := F22
  have b22 := F22.binds (ps := ["program", "one", "row"]) fun _ _ _ _ _ _ us hl => match us, hl with | [_, _, _], _ => rfl
  obtain ⟨_, F23⟩ := F23
  have b23 := F23.binds (ps := ["program"]) fun _ _ _ _ _ _ us hl => match us, hl with | [_], _ => rfl
  obtain ⟨_, F24⟩ := F24
  have b24 := F24.binds (ps := ["text"]) fun _ _ _ _ _ _ us hl => match us, hl with | [_], _ => rfl
  obtain ⟨_, F25⟩ := F25
  have b25 := F25.binds (ps := ["program"]) fun _ _ _ _ _ _ us hl => match us, hl with | [_], _ => rfl
  obtain ⟨_, F26⟩ := F26
  have b26 := F26.binds (ps := ["found", "due"]) fun _ _ _ _ _ _ us hl => match us, hl with | [_, _], _ => rfl
  obtain ⟨_, F27⟩ := F27
  have b27 := F27.binds (ps := ["text", "pick"]) fun _ _ _ _ _ _ us hl => match us, hl with | [_, _], _ => rfl
  obtain ⟨_, F28⟩ := F28
  obtain ⟨_, _, _, _, _, _, _, _, _, e_, _, _⟩ := F28.ex
  subst e_
  have b28 := F28.binds (ps := ["script"]) fun _ _ _ _ _ _ us hl => match us, hl with | [_], _ => rfl
  have T : Txt K mg ⟨_, _, _, _, _, _, _, _, _, _, _, _, _, _, _, _, _, _, _, _, _, _, _, _, _, _, _, _, _, _, _, _, _, _, _, _, _, _, _, _, _, _, _, _, _, _, _, _, _, _, _, _, _, _, _, _, _, _, _, _, _, _, _, _, _, _, _, _⟩ := ⟨qX_NoText, PySem.W.mg_of X G aX_NoText, PySem.W.mg_of X G aX_HoldError, PySem.W.mg_of X G aX_NoSpot, PySem.W.mg_of X G aX_NoThing, PySem.W.mg_of X G aX_NotFormed, PySem.W.mg_of X G aX_NoTable, PySem.W.mg_of X G aX_Faulty, HT.xTab_of xT, F0, b0, PySem.W.mg_of X G a0, F1, b1, PySem.W.mg_of X G a1, F2, b2, PySem.W.mg_of X G a2, F3, b3, PySem.W.mg_of X G a3, F4, b4, PySem.W.mg_of X G a4, F5, b5, PySem.W.mg_of X G a5, F6, b6, PySem.W.mg_of X G a6, F7, b7, PySem.W.mg_of X G a7, F8, b8, PySem.W.mg_of X G a8, F9, b9, PySem.W.mg_of X G a9, F10, b10, PySem.W.mg_of X G a10, F11, b11, PySem.W.mg_of X G a11, F12, b12, PySem.W.mg_of X G a12, F13, b13, PySem.W.mg_of X G a13, F14, b14, PySem.W.mg_of X G a14, F15, b15, PySem.W.mg_of X G a15, F16, b16, PySem.W.mg_of X G a16, F17, b17, PySem.W.mg_of X G a17, F18, b18, PySem.W.mg_of X G a18, F19, b19, PySem.W.mg_of X G a19, F20, b20, PySem.W.mg_of X G a20, F21, b21, PySem.W.mg_of X G a21, F22, b22, PySem.W.mg_of X G a22, F23, b23, PySem.W.mg_of X G a23, F24, b24, PySem.W.mg_of X G a24, F25, b25, PySem.W.mg_of X G a25, F26, b26, PySem.W.mg_of X G a26, F27, b27, PySem.W.mg_of X G a27, F28, b28, PySem.W.mg_of X G a28, PySem.W.mg_none_of X G z_ValueError, PySem.W.mg_none_of X G z_abs, PySem.W.mg_none_of X G z_all, PySem.W.mg_none_of X G z_bool, PySem.W.mg_none_of X G z_int, PySem.W.mg_none_of X G z_isinstance, PySem.W.mg_none_of X G z_len, PySem.W.mg_none_of X G z_list, PySem.W.mg_none_of X G z_range, PySem.W.mg_none_of X G z_str, PySem.W.mg_none_of X G z_tuple, PySem.W.mg_of X G aK_FIGURES, PySem.W.mg_of X G aK_MOST_FIGURES, PySem.W.mg_of X G aK_PARTS, kK_PARTS⟩
  exact ⟨_, fun s v => .of_eq rfl, fun base _ _ => ok_law T⟩
theorem walk {l : PySem.W.OpenLaw} {q : Program} {loose : List Str} {XP : (Str → Option Value) → Heap → Prop} {YP : World → Heap → Prop} {d : DefRec} {K : Params → PySem.W.Frag} (hn : l.most = some 63) (hdf : d.params.defaults = [])
    (hY : ∀ (w : World) (h : Heap), YP w h → (K w.params).In h)
    (F : ∀ (w : World) (mg : Str → Option Value) (fa : Addr) (h : Heap), (K w.params).In h → h.Ns mainGlobals mg → mg d.name = some (.ref fa) →
      ∃ fd : FuncData, (∀ (s : Shared) (u : Value), BindsTo s fd ⟨[u], []⟩ [("script", u)]) ∧ ∀ base : Heap, (K w.params).In base → base.Ns mainGlobals mg → FnOk l.prog w (K w.params) mg base (CX1 l.prog w) 7 fa fd ["script"] (spLaw (K w.params))) :
    PySem.W.WalkO q loose XP YP l.row.toRowW d [] (fun f vs => PySem.call f vs) :=
  L2.walk_of (n := 63) (k := 7) (x := "script") (CX := fun w => (CX1 l.prog w)) (sp := fun w => spLaw (K w.params)) hn (by decide) hdf ⟨rfl, by decide, by decide⟩ hY F (fun _ _ a ns hl _ hS => ⟨a, ns, rfl, hS, hl, fun _ => rfl⟩) (fun _ _ _ _ _ z => by obtain ⟨_, _, _, _, _, _, _, _, _, _, _, _, z⟩ := z; exact z)
end Law
open PySem PySem.W PyProof.Rows
namespace PySem.W.Fast
theorem tw5895355365178416858 :True:=⟨⟩
theorem tw18444498144481514998 :True:=⟨⟩
theorem tw9021074649090356374 :True:=⟨⟩
theorem tw7337251541260516508 :True:=⟨⟩
theorem tw16143070446881725086 :True:=⟨⟩
theorem tw1774652930486197086 :True:=⟨⟩
theorem tw10734241406161655143 :True:=⟨⟩
theorem tw16323940015762996768 :True:=⟨⟩
theorem tw15653484047405648826 :True:=⟨⟩
theorem tw4005162495151100661 :True:=⟨⟩
theorem tw15412456746501669050 :True:=⟨⟩
theorem tw16057009939920055759 :True:=⟨⟩
theorem tw1614196687916378037 :True:=⟨⟩
theorem tw7603434042702964022 :True:=⟨⟩
theorem tw17969068226075885007 :True:=⟨⟩
theorem tw8374629499585114439 :True:=⟨⟩
theorem tw12735320441875544320 :True:=⟨⟩
theorem tw13009867499691736598 :True:=⟨⟩
theorem tw6983807799975584280 :True:=⟨⟩
theorem tw1247130273357751404 :True:=⟨⟩
theorem tw12347270029420633897 :True:=⟨⟩
theorem tw1413871151169361246 :True:=⟨⟩
theorem tw14570146430567596181 :True:=⟨⟩
theorem tw2236137261672841752 :True:=⟨⟩
theorem tw17999743224894398716 :True:=⟨⟩
theorem tw17080030173659033023 :True:=⟨⟩
theorem tw13919483175592470252 :True:=⟨⟩
theorem tw11584140548611492348 :True:=⟨⟩
theorem tw16847459341881848430 :True:=⟨⟩
theorem tw12572528687639662444 :True:=⟨⟩
theorem tw5766406999812908206 :True:=⟨⟩
theorem tw7802879500655535429 :True:=⟨⟩
theorem tw8732613410633474879 :True:=⟨⟩
theorem tw9488955056456208502 :True:=⟨⟩
theorem tw4948637707541424697 :True:=⟨⟩
theorem tw6074852019435717250 :True:=⟨⟩
theorem tw5987150091803838526 :True:=⟨⟩
theorem tw13295349170000947392 :True:=⟨⟩
theorem tw14313046040782977166 :True:=⟨⟩
theorem tw14372792373068258603 :True:=⟨⟩
theorem tw698621036031435471 :True:=⟨⟩
theorem tw10980871878970056105 :True:=⟨⟩
theorem tw18313723690830135146 :True:=⟨⟩
theorem tw6247424330384490827 :True:=⟨⟩
theorem tw6779693955631457923 :True:=⟨⟩
theorem tw14465373490153475973 :True:=⟨⟩
theorem tw2799959202355963775 :True:=⟨⟩
theorem tw774899233869360732 :True:=⟨⟩
theorem tw17435589550701516959 :True:=⟨⟩
theorem tw3664159950766929766 :True:=⟨⟩
theorem tw6670492906394092408 :True:=⟨⟩
theorem tw2626668245957747250 :True:=⟨⟩
end PySem.W.Fast
set_option maxRecDepth 100000 in
set_option maxHeartbeats 0 in
theorem PySem.Challenge.cw_knownholds_k18_whole_one_text_holds : PySem.Challenge.rw_knownholds_k18_whole_one_text.Holds := by
  w_on; o_law; k_head; (case hw => w_witness2)
  k_fill
  refine Law.walk (l := PySem.Challenge.rw_knownholds_k18_whole_one_text) rfl rfl (fun w h Y => PySem.W.kIn_of Y) ?F
  case F =>
    intro w mg fa h KX G hmg
    refine' Law.all_mk KX G hmg ?aX_NoText ?qX_NoText ?aX_HoldError ?aX_NoSpot ?aX_NoThing ?aX_NotFormed ?aX_NoTable ?aX_Faulty ?xT ?a0 ?F0 ?a1 ?F1 ?a2 ?F2 ?a3 ?F3 ?a4 ?F4 ?a5 ?F5 ?a6 ?F6 ?a7 ?F7 ?a8 ?F8 ?a9 ?F9 ?a10 ?F10 ?a11 ?F11 ?a12 ?F12 ?a13 ?F13 ?a14 ?F14 ?a15 ?F15 ?a16 ?F16 ?a17 ?F17 ?a18 ?F18 ?a19 ?F19 ?a20 ?F20 ?a21 ?F21 ?a22 ?F22 ?a23 ?F23 ?a24 ?F24 ?a25 ?F25 ?a26 ?F26 ?a27 ?F27 ?a28 ?F28 ?z_ValueError ?z_abs ?z_all ?z_bool ?z_int ?z_isinstance ?z_len ?z_list ?z_range ?z_str ?z_tuple ?aK_FIGURES ?aK_MOST_FIGURES ?aK_PARTS ?kK_PARTS
    (case aX_NoText => k_is)
    (case qX_NoText => (unfold L2.XCls; k_exc))
    (case aX_HoldError => k_is)
    (case aX_NoSpot => k_is)
    (case aX_NoThing => k_is)
    (case aX_NotFormed => k_is)
    (case aX_NoTable => k_is)
    (case aX_Faulty => k_is)
    (case xT => kernel_rfl)
    (case a0 => k_is)
    (case F0 => exact ⟨_, L2.fun_mk (by k_is) (by k_is) (by k_is)⟩)
    (case a1 => k_is)
    (case F1 => exact ⟨_, L2.fun_mk (by k_is) (by k_is) (by k_is)⟩)
    (case a2 => k_is)
    (case F2 => exact ⟨_, L2.fun_mk (by k_is) (by k_is) (by k_is)⟩)
    (case a3 => k_is)
    (case F3 => exact ⟨_, L2.fun_mk (by k_is) (by k_is) (by k_is)⟩)
    (case a4 => k_is)
    (case F4 => exact ⟨_, L2.fun_mk (by k_is) (by k_is) (by k_is)⟩)
    (case a5 => k_is)
    (case F5 => exact ⟨_, L2.fun_mk (by k_is) (by k_is) (by k_is)⟩)
    (case a6 => k_is)
    (case F6 => exact ⟨_, L2.fun_mk (by k_is) (by k_is) (by k_is)⟩)
    (case a7 => k_is)
    (case F7 => exact ⟨_, L2.fun_mk (by k_is) (by k_is) (by k_is)⟩)
    (case a8 => k_is)
    (case F8 => exact ⟨_, L2.fun_mk (by k_is) (by k_is) (by k_is)⟩)
    (case a9 => k_is)
    (case F9 => exact ⟨_, L2.fun_mk (by k_is) (by k_is) (by k_is)⟩)
    (case a10 => k_is)
    (case F10 => exact ⟨_, L2.fun_mk (by k_is) (by k_is) (by k_is)⟩)
    (case a11 => k_is)
    (case F11 => exact ⟨_, L2.fun_mk (by k_is) (by k_is) (by k_is)⟩)
    (case a12 => k_is)
    (case F12 => exact ⟨_, L2.fun_mk (by k_is) (by k_is) (by k_is)⟩)
    (case a13 => k_is)
    (case F13 => exact ⟨_, L2.fun_mk (by k_is) (by k_is) (by k_is)⟩)
    (case a14 => k_is)
    (case F14 => exact ⟨_, L2.fun_mk (by k_is) (by k_is) (by k_is)⟩)
    (case a15 => k_is)
    (case F15 => exact ⟨_, L2.fun_mk (by k_is) (by k_is) (by k_is)⟩)
    (case a16 => k_is)
    (case F16 => exact ⟨_, L2.fun_mk (by k_is) (by k_is) (by k_is)⟩)
    (case a17 => k_is)
    (case F17 => exact ⟨_, L2.fun_mk (by k_is) (by k_is) (by k_is)⟩)
    (case a18 => k_is)
    (case F18 => exact ⟨_, L2.fun_mk (by k_is) (by k_is) (by k_is)⟩)
    (case a19 => k_is)
    (case F19 => exact ⟨_, L2.fun_mk (by k_is) (by k_is) (by k_is)⟩)
    (case a20 => k_is)
    (case F20 => exact ⟨_, L2.fun_mk (by k_is) (by k_is) (by k_is)⟩)
    (case a21 => k_is)
    (case F21 => exact ⟨_, L2.fun_mk (by k_is) (by k_is) (by k_is)⟩)
    (case a22 => k_is)
    (case F22 => exact ⟨_, L2.fun_mk (by k_is) (by k_is) (by k_is)⟩)
    (case a23 => k_is)
    (case F23 => exact ⟨_, L2.fun_mk (by k_is) (by k_is) (by k_is)⟩)
    (case a24 => k_is)
    (case F24 => exact ⟨_, L2.fun_mk (by k_is) (by k_is) (by k_is)⟩)
    (case a25 => k_is)
    (case F25 => exact ⟨_, L2.fun_mk (by k_is) (by k_is) (by k_is)⟩)
    (case a26 => k_is)
    (case F26 => exact ⟨_, L2.fun_mk (by k_is) (by k_is) (by k_is)⟩)
    (case a27 => k_is)
    (case F27 => exact ⟨_, L2.fun_mk (by k_is) (by k_is) (by k_is)⟩)
    (case a28 => k_is)
    (case F28 => exact ⟨_, L2.fun_mk (by k_is) (by k_is) (by k_is)⟩)
    (case z_ValueError => k_is)
    (case z_abs => k_is)
    (case z_all => k_is)
    (case z_bool => k_is)
    (case z_int => k_is)
    (case z_isinstance => k_is)
    (case z_len => k_is)
    (case z_list => k_is)
    (case z_range => k_is)
    (case z_str => k_is)
    (case z_tuple => k_is)
    (case aK_FIGURES => k_is)
    (case aK_MOST_FIGURES => k_is)
    (case aK_PARTS => k_is)
    (case kK_PARTS => kernel_rfl)

