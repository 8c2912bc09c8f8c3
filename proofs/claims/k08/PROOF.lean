import PyProof.Rows.All
import Wide.All
import OpenK.AllK
import Wide.FinOn
import Lean
import PyProof.EqAt
import PyProof.EqKinds
import PyProof.TupleCall
import KE.KTab
import PyProof.ListRange
import KE.KTryMore
import KE.KIntText
import PyProof.DictUpdate
import KE.KDictOf
import PyProof.AttrMissHeap
import PySem.Challenge.RW_knownholds_k08_whole_ways_are_alike
set_option Elab.async false
set_option linter.all false
set_option maxRecDepth 100000
namespace L2
open PySem PySem.Spec PyProof.Rows
abbrev Key:=Sum Int Str
noncomputable def keyIs:Key->Value->Bool
 | .inl k,v=>Value.isInt k v
 | .inr x,v=>Value.isStrOf x v
noncomputable def keyH (w:World):Key->Int
 | .inl k=>hashInt k
 | .inr x=>hashStr w x
theorem keyIs_shape:∀ {k:Key} {v:Value},keyIs k v = true->(∃ i t,k = Sum.inl i∧v = Value.int i t) ∨ (∃ x t,k = Sum.inr x∧v = Value.str x t)
 | .inl i,v,h=>by
  obtain ⟨t,e⟩:=Value.isInt_shape (k:=i) (v:=v) h
  exact .inl ⟨i,t,rfl,e⟩
 | .inr x,v,h=>by
  obtain ⟨t,e⟩:=Value.isStrOf_shape (x:=x) (v:=v) h
  exact .inr ⟨x,t,rfl,e⟩
theorem zgF (i:Int) (t:Tok):keyIs (.inl i) (.int i t) = true:=by simp [keyIs,Value.isInt]
theorem zf7 (x:Str) (t:Tok):keyIs (.inr x) (.str x t) = true:=by simp [keyIs,Value.isStrOf]
theorem ziF (a b:Int):decide ((Sum.inl a:Key) = Sum.inl b) = (a == b):=by
 by_cases e:a = b
 ·subst e; simp
 ·have h:¬ (Sum.inl a:Key) = Sum.inl b:=fun q=>e (Sum.inl.inj q)
  rw [decide_eq_false h]
  exact (beq_eq_false_iff_ne.mpr e).symm
theorem zjn (a b:Str):decide ((Sum.inr a:Key) = Sum.inr b) = decide (a = b):=by
 by_cases e:a = b
 ·subst e; simp
 ·have h:¬ (Sum.inr a:Key) = Sum.inr b:=fun q=>e (Sum.inr.inj q)
  rw [decide_eq_false h,decide_eq_false e]
theorem ziK (a:Int) (b:Str):decide ((Sum.inl a:Key) = Sum.inr b) = false:=decide_eq_false (fun q=>nomatch q)
theorem ziS (a:Str) (b:Int):decide ((Sum.inr a:Key) = Sum.inl b) = false:=decide_eq_false (fun q=>nomatch q)
noncomputable def zae (prog:Program) (w:World):PySem.KeyKind prog w Key where
 is:=keyIs
 hash:=keyH w
 inj:=fun v a b ha hb=>by
  rcases keyIs_shape ha with ⟨i,t,rfl,rfl⟩ | ⟨x,t,rfl,rfl⟩
  ·rcases keyIs_shape hb with ⟨j,u,rfl,e⟩ | ⟨y,u,rfl,e⟩
   ·injection e with e1 _; rw [e1]
   ·exact nomatch e
  ·rcases keyIs_shape hb with ⟨j,u,rfl,e⟩ | ⟨y,u,rfl,e⟩
   ·exact nomatch e
   ·injection e with e1 _; rw [e1]
 byValue:=fun k v h=>by
  rcases keyIs_shape h with ⟨i,t,rfl,rfl⟩ | ⟨x,t,rfl,rfl⟩ <;> rfl
 pyHash:=fun hv h=>by
  rcases keyIs_shape hv with ⟨i,t,rfl,rfl⟩ | ⟨x,t,rfl,rfl⟩
  ·exact wpAny_pyHash_int h
  ·exact wpAny_pyHash_str h
 eqBool:=fun hu hv h=>by
  rcases keyIs_shape hu with ⟨i,t,rfl,rfl⟩ | ⟨x,t,rfl,rfl⟩
  ·rcases keyIs_shape hv with ⟨j,u,rfl,rfl⟩ | ⟨y,u,rfl,rfl⟩
   ·rw [ziF] at h; exact wpAny_eqBool_int h
   ·rw [ziK] at h; exact SeqAt.EqAt.int_str i t y u _ _ _ _ h
  ·rcases keyIs_shape hv with ⟨j,u,rfl,rfl⟩ | ⟨y,u,rfl,rfl⟩
   ·rw [ziS] at h; exact SeqAt.EqAt.str_int x t j u _ _ _ _ h
   ·rw [zjn] at h; exact wpAny_eqBool_str h
 «strs»:=fun k x t v h=>by
  rcases keyIs_shape h with ⟨i,u,rfl,e⟩ | ⟨y,u,rfl,e⟩
  ·exact nomatch e
  ·injection e with e1 _
   subst e1
   cases v <;> rfl
theorem zeC (prog:Program) (w:World) (i:Int) (t:Tok):(zae prog w).is (.inl i) (.int i t) = true:=zgF i t
theorem zep (prog:Program) (w:World) (x:Str) (t:Tok):(zae prog w).is (.inr x) (.str x t) = true:=zf7 x t
end L2
namespace L2
open PySem PySem.Spec PyProof.Rows
inductive V where
 | non | bl (b:Bool) | int (i:Int) | str (x:Str) | byt (b:Array UInt8) | flt (b:UInt64) | ref (a:Addr) | ty (n:String)
 deriving DecidableEq
noncomputable def RelV:V->Value->Prop
 | .non,u=>u = Value.none
 | .bl b,u=>u = Value.bool b
 | .int i,u=>∃ t,u = Value.int i t
 | .str x,u=>∃ t,u = Value.str x t
 | .byt b,u=>∃ t,u = Value.bytes b t
 | .flt b,u=>∃ t,u = Value.float b t
 | .ref a,u=>u = Value.ref a
 | .ty n,u=>u = Value.type n
abbrev Vals:List V->List Value->Prop:=Paired RelV
theorem Vals.length {xs:List V} {us:List Value} (r:Vals xs us):xs.length = us.length:=Paired.length r
theorem Vals.get:∀ {xs:List V} {us:List Value} {i:Nat} {x:V},Vals xs us->xs[i]? = some x->∃ u,us[i]? = some u∧RelV x u
 | _,_,_,_,.nil,e=>by simp at e
 | _,_,0,_,.cons r _,e=>by simp at e; subst e; exact ⟨_,rfl,r⟩
 | _,_,i + 1,x,.cons _ t,e=>by
  obtain ⟨u,h1,h2⟩:=Vals.get (i:=i) (x:=x) t (by simpa using e)
  exact ⟨u,by simpa using h1,h2⟩
theorem Vals.set {x:V} {u:Value} (r:RelV x u):∀ {xs:List V} {us:List Value} (i:Nat),Vals xs us->Vals (xs.set i x) (us.set i u)
 | _,_,_,.nil=>.nil
 | _,_,0,.cons _ t=>.cons r t
 | _,_,i + 1,.cons q t=>.cons q (Vals.set r i t)
theorem Vals.append:∀ {xs ys:List V} {us ws:List Value},Vals xs us->Vals ys ws->Vals (xs ++ ys) (us ++ ws)
 | _,_,_,_,.nil,s=>s
 | _,_,_,_,.cons r t,s=>.cons r (Vals.append t s)
theorem Vals.take:∀ {xs:List V} {us:List Value} (n:Nat),Vals xs us->Vals (xs.take n) (us.take n)
 | _,_,0,_=>.nil
 | _,_,_ + 1,.nil=>.nil
 | _,_,n + 1,.cons r t=>.cons r (Vals.take n t)
theorem Vals.drop:∀ {xs:List V} {us:List Value} (n:Nat),Vals xs us->Vals (xs.drop n) (us.drop n)
 | _,_,0,r=>r
 | _,_,_ + 1,.nil=>.nil
 | _,_,n + 1,.cons _ t=>Vals.drop n t
noncomputable def RelO:Option V->Option Value->Prop
 | some v,some u=>RelV v u
 | none,none=>True
 | _,_=>False
noncomputable def KV {κ:Type}:List (κ × V)->List (κ × Value)->Prop:=Paired fun (p:κ × V) (q:κ × Value)=>p.1 = q.1∧RelV p.2 q.2
noncomputable def kV:Key->V
 | .inl i=>.int i
 | .inr x=>.str x
inductive HO where
  | lst (xs:List V)
  | tup (xs:List V)
  | dK (kvs:List (Key × V)) | dT (kvs:List (List Key × V))
  | set (S:Int->Bool) (n:Nat)
  | ins (C dx:Addr) (fs:List (Str × V))
  | own (x:Addr)
  | xd (fs:List (Str × V))
  | met (f x:Addr)
  | rng (lo hi:Int)
  | frz (o:Obj) (u:HO)
  | tbl (ps:Array Value)
  | ext (φ:Heap->Prop)
abbrev Hp:=Addr->Option HO
noncomputable def upd (H:Hp) (a:Addr) (o:HO):Hp:=fun b=>if b = a then some o else H b
theorem zad {H:Hp} {a:Addr} {o:HO}:upd H a o a = some o:=by unfold upd; rw [if_pos rfl]
theorem zag {H:Hp} {a b:Addr} {o:HO} (h:b ≠ a):upd H a o b = H b:=by unfold upd; rw [if_neg h]
theorem zbb {H:Hp} {a:Addr} {o u:HO}:upd (upd H a o) a u = upd H a u:=by
 funext b; unfold upd; split <;> rfl
theorem zg4 {H:Hp} {a b:Addr} {o u:HO} (h:H a = some o) (h':H b = some u) (d:o ≠ u):a ≠ b:=by
 intro e; subst e; rw [h] at h'; exact d (Option.some.inj h')
theorem zah {H:Hp} {a b:Addr} {o:HO} (h:H a = some o) (h':H b = none):a ≠ b:=by
 intro e; subst e; rw [h] at h'; cases h'
section
variable (P:Program) (w:World)
noncomputable def zaY (H:Hp) (h:Heap) (a:Addr):HO->Prop
 | .lst xs=>xs.length ≤ sizeLine∧∃ (its:List Value) (n:Nat),Vals xs its∧h.get? a = some { cls:=.type "list",data:=.seq its.toArray n }
 | .tup xs=>xs.length ≤ sizeLine∧∃ its:List Value,Vals xs its∧IsTup h a its.toArray
 | .dK kvs=>kvs.length ≤ sizeLine∧(a == sysModules) = false∧∃ vs,KV kvs vs∧h.DictOf (zae P w) a vs
 | .dT kvs=>kvs.length ≤ sizeLine∧(a == sysModules) = false∧∃ xs:List (List Key × Addr × Value),
   Paired (fun (p:List Key × V) (q:List Key × Addr × Value)=>p.1 = q.1∧H q.2.1 = some (.tup (p.1.map kV))∧RelV p.2 q.2.2) kvs xs ∧
   ∃ o es ep,h.get? a = some o∧o.ExactDict∧o.data = .dict es ep∧es.toList = xs.map (entryOfKey (tupleKind (zae P w)))∧(xs.map (·.1)).Nodup
 | .set S n=>h.SetOf (intKind P w) a S n
 | .ins C dx fs=>H dx = some (.own a)∧fs.length ≤ 1000∧dx ≠ a∧h.get? a = some (PySem.W.instObj C dx) ∧
   ∃ mA,h.Ns1 dx mA∧(∀ f,RelO (fs.lookup f) (mA f))∧PySem.Within mA (fs.map (·.1))
 | .own _=>∃ o,h.get? a = some o
 | .xd fs=>∃ mA,h.Ns1 a mA∧∀ f,RelO (fs.lookup f) (mA f)
 | .rng lo hi=>∃ t u v,h.get? a = some { cls:=.type "range",data:=.fields #[.int lo t,.int hi u,.int 1 v] }
 | .frz o u=>h.get? a = some o∧zaY H h a u
 | .tbl ps=>h.get? a = some { cls:=.none,data:=.fields ps }
 | .met f x=>h.get? a = some (PySem.W.methodObj (.ref f) (.ref x))
 | .ext φ=>φ h∧(∃ o,h.get? a = some o)∧∀ h1 h2:Heap,φ h1->(∀ o,h1.get? a = some o->h2.get? a = some o)->φ h2
noncomputable def HOk (H:Hp) (h:Heap):Prop:=∀ a o,H a = some o->zaY P w H h a o
end
section
variable {P:Program} {w:World} {H H':Hp} {h h':Heap} {a:Addr} {o:HO}
theorem zaY.lt (x:zaY P w H h a o):a < h.objs.size:=by
 cases o with
 | lst xs=>obtain ⟨_,_,_,_,e⟩:=x; exact Heap.lt_size e
 | tup xs=>obtain ⟨_,_,_,p⟩:=x; exact p.lt
 | dK kvs=>obtain ⟨_,_,_,_,o,_,_,e,_⟩:=x; exact Heap.lt_size e
 | dT kvs=>obtain ⟨_,_,_,_,o,_,_,e,_⟩:=x; exact Heap.lt_size e
 | set S n=>obtain ⟨o,_,_,_,e,_⟩:=x; exact Heap.lt_size e
 | ins C dx fs=>obtain ⟨_,_,_,e,_⟩:=x; exact Heap.lt_size e
 | own y=>obtain ⟨_,e⟩:=x; exact Heap.lt_size e
 | xd fs=>obtain ⟨_,⟨_,_,_,e,_⟩,_⟩:=x; exact Heap.lt_size e
 | rng lo hi=>obtain ⟨_,_,_,e⟩:=x; exact Heap.lt_size e
 | frz ob u=>obtain ⟨e,_⟩:=x; exact Heap.lt_size e
 | tbl ps=>exact Heap.lt_size (show h.get? a = some _ from x)
 | met f y=>exact Heap.lt_size (show h.get? a = some _ from x)
 | ext φ=>obtain ⟨_,⟨_,e⟩,_⟩:=x; exact Heap.lt_size e
theorem Paired.mapP {α β:Type} {F G:α->β->Prop}:∀ {l₁:List α} {l₂:List β},Paired F l₁ l₂->(∀ a b,F a b->G a b)->Paired G l₁ l₂
 | _,_,.nil,_=>.nil
 | _,_,.cons r t,f=>.cons (f _ _ r) (Paired.mapP t f)
theorem zaY.stay (x:zaY P w H h a o) (k:∀ b u,(b = a ∨ H b = some (.own a))->h.get? b = some u->h'.get? b = some u)
  (ho:∀ b,H b = some (.own a)->H' b = some (.own a)) (ht:∀ b xs,H b = some (.tup xs)->H' b = some (.tup xs)):zaY P w H' h' a o:=by
 induction o with
 | lst xs=>obtain ⟨z,its,n,r,e⟩:=x; exact ⟨z,its,n,r,k _ _ (.inl rfl) e⟩
 | tup xs=>obtain ⟨z,its,r,ob,e,c⟩:=x; exact ⟨z,its,r,ob,k _ _ (.inl rfl) e,c⟩
 | dK kvs=>obtain ⟨z,y,vs,r,ob,es,ep,e,c⟩:=x; exact ⟨z,y,vs,r,ob,es,ep,k _ _ (.inl rfl) e,c⟩
 | dT kvs =>
  obtain ⟨z,y,xs,r,ob,es,ep,e,c⟩:=x
  exact ⟨z,y,xs,Paired.mapP r fun p q z=>⟨z.1,ht _ _ z.2.1,z.2.2⟩,ob,es,ep,k _ _ (.inl rfl) e,c⟩
 | set S n=>obtain ⟨ob,es,ep,t,e,c⟩:=x; exact ⟨ob,es,ep,t,k _ _ (.inl rfl) e,c⟩
 | ins C dx fs =>
  obtain ⟨d,z,ne,e,mA,⟨od,es,ep,e2,c⟩,r⟩:=x
  exact ⟨ho _ d,z,ne,k _ _ (.inl rfl) e,mA,⟨od,es,ep,k _ _ (.inr d) e2,c⟩,r⟩
 | own y=>obtain ⟨ob,e⟩:=x; exact ⟨ob,k _ _ (.inl rfl) e⟩
 | xd fs=>obtain ⟨mA,⟨od,es,ep,e,c⟩,r⟩:=x; exact ⟨mA,⟨od,es,ep,k _ _ (.inl rfl) e,c⟩,r⟩
 | rng lo hi=>obtain ⟨t,u,v,e⟩:=x; exact ⟨t,u,v,k _ _ (.inl rfl) e⟩
 | frz ob u ih=>obtain ⟨e,q⟩:=x; exact ⟨k _ _ (.inl rfl) e,ih q⟩
 | tbl ps =>
  have e:h.get? a = some { cls:=.none,data:=.fields ps }:=x
  show h'.get? a = some { cls:=.none,data:=.fields ps }
  exact k a _ (.inl rfl) e
 | met f y =>
  have e:h.get? a = some (PySem.W.methodObj (.ref f) (.ref y)):=x
  show h'.get? a = some (PySem.W.methodObj (.ref f) (.ref y))
  exact k a _ (.inl rfl) e
 | ext φ=>obtain ⟨p,⟨o,e⟩,st⟩:=x; exact ⟨st _ _ p fun o q=>k _ _ (.inl rfl) q,⟨o,k _ _ (.inl rfl) e⟩,st⟩
theorem HOk.lt (x:HOk P w H h) (e:H a = some o):a < h.objs.size:=(x a o e).lt
theorem HOk.fresh (x:HOk P w H h) (e:h.objs.size ≤ a):H a = none:=by
 cases q:H a with
 | none=>rfl
 | some u=>exact absurd (Nat.lt_of_lt_of_le (x.lt q) e) (Nat.lt_irrefl _)
theorem HOk.kept (x:HOk P w H h) (k:∀ b u,h.get? b = some u->h'.get? b = some u):HOk P w H h':=fun a o e =>
 (x a o e).stay (fun b u _ q=>k b u q) (fun _ q=>q) fun _ _ q=>q
theorem HOk.laid (x:HOk P w H h) (k:∀ b u,h.get? b = some u->h'.get? b = some u) (hp:h.objs.size ≤ a) (new:zaY P w (upd H a o) h' a o):HOk P w (upd H a o) h':=fun b u e=>by
 have hn:=x.fresh hp
 by_cases hb:b = a
 ·subst hb; rw [zad] at e; cases e; exact new
 ·rw [zag hb] at e
  exact (x b u e).stay (fun c v _ q=>k c v q) (fun c q=>by rw [zag (zah q hn)]; exact q) fun c xs q=>by rw [zag (zah q hn)]; exact q
end
noncomputable def Rd (H:Hp) (a:Addr) (u:HO):Prop:=H a = some u ∨ ∃ o,H a = some (.frz o u)
theorem Rd.ok {P:Program} {w:World} {H:Hp} {h:Heap} {a:Addr} {u:HO} (r:Rd H a u) (x:HOk P w H h):zaY P w H h a u:=by
 rcases r with r | ⟨o,r⟩
 ·exact x a u r
 ·obtain ⟨_,q⟩:=x a _ r
  exact q
noncomputable def Mut:Option HO->Prop
 | some (.lst _)=>True
 | some (.dK _)=>True
 | some (.dT _)=>True
 | some (.set _ _)=>True
 | some (.ins _ _ _)=>True
 | some (.ext _)=>True
 | _=>False
section
variable {P:Program} {w:World} {H:Hp} {h h':Heap} {x e:Addr} {o':HO}
theorem HOk.write (ok:HOk P w H h) (mu:Mut (H x)) (he:e = x ∨ H e = some (.own x)) (k:∀ b u,b ≠ e->h.get? b = some u->h'.get? b = some u) (heo:∃ u,h'.get? e = some u)
  (new:zaY P w (upd H x o') h' x o'):HOk P w (upd H x o') h':=fun b u q=>by
 have nown:∀ c y,H c = some (.own y)->c ≠ x:=fun c y r z=>by subst z; rw [r] at mu; exact mu
 have ntup:∀ c xs,H c = some (.tup xs)->c ≠ x:=fun c xs r z=>by subst z; rw [r] at mu; exact mu
 by_cases hb:b = x
 ·subst hb; rw [zad] at q; cases q; exact new
 ·rw [zag hb] at q
  by_cases hbe:b = e
  ·have q':H b = some (.own x):=by
    rcases he with z | z
    ·exact absurd (hbe.trans z) hb
    ·rw [hbe]; exact z
   rw [q] at q'; cases q'
   obtain ⟨v,hv⟩:=heo
   exact ⟨v,by rw [hbe]; exact hv⟩
  ·refine (ok b u q).stay (fun c v hc r=>k c v ?_ r) (fun c r=>by rw [zag (nown c b r)]; exact r) fun c xs r=>by rw [zag (ntup c xs r)]; exact r
   rcases hc with rfl | hc
   ·exact hbe
   ·rintro rfl
    rcases he with z | z
    ·exact nown c b hc z
    ·rw [hc] at z; cases z; exact hb rfl
end
structure Un (fs ex:List Addr) (H H':Hp) (h h':Heap):Prop where
 keep:∀ b o,h.get? b = some o->H b = none->b ∉ fs->b ∉ ex->h'.get? b = some o
 slot:∀ b o,h.get? b = some o->H b = none->b ∈ fs->b ∉ ex->∃ sl,h'.get? b = some { o with slots:=sl }
 free:∀ b o,h.get? b = some o->H b = none->b ∉ ex->H' b = none
 there:∀ b o,h.get? b = some o->b ∉ ex->∃ o',h'.get? b = some o'
 tups:∀ b xs,H b = some (.tup xs)->H' b = some (.tup xs)
 frzs:∀ b o u,H b = some (.frz o u)->H' b = some (.frz o u)
 tbls:∀ b ps,H b = some (.tbl ps)->∃ more,H' b = some (.tbl (ps ++ more))
section
variable {fs fs' ex ex':List Addr} {H H1 H2:Hp} {h h1 h2 h':Heap} {a x e:Addr} {o:HO}
theorem Un.any (u:Un fs ex H H1 h h1) {b:Addr} {ob:Obj} (q:h.get? b = some ob) (n:H b = none) (hx:b ∉ ex):∃ sl,h1.get? b = some { ob with slots:=sl }:=by
 by_cases hb:b ∈ fs
 ·exact u.slot b ob q n hb hx
 ·exact ⟨ob.slots,u.keep b ob q n hb hx⟩
theorem Un.kept (k:∀ b u,h.get? b = some u->h'.get? b = some u):Un fs ex H H h h' :=
 ⟨fun b ob q _ _ _=>k b ob q,fun b ob q _ _ _=>⟨ob.slots,k b ob q⟩,fun _ _ _ n _=>n,fun b ob q _=>⟨ob,k b ob q⟩,fun _ _ q=>q,fun _ _ _ q=>q,fun _ ps q=>⟨#[],by rw [q]; simp⟩⟩
theorem Un.refl:Un fs ex H H h h:=Un.kept fun _ _ q=>q
theorem Un.laid (k:∀ b u,h.get? b = some u->h'.get? b = some u) (hp:h.objs.size ≤ a) (hn:H a = none):Un fs ex H (upd H a o) h h' where
 keep:=fun b u q _ _ _=>k b u q
 slot:=fun b u q _ _ _=>⟨u.slots,k b u q⟩
 free:=fun b u q n _=>by rw [zag (Nat.ne_of_lt (Nat.lt_of_lt_of_le (Heap.lt_size q) hp))]; exact n
 there:=fun b u q _=>⟨u,k b u q⟩
 tups:=fun b xs q=>by rw [zag (zah q hn)]; exact q
 frzs:=fun b u xs q=>by rw [zag (zah q hn)]; exact q
 tbls:=fun b ps q=>⟨#[],by rw [zag (zah q hn),q]; simp⟩
theorem Un.write (mu:Mut (H x)) (he:e = x ∨ H e = some (.own x)) (k:∀ b u,b ≠ e->h.get? b = some u->h'.get? b = some u) (heo:∃ u,h'.get? e = some u):Un fs ex H (upd H x o) h h':=by
 have hx:∀ b,H b = none->b ≠ x:=fun b n z=>by subst z; rw [n] at mu; exact mu
 have hb:∀ b,H b = none->b ≠ e:=fun b n z=>by
  subst z
  rcases he with r | r
  ·exact hx b n r
  ·rw [n] at r; cases r
 have hm:∀ b u,H b = some u->¬ Mut (some u)->b ≠ x:=fun b u q nm z=>by subst z; rw [q] at mu; exact nm mu
 refine ⟨fun b u q n _ _=>k b u (hb b n) q,fun b u q n _ _=>⟨u.slots,k b u (hb b n) q⟩,fun b u q n _=>by rw [zag (hx b n)]; exact n,fun b u q _=>?_,
  fun b xs q=>by rw [zag (hm b _ q fun z=>z)]; exact q,fun b u xs q=>by rw [zag (hm b _ q fun z=>z)]; exact q,fun b ps q=>⟨#[],by rw [zag (hm b _ q fun z=>z),q]; simp⟩⟩
 by_cases hbe:b = e
 ·subst hbe; exact heo
 ·exact ⟨u,k b u hbe q⟩
end
noncomputable def trk (h:Heap) (H:Hp):List Addr:=(List.range h.objs.size).filter fun a=>(H a).isSome
noncomputable def hidT (h:Heap) (H:Hp):Heap:=PySem.W.hideAll h (trk h H)
theorem zgl (h:Heap) (H:Hp):(hidT h H).objs.size = h.objs.size:=PySem.W.hideAll_size _ _
theorem zg2 {h:Heap} {H:Hp} {b:Addr} {o:Obj} (e:h.get? b = some o) (n:H b = none):(hidT h H).get? b = some o :=
 PySem.W.hideAll_get _ e fun hm=>by
  have q:(H b).isSome = true:=(List.mem_filter.mp hm).2
  rw [n] at q; simp at q
theorem zh7 {h:Heap} {H:Hp} {b:Addr} {o:Obj} (e:(hidT h H).get? b = some o):h.get? b = some o∧H b = none:=by
 have e':h.get? b = some o:=PySem.W.of_hideAll (trk h H) e
 refine ⟨e',?_⟩
 cases q:H b with
 | none=>rfl
 | some x =>
  have hm:b ∈ trk h H:=List.mem_filter.mpr ⟨List.mem_range.mpr (Heap.lt_size e'),by simp [q]⟩
  have z:(hidT h H).get? b = none:=PySem.W.hideAll_none (trk h H) hm
  rw [z] at e; cases e
noncomputable def ziz (g h:Heap) (L:Addr):List (Addr × Obj):=(List.range h.objs.size).filterMap fun a=>if a = L ∨ (g.get? a).isSome = true then none else (h.get? a).map fun o=>(a,o)
noncomputable def rest (g h:Heap) (L d:Addr):List (Addr × Obj):=(ziz g h L).filter fun p=>decide (p.1 ≠ d)
end L2
namespace L2
open PySem PySem.Spec PyProof.Rows
structure Mod (K:PySem.W.Frag) (mg:Str->Option Value) (base:Heap):Prop where
 kin:K.In base
 glob:base.Ns mainGlobals mg
 blt:∃ mb,base.Ns builtinsNs mb∧∀ x:Str,x ≠ "__name__"->mb x = bootBuiltins x
 nolimit:base.NoLimit
set_option genInjectivity false in
set_option genSizeOf false in
structure Cx where
 prog:Program
 w:World
 K:PySem.W.Frag
 mg:Str->Option Value
 base:Heap
 A:Around
 N:List Str
 s₀:Shared
 H₀:Hp
 env:Env
 outer:List Env
 stack:List Env
 ex:List Addr
 fn:Str->Bool
 calm:Bool
 pn:List (Addr × Obj)
 xe:Value->Shared->Prop
noncomputable def frs (l:List Env):List Addr:=l.filterMap (·.frame)
noncomputable abbrev Cx.fs (X:Cx):List Addr:=frs X.outer
noncomputable def Vis (sc:Scope) (x:Str):Prop:=sc.names.lookup x = some .local ∨ sc.names.lookup x = some .cell ∨ sc.names.lookup x = some .free
noncomputable def Loc (sc:Scope) (x:Str):Prop:=sc.names.lookup x = some .local ∨ sc.names.lookup x = some .cell
noncomputable def Look (env:Env) (h:Heap) (m:Str->Option Value) (x:Str) (u:Value):Prop :=
 (env.kindOf x = some .local∧m x = some u) ∨ ((env.kindOf x = some .cell ∨ env.kindOf x = some .free)∧∃ c,env.cells.lookup x = some c∧h.IsCell c (some u))
structure Cx.Ok (X:Cx):Prop where
 mod:Mod X.K X.mg X.base
 kind:X.env.scope.kind = .function
 glob:X.env.globals = mainGlobals
 blt:X.env.builtins = builtinsNs
 above:X.s₀.heap.objs.size ≤ X.env.locals
 inj:∀ x y c,X.env.cells.lookup x = some c->X.env.cells.lookup y = some c->x = y
 has:∀ x,(X.env.kindOf x = some .cell ∨ X.env.kindOf x = some .free)->∃ c,X.env.cells.lookup x = some c
 cab:∀ x c,X.fn x = true->X.env.cells.lookup x = some c->X.s₀.heap.objs.size ≤ c
 hd:X.calm = true->X.A.handled = none
 frames:X.A.frames = some X.stack
 stk:X.stack = X.outer ∨ (X.stack = X.env :: X.outer∧X.env.frame = some X.env.locals)
 exf:∀ b ∈ X.ex,b ≠ X.env.locals∧∀ x c,X.env.cells.lookup x = some c->c ≠ b
 bs:∀ b o,X.base.get? b = some o->X.s₀.heap.get? b = some o∧X.H₀ b = none
 bsz:X.base.objs.size ≤ X.s₀.heap.objs.size
 noex:∀ b o,X.base.get? b = some o->b ∉ X.ex
 exfs:∀ b ∈ X.ex,b ∉ X.fs
 funs:X.s₀.heap.FunFrames X.base X.outer
 frf:∀ b ∈ X.fs,X.H₀ b = none
structure Inv (X:Cx) (pins:List (Addr × Obj)) (σ:List (Option V)) (H:Hp) (s:Shared):Prop where
 ok:X.Ok
 os:s.os = X.s₀.os
 bare:AllBare s.gens
 base:Un X.fs X.ex X.H₀ H X.s₀.heap s.heap
 loc:∃ m,s.heap.Ns X.env.locals m∧∀ (i:Nat) (x:Str) (v:V),X.N[i]? = some x->σ[i]? = some (some v)->Vis X.env.scope x->∃ u,RelV v u∧Look X.env s.heap m x u
 cell:∀ x c,X.env.cells.lookup x = some c->∃ v,s.heap.IsCell c v
 free:H X.env.locals = none
 freeC:∀ x c,X.env.cells.lookup x = some c->H c = none
 pin:∀ p ∈ X.pn ++ pins,s.heap.get? p.1 = some p.2∧H p.1 = none∧p.1 ≠ X.env.locals∧p.1 ∉ X.fs∧∀ v,p.2.data ≠ .cell v
 hok:HOk X.prog X.w H s.heap
 len:σ.length = X.N.length
section
variable {X:Cx} {pins:List (Addr × Obj)} {σ:List (Option V)} {H H':Hp} {s:Shared} {h':Heap}
theorem Cx.Ok.nofr (ok:X.Ok) {b:Addr} {o:Obj} (e:X.base.get? b = some o):b ∉ X.fs:=fun hb=>by
 have:=(ok.funs.mem hb).1
 rw [e] at this; cases this
theorem Inv.bs (I:Inv X pins σ H s):∀ b o,X.base.get? b = some o->s.heap.get? b = some o∧H b = none:=fun b o e =>
 ⟨I.base.keep b o (I.ok.bs b o e).1 (I.ok.bs b o e).2 (I.ok.nofr e) (I.ok.noex b o e),I.base.free b o (I.ok.bs b o e).1 (I.ok.bs b o e).2 (I.ok.noex b o e)⟩
theorem Inv.bk (I:Inv X pins σ H s):∀ b o,X.base.get? b = some o->s.heap.get? b = some o:=fun b o e=>(I.bs b o e).1
theorem Inv.mod (I:Inv X pins σ H s):Mod X.K X.mg X.base:=I.ok.mod
theorem Inv.kIn (I:Inv X pins σ H s):X.K.In s.heap:=I.ok.mod.kin.keeps I.bk
theorem Inv.lt (I:Inv X pins σ H s):X.env.locals < s.heap.objs.size:=let ⟨_,hn,_⟩:=I.loc; hn.lt
theorem Inv.sz (I:Inv X pins σ H s):X.s₀.heap.objs.size ≤ s.heap.objs.size:=Nat.le_trans I.ok.above (Nat.le_of_lt I.lt)
theorem Inv.nofs (I:Inv X pins σ H s) {a:Addr} (h:s.heap.objs.size ≤ a):a ∉ X.fs:=fun hb=>by
 obtain ⟨_,o,ho,_⟩:=I.ok.funs.mem hb
 exact absurd (Nat.lt_of_lt_of_le (Heap.lt_size ho) (Nat.le_trans I.sz h)) (Nat.lt_irrefl _)
theorem Inv.cne (I:Inv X pins σ H s):∀ x c,X.env.cells.lookup x = some c->c ≠ X.env.locals:=fun x c e z=>by
 obtain ⟨v,o,ho,hd⟩:=I.cell x c e
 obtain ⟨m,⟨o',es,ep,ho',hd',_⟩,_⟩:=I.loc
 rw [z,ho'] at ho; cases ho; rw [hd'] at hd; cases hd
theorem Inv.funs (I:Inv X pins σ H s):s.heap.FunFrames X.base X.outer:=by
 have all:∀ (l:List Env),(∀ b ∈ frs l,b ∈ X.fs)->X.s₀.heap.FunFrames X.base l->s.heap.FunFrames X.base l:=by
  intro l
  induction l with
  | nil=>intro _ _; trivial
  | cons env r ih =>
   intro hs hl
   obtain ⟨hk,⟨L,o,hf,hn,ho,hd⟩,hr⟩:=hl
   have hL:L ∈ X.fs:=hs L (by unfold frs; rw [List.filterMap_cons,hf]; exact List.mem_cons_self)
   obtain ⟨sl,e⟩:=I.base.slot L o ho (I.ok.frf L hL) hL fun z=>I.ok.exfs L z hL
   exact ⟨hk,⟨L,_,hf,hn,e,hd⟩,ih (fun b hb=>hs b (by unfold frs; rw [List.filterMap_cons,hf]; exact List.mem_cons_of_mem _ hb)) hr⟩
 exact all X.outer (fun _ hb=>hb) I.ok.funs
theorem Inv.stack (I:Inv X pins σ H s):s.heap.FunFrames X.base X.stack:=by
 rcases I.ok.stk with e | ⟨e,hf⟩
 ·rw [e]; exact I.funs
 ·rw [e]
  obtain ⟨m,hn,_⟩:=I.loc
  refine .cons (by rw [I.ok.kind]; decide) hf hn ?_ I.funs
  exact Heap.get?_none_of_le (Nat.le_trans I.ok.bsz I.ok.above)
theorem Inv.stkSub (I:Inv X pins σ H s):∀ b ∈ frs X.stack,b ∈ X.env.locals :: X.fs:=fun b hb=>by
 rcases I.ok.stk with e | ⟨e,hf⟩
 ·rw [e] at hb; exact List.mem_cons_of_mem _ hb
 ·rw [e] at hb
  unfold frs at hb
  rw [List.filterMap_cons,hf] at hb
  exact hb
theorem Inv.stkFree (I:Inv X pins σ H s):∀ b ∈ frs X.stack,H b = none:=fun b hb=>by
 rcases List.mem_cons.mp (I.stkSub b hb) with e | hb
 ·rw [e]; exact I.free
 ·obtain ⟨_,o,ho,_⟩:=I.ok.funs.mem hb
  exact I.base.free b o ho (I.ok.frf b hb) fun z=>I.ok.exfs b z hb
theorem Inv.step {g':Array GenState} {t':Nat} {d':Drawn} {ch:List Addr} (I:Inv X pins σ H s)
  (hch:∀ b ∈ ch,(b ∈ X.ex ∨ X.s₀.heap.objs.size ≤ b)∧b ≠ X.env.locals∧(∀ x c,X.env.cells.lookup x = some c->c ≠ b)∧∀ p ∈ X.pn ++ pins,p.1 ≠ b)
  (keep:∀ b o,b ≠ X.env.locals->b ∉ X.fs->b ∉ ch->s.heap.get? b = some o->H b = none->h'.get? b = some o)
  (slot:∀ b o,b ≠ X.env.locals->b ∈ X.fs->b ∉ ch->s.heap.get? b = some o->H b = none->∃ sl,h'.get? b = some { o with slots:=sl }) (free:∀ b o,b ∉ ch->s.heap.get? b = some o->H b = none->H' b = none)
  (there:∀ b o,b ∉ ch->s.heap.get? b = some o->∃ o',h'.get? b = some o')
  (tups:∀ b xs,H b = some (.tup xs)->H' b = some (.tup xs)) (frzs:∀ b o u,H b = some (.frz o u)->H' b = some (.frz o u)) (tbls:∀ b ps,H b = some (.tbl ps)->∃ more,H' b = some (.tbl (ps ++ more)))
  (ns:∀ m,s.heap.Ns X.env.locals m->h'.Ns X.env.locals m) (hok:HOk X.prog X.w H' h') (hg:AllBare g') :
  Inv X pins σ H' { s with heap:=h',gens:=g',drawn:=d',toks:=t' }:=by
 have neL:∀ b o,X.s₀.heap.get? b = some o->b ≠ X.env.locals:=fun b o e=>Nat.ne_of_lt (Nat.lt_of_lt_of_le (Heap.lt_size e) I.ok.above)
 have neC:∀ b o,X.s₀.heap.get? b = some o->b ∉ X.ex->b ∉ ch:=fun b o e hx hb=>by
  rcases (hch b hb).1 with z | z
  ·exact hx z
  ·exact absurd (Nat.lt_of_lt_of_le (Heap.lt_size e) z) (Nat.lt_irrefl _)
 have cellK:∀ x c,X.env.cells.lookup x = some c->∀ v,s.heap.IsCell c v->h'.IsCell c v:=fun x c e v ⟨o,ho,hd⟩=>by
  have nch:c ∉ ch:=fun z=>(hch c z).2.2.1 x c e rfl
  by_cases hc:c ∈ X.fs
  ·obtain ⟨sl,q⟩:=slot c o (I.cne x c e) hc nch ho (I.freeC x c e)
   exact ⟨_,q,hd⟩
  ·exact ⟨o,keep c o (I.cne x c e) hc nch ho (I.freeC x c e),hd⟩
 refine ⟨I.ok,I.os,hg,⟨fun b o e n hb hx=>?_,fun b o e n hb hx=>?_,fun b o e n hx=>?_,fun b o e hx=>?_,fun b xs e=>tups b xs (I.base.tups b xs e),fun b o xs e=>frzs b o xs (I.base.frzs b o xs e),fun b ps e=>?_⟩,?_,fun x c e=>?_,?_,fun x c e=>?_,fun p hp=>?_,hok,I.len⟩
 ·exact keep b o (neL b o e) hb (neC b o e hx) (I.base.keep b o e n hb hx) (I.base.free b o e n hx)
 ·obtain ⟨sl,e1⟩:=I.base.slot b o e n hb hx
  obtain ⟨sl',e2⟩:=slot b _ (neL b o e) hb (neC b o e hx) e1 (I.base.free b o e n hx)
  exact ⟨sl',e2⟩
 ·obtain ⟨o',e1⟩:=I.base.there b o e hx
  exact free b o' (neC b o e hx) e1 (I.base.free b o e n hx)
 ·obtain ⟨o',e1⟩:=I.base.there b o e hx
  exact there b o' (neC b o e hx) e1
 ·obtain ⟨m1,e1⟩:=I.base.tbls b ps e
  obtain ⟨m2,e2⟩:=tbls b _ e1
  exact ⟨m1 ++ m2,by rw [e2,Array.append_assoc]⟩
 ·obtain ⟨m,hn,hl⟩:=I.loc
  refine ⟨m,ns m hn,fun i x v e1 e2 e3=>?_⟩
  obtain ⟨u,r,l⟩:=hl i x v e1 e2 e3
  refine ⟨u,r,?_⟩
  rcases l with l | ⟨k,c,e,z⟩
  ·exact .inl l
  ·exact .inr ⟨k,c,e,cellK x c e _ z⟩
 ·obtain ⟨v,z⟩:=I.cell x c e
  exact ⟨v,cellK x c e v z⟩
 ·obtain ⟨m,⟨o,_,_,ho,_⟩,_⟩:=I.loc
  exact free _ o (fun z=>(hch _ z).2.1 rfl) ho I.free
 ·obtain ⟨v,o,ho,hd⟩:=I.cell x c e
  exact free c o (fun z=>(hch c z).2.2.1 x c e rfl) ho (I.freeC x c e)
 ·obtain ⟨e,n,ne,nf,d⟩:=I.pin p hp
  have nch:p.1 ∉ ch:=fun z=>(hch p.1 z).2.2.2 p hp rfl
  exact ⟨keep p.1 p.2 ne nf nch e n,free p.1 p.2 nch e n,ne,nf,d⟩
theorem Inv.un {t':Nat} (I:Inv X pins σ H s) (u:Un X.fs [] H H' s.heap h') (hok:HOk X.prog X.w H' h'):Inv X pins σ H' { s with heap:=h',toks:=t' }:=by
 obtain ⟨m,⟨o,es,ep,ho,r⟩,_⟩:=id I.loc
 obtain ⟨sl,hL⟩:=u.any ho I.free (by simp)
 exact I.step (g':=s.gens) (d':=s.drawn) (ch:=[]) (fun _ z=>nomatch z) (fun b o _ hb _ e n=>u.keep b o e n hb (by simp)) (fun b o _ hb _ e n=>u.slot b o e n hb (by simp)) (fun b o _ e n=>u.free b o e n (by simp)) (fun b o _ e=>u.there b o e (by simp)) u.tups u.frzs u.tbls (fun m' hm=>by
  obtain ⟨o',es',ep',ho',r'⟩:=hm
  rw [ho] at ho'; cases ho'
  exact ⟨_,es',ep',hL,r'⟩) hok I.bare
theorem Inv.call {g':Array GenState} {t':Nat} {d':Drawn} {ch:List Addr} (I:Inv X pins σ H s) (u:Un (frs X.stack) ch H H' s.heap h') (hok:HOk X.prog X.w H' h') (hg:AllBare g')
  (hch:∀ b ∈ ch,(b ∈ X.ex ∨ X.s₀.heap.objs.size ≤ b)∧b ≠ X.env.locals∧(∀ x c,X.env.cells.lookup x = some c->c ≠ b)∧∀ p ∈ X.pn ++ pins,p.1 ≠ b) :
  Inv X pins σ H' { s with heap:=h',gens:=g',drawn:=d',toks:=t' }:=by
 obtain ⟨m,⟨o,es,ep,ho,r⟩,_⟩:=id I.loc
 obtain ⟨sl,hL⟩:=u.any ho I.free fun z=>(hch _ z).2.1 rfl
 exact I.step (ch:=ch) hch (fun b o hL hb hc e n=>u.keep b o e n (fun z=>(List.mem_cons.mp (I.stkSub b z)).elim hL hb) hc) (fun b o _ _ hc e n=>u.any e n hc) (fun b o hc e n=>u.free b o e n hc) (fun b o hc e=>u.there b o e hc) u.tups u.frzs u.tbls (fun m' hm=>by
  obtain ⟨o',es',ep',ho',r'⟩:=hm
  rw [ho] at ho'; cases ho'
  exact ⟨_,es',ep',hL,r'⟩) hok hg
theorem Inv.turned {t':Nat} {it:Addr} (I:Inv X pins σ H s) (k:∀ b o,b ≠ it->s.heap.get? b = some o->h'.get? b = some o) (hn:H it = none) (hL:it ≠ X.env.locals)
  (h1:it ∈ X.ex ∨ X.s₀.heap.objs.size ≤ it) (h2:∀ x c,X.env.cells.lookup x = some c->c ≠ it) (h3:∀ p ∈ X.pn ++ pins,p.1 ≠ it):Inv X pins σ H { s with heap:=h',toks:=t' }:=by
 have nit:∀ b u,H b = some u->b ≠ it:=fun b u e z=>by rw [z,hn] at e; cases e
 refine I.step (g':=s.gens) (d':=s.drawn) (ch:=[it]) (fun b hb=>?_) (fun b o _ _ hc e _=>k b o (fun z=>hc (by simp [z])) e) (fun b o _ _ hc e _=>⟨o.slots,k b o (fun z=>hc (by simp [z])) e⟩) (fun _ _ _ _ n=>n)
  (fun b o hc e=>⟨o,k b o (fun z=>hc (by simp [z])) e⟩) (fun _ _ e=>e) (fun _ _ _ e=>e) (fun b ps e=>⟨#[],by rw [e]; simp⟩) (fun m hm=>?_) (fun b u e=>?_) I.bare
 ·have e:b = it:=by simpa using hb
  subst e
  exact ⟨h1,hL,h2,h3⟩
 ·obtain ⟨o,es,ep,ho,r⟩:=hm
  exact ⟨o,es,ep,k _ o (Ne.symm hL) ho,r⟩
 ·refine (I.hok b u e).stay (fun c v hc q=>k c v ?_ q) (fun _ q=>q) fun _ _ q=>q
  rcases hc with z | z
  ·rw [z]; exact nit b u e
  ·exact nit c _ z
theorem Inv.tok (I:Inv X pins σ H s) (t:Nat):Inv X pins σ H { s with toks:=t }:=I.un (h':=s.heap) (t':=t) Un.refl I.hok
theorem Inv.kept {t':Nat} (I:Inv X pins σ H s) (k:∀ b u,s.heap.get? b = some u->h'.get? b = some u):Inv X pins σ H { s with heap:=h',toks:=t' }:=I.un (Un.kept k) (I.hok.kept k)
theorem Inv.laid {a:Addr} {o:HO} {t':Nat} (I:Inv X pins σ H s) (k:∀ b u,s.heap.get? b = some u->h'.get? b = some u) (hp:s.heap.objs.size ≤ a) (new:zaY X.prog X.w (upd H a o) h' a o) :
  Inv X pins σ (upd H a o) { s with heap:=h',toks:=t' }:=I.un (Un.laid k hp (I.hok.fresh hp)) (I.hok.laid k hp new)
theorem Inv.write {x e:Addr} {o:HO} {t':Nat} (I:Inv X pins σ H s) (mu:Mut (H x)) (he:e = x ∨ H e = some (.own x)) (k:∀ b u,b ≠ e->s.heap.get? b = some u->h'.get? b = some u) (heo:∃ u,h'.get? e = some u)
  (new:zaY X.prog X.w (upd H x o) h' x o):Inv X pins σ (upd H x o) { s with heap:=h',toks:=t' }:=I.un (Un.write mu he k heo) (I.hok.write mu he k heo new)
theorem Inv.weak {σ':List (Option V)} (I:Inv X pins σ H s) (hl:σ'.length = σ.length) (w:∀ (i:Nat) v,σ'[i]? = some (some v)->σ[i]? = some (some v)):Inv X pins σ' H s :=
 ⟨I.ok,I.os,I.bare,I.base,let ⟨m,hn,hl'⟩:=I.loc; ⟨m,hn,fun i x v e1 e2 e3=>hl' i x v e1 (w i v e2) e3⟩,I.cell,I.free,I.freeC,I.pin,I.hok,hl.trans I.len⟩
theorem Inv.pins_of {pins':List (Addr × Obj)} (I:Inv X pins σ H s) (h:∀ p ∈ pins',s.heap.get? p.1 = some p.2∧H p.1 = none∧p.1 ≠ X.env.locals∧p.1 ∉ X.fs∧∀ v,p.2.data ≠ .cell v):Inv X pins' σ H s :=
 ⟨I.ok,I.os,I.bare,I.base,I.loc,I.cell,I.free,I.freeC,fun p hp=>(List.mem_append.mp hp).elim (fun z=>I.pin p (List.mem_append_left _ z)) (h p),I.hok,I.len⟩
theorem ze8 {N:List Str} (hN:N.Nodup) {i j:Nat} {x:Str} (a:N[i]? = some x) (b:N[j]? = some x):i = j:=by
 obtain ⟨h1,e1⟩:=List.getElem?_eq_some_iff.mp a
 obtain ⟨h2,e2⟩:=List.getElem?_eq_some_iff.mp b
 exact (List.getElem_inj hN).mp (e1.trans e2.symm)
theorem zdP {M:Model} {A:Around} {E:Value->Shared->Prop} {i:Nat} {x:Str} {v:V} {u:Value} {Q:Unit->Shared->Prop} (I:Inv X pins σ H s) (hN:X.N.Nodup) (hi:X.N[i]? = some x) (hx:Loc X.env.scope x) (r:RelV v u)
  (h:∀ s',Inv X pins (σ.set i (some v)) H s'->(∃ a,Heap.SameBut a s.heap s'.heap∧(a = X.env.locals ∨ X.env.cells.lookup x = some a))->Q () s') (hf:X.fn x = true ∨ X.env.scope.names.lookup x = some .local:=by first | exact .inl rfl | exact .inr rfl | assumption):wpAny M A (storeName X.env x u) Q E s:=by
 obtain ⟨m,hn,hl⟩:=id I.loc
 have hcls:(X.env.scope.kind == .class || (X.env.scope.kind == .module && X.env.locals != X.env.globals)) = false:=by rw [I.ok.kind]; rfl
 have hiσ:i < σ.length:=by rw [I.len]; exact (List.getElem?_eq_some_iff.mp hi).1
 have cne:=I.cne
 have tracked:∀ {a:Addr} {h':Heap},(∃ o,s.heap.get? a = some o∧H a = none)->Heap.SameBut a s.heap h'->HOk X.prog X.w H h':=fun {a h'} ha hs b ob e=>by
  obtain ⟨_,_,hfree⟩:=ha
  refine (I.hok b ob e).stay (fun c w' hc q=>(hs.2 c ?_).trans q) (fun _ q=>q) fun _ _ q=>q
  rintro rfl
  rcases hc with rfl | hc
  ·rw [hfree] at e; cases e
  ·rw [hfree] at hc; cases hc
 rcases hx with hk | hk
 ·refine wpAny_storeName_local hk hn (fun h' hn' hs=>?_) hcls
  obtain ⟨oL,_,_,hoL,_⟩:=id hn
  refine h _ ⟨I.ok,I.os,I.bare,⟨fun b o e n hb hx=>?_,fun b o e n hb hx=>?_,I.base.free,fun b o e hx=>?_,I.base.tups,I.base.frzs,I.base.tbls⟩,⟨_,hn',fun j y v' e1 e2 e3=>?_⟩,fun y c e=>?_,I.free,I.freeC,fun p hp=>?_,tracked ⟨oL,hoL,I.free⟩ hs,by simpa using I.len⟩ ⟨_,hs,.inl rfl⟩
  ·exact (hs.2 b (Nat.ne_of_lt (Nat.lt_of_lt_of_le (Heap.lt_size e) I.ok.above))).trans (I.base.keep b o e n hb hx)
  ·obtain ⟨sl,e1⟩:=I.base.slot b o e n hb hx
   exact ⟨sl,(hs.2 b (Nat.ne_of_lt (Nat.lt_of_lt_of_le (Heap.lt_size e) I.ok.above))).trans e1⟩
  ·obtain ⟨o',e1⟩:=I.base.there b o e hx
   exact ⟨o',(hs.2 b (Nat.ne_of_lt (Nat.lt_of_lt_of_le (Heap.lt_size e) I.ok.above))).trans e1⟩
  ·by_cases hj:j = i
   ·subst hj
    rw [hi] at e1; cases e1
    rw [List.getElem?_set_self hiσ] at e2
    cases e2
    exact ⟨u,r,.inl ⟨hk,by simp⟩⟩
   ·rw [List.getElem?_set_ne (Ne.symm hj)] at e2
    obtain ⟨u',r',q⟩:=hl j y v' e1 e2 e3
    refine ⟨u',r',?_⟩
    rcases q with ⟨k,e⟩ | ⟨k,c,e,z⟩
    ·refine .inl ⟨k,?_⟩
     have:y ≠ x:=fun e=>hj (ze8 hN e1 (e ▸ hi))
     simp [this,e]
    ·exact .inr ⟨k,c,e,z.sameBut hs (cne y c e)⟩
  ·obtain ⟨w',z⟩:=I.cell y c e
   exact ⟨w',z.sameBut hs (cne y c e)⟩
  ·obtain ⟨e,n,ne,nf,d⟩:=I.pin p hp
   exact ⟨(hs.2 p.1 ne).trans e,n,ne,nf,d⟩
 ·have hfn:X.fn x = true:=by
   rcases hf with z | z
   ·exact z
   ·rw [z] at hk; cases hk
  obtain ⟨c,hc⟩:=I.ok.has x (.inl hk)
  obtain ⟨w',z⟩:=I.cell x c hc
  refine wpAny_storeName_cell I.ok.kind hk hc z (fun h' hc' hs=>?_)
  obtain ⟨oc,hoc,hocd⟩:=id z
  refine h { s with heap:=h' } ⟨I.ok,I.os,I.bare,⟨fun b o e n hb hx=>?_,fun b o e n hb hx=>?_,I.base.free,fun b o e hx=>?_,I.base.tups,I.base.frzs,I.base.tbls⟩,⟨m,hn.sameBut hs (Ne.symm (cne x c hc)),fun j y v' e1 e2 e3=>?_⟩,fun y c' e=>?_,I.free,I.freeC,fun p hp=>?_,tracked ⟨oc,hoc,I.freeC x c hc⟩ hs,by simpa using I.len⟩ ⟨c,hs,.inr hc⟩
  ·exact (hs.2 b (Nat.ne_of_lt (Nat.lt_of_lt_of_le (Heap.lt_size e) (I.ok.cab x c hfn hc)))).trans (I.base.keep b o e n hb hx)
  ·obtain ⟨sl,e1⟩:=I.base.slot b o e n hb hx
   exact ⟨sl,(hs.2 b (Nat.ne_of_lt (Nat.lt_of_lt_of_le (Heap.lt_size e) (I.ok.cab x c hfn hc)))).trans e1⟩
  ·obtain ⟨o',e1⟩:=I.base.there b o e hx
   exact ⟨o',(hs.2 b (Nat.ne_of_lt (Nat.lt_of_lt_of_le (Heap.lt_size e) (I.ok.cab x c hfn hc)))).trans e1⟩
  ·by_cases hj:j = i
   ·subst hj
    rw [hi] at e1; cases e1
    rw [List.getElem?_set_self hiσ] at e2
    cases e2
    exact ⟨u,r,.inr ⟨.inl hk,c,hc,hc'⟩⟩
   ·rw [List.getElem?_set_ne (Ne.symm hj)] at e2
    obtain ⟨u',r',q⟩:=hl j y v' e1 e2 e3
    refine ⟨u',r',?_⟩
    rcases q with q | ⟨k,c',e,z'⟩
    ·exact .inl q
    ·refine .inr ⟨k,c',e,z'.sameBut hs ?_⟩
     rintro rfl
     exact hj (ze8 hN e1 (I.ok.inj _ _ _ e hc ▸ hi))
  ·by_cases hcc:c' = c
   ·subst hcc; exact ⟨_,hc'⟩
   ·obtain ⟨w2,z2⟩:=I.cell y c' e
    exact ⟨w2,z2.sameBut hs hcc⟩
  ·obtain ⟨e,n,ne,nf,d⟩:=I.pin p hp
   refine ⟨(hs.2 p.1 ?_).trans e,n,ne,nf,d⟩
   intro q
   rw [q,hoc] at e
   have q':oc = p.2:=Option.some.inj e
   exact d w' (by rw [← q']; exact hocd)
theorem zdv {M:Model} {A:Around} {E:Value->Shared->Prop} {i:Nat} {x:Str} {v:V} {u:Value} {Q:Unit->Shared->Prop} (I:Inv X pins σ H s) (hN:X.N.Nodup) (hi:X.N[i]? = some x) (hx:Loc X.env.scope x) (r:RelV v u)
  (h:∀ s',Inv X pins (σ.set i (some v)) H s'->Q () s') (hf:X.fn x = true ∨ X.env.scope.names.lookup x = some .local:=by first | exact .inl rfl | exact .inr rfl | assumption):wpAny M A (storeName X.env x u) Q E s :=
 zdP I hN hi hx r (fun s' I' _=>h s' I') hf
theorem Inv.call' {s':Shared} {ch:List Addr} (I:Inv X pins σ H s) (ho:s'.os = s.os) (u:Un (frs X.stack) ch H H' s.heap s'.heap) (hok:HOk X.prog X.w H' s'.heap) (hg:AllBare s'.gens)
  (hch:∀ b ∈ ch,(b ∈ X.ex ∨ X.s₀.heap.objs.size ≤ b)∧b ≠ X.env.locals∧(∀ x c,X.env.cells.lookup x = some c->c ≠ b)∧∀ p ∈ X.pn ++ pins,p.1 ≠ b):Inv X pins σ H' s':=by
 obtain ⟨h',g',d',t',o'⟩:=s'
 have e:o' = s.os:=ho
 subst e
 exact I.call (g':=g') (t':=t') (d':=d') u hok hg hch
end
abbrev XK:=Value->Option Addr->Hp->Prop
abbrev St:=List (Option V)
abbrev VK:=V->Hp->Prop
abbrev TE:=St->Hp->VK->Prop
abbrev TT:=St->Hp->(Bool->Hp->Prop)->Prop
abbrev TA:=St->Hp->(List V->Hp->Prop)->Prop
set_option genInjectivity false in
set_option genSizeOf false in
structure Ends where
 nx:St->Hp->Prop
 rt:VK
 bk:St->Hp->Prop:=fun _ _=>False
 ct:St->Hp->Prop:=fun _ _=>False
abbrev TS:=Ends->St->Hp->Prop
noncomputable def EP (X:Cx) (pins:List (Addr × Obj)) (σ:St) (Q:VK) (u:Value) (s':Shared):Prop:=∃ v H',Inv X pins σ H' s'∧RelV v u∧Q v H'
noncomputable def TP (X:Cx) (pins:List (Addr × Obj)) (σ:St) (Q:Bool->Hp->Prop) (b:Bool) (s':Shared):Prop:=∃ H',Inv X pins σ H' s'∧Q b H'
noncomputable def AP (X:Cx) (pins:List (Addr × Obj)) (σ:St) (Q:List V->Hp->Prop) (us:List Value) (s':Shared):Prop:=∃ vs H',Inv X pins σ H' s'∧Vals vs us∧Q vs H'
noncomputable def SP (X:Cx) (pins:List (Addr × Obj)) (D:Ends) (f:Flow) (s':Shared):Prop :=
 match f with
 | .next=>∃ σ' H',Inv X pins σ' H' s'∧D.nx σ' H'
 | .brk=>∃ σ' H',Inv X pins σ' H' s'∧D.bk σ' H'
 | .cont=>∃ σ' H',Inv X pins σ' H' s'∧D.ct σ' H'
 | .ret u=>∃ v σ' H',Inv X pins σ' H' s'∧RelV v u∧D.rt v H'
noncomputable def PE (X:Cx) (e:Expr) (t:TE):Prop :=
 ∀ (pins:List (Addr × Obj)) (s:Shared) (σ:St) (H:Hp) (Q:VK),Inv X pins σ H s->t σ H Q->wpAny (model X.prog X.w) X.A (eval e X.env) (EP X pins σ Q) X.xe s
noncomputable def PT (X:Cx) (e:Expr) (t:TT):Prop :=
 ∀ (pins:List (Addr × Obj)) (s:Shared) (σ:St) (H:Hp) (Q:Bool->Hp->Prop),Inv X pins σ H s->t σ H Q->wpAny (model X.prog X.w) X.A (isTrue e X.env (eval e X.env)) (TP X pins σ Q) X.xe s
noncomputable def PW (X:Cx) (e:Expr) (t:TT):Prop :=
 ∀ (whole:Sem Value) (pins:List (Addr × Obj)) (s:Shared) (σ:St) (H:Hp) (Q:Bool->Hp->Prop),Inv X pins σ H s->t σ H Q->wpAny (model X.prog X.w) X.A (isTrue e X.env whole) (TP X pins σ Q) X.xe s
theorem PW.pt {X:Cx} {e:Expr} {t:TT} (h:PW X e t):PT X e t:=h _
noncomputable def PA (X:Cx) (es:List Expr) (t:TA):Prop :=
 ∀ (pos:Pos) (pins:List (Addr × Obj)) (s:Shared) (σ:St) (H:Hp) (Q:List V->Hp->Prop),Inv X pins σ H s->t σ H Q->wpAny (model X.prog X.w) X.A (spliced (backTo pos (starEach es X.env))) (AP X pins σ Q) X.xe s
noncomputable def PS (X:Cx) (st:Stmt) (t:TS):Prop :=
 ∀ (pins:List (Addr × Obj)) (s:Shared) (σ:St) (H:Hp) (D:Ends),Inv X pins σ H s->t D σ H->wpAny (model X.prog X.w) X.A (exec st X.env) (SP X pins D) X.xe s
noncomputable def PSs (X:Cx) (st:List Stmt) (t:TS):Prop :=
 ∀ (pins:List (Addr × Obj)) (s:Shared) (σ:St) (H:Hp) (D:Ends),Inv X pins σ H s->t D σ H->wpAny (model X.prog X.w) X.A (execs st X.env) (SP X pins D) X.xe s
theorem thn {α:Type} {t:Sem α} {Q Q':α->Shared->Prop} {M:Model} {A:Around} {E:Value->Shared->Prop} {s:Shared} (h:wpAny M A t Q E s) (hQ:∀ a s,Q a s->Q' a s):wpAny M A t Q' E s:=wpAny_mono h hQ fun _ _ x=>x
end L2
namespace L2
open PySem PySem.Spec PyProof.Rows
section
variable {X:Cx}
noncomputable def tVar (i:Nat):TE:=fun σ H Q=>∃ v,σ[i]? = some (some v)∧Q v H
noncomputable def tC (v:V):TE:=fun _ H Q=>Q v H
theorem zi3 {i:Nat} {x:Str} {pos:Pos} (hN:X.N[i]? = some x) (hv:Vis X.env.scope x) (hd:(x == ("__debug__":Str)) = false:=by decide) (hcd:(x == ("__classdict__":Str)) = false:=by decide):PE X (.Name x pos) (tVar i):=by
 intro pins s σ H Q I h
 obtain ⟨v,e,h⟩:=h
 obtain ⟨m,hn,hl⟩:=I.loc
 obtain ⟨u,r,l⟩:=hl i x v hN e hv
 have fin:EP X pins σ Q u s:=⟨v,H,I,r,h⟩
 rcases l with ⟨hk,hm⟩ | ⟨hk,c,hc,hcell⟩
 ·exact wpAny_Name (wpAny_loadName_local I.ok.kind hk hn hm fin) hd
 ·rcases hk with hk | hk
  ·exact wpAny_Name (wpAny_loadName_cell I.ok.kind hk hc hcell fin) hd
  ·exact wpAny_Name (wpAny_loadName_free I.ok.kind hk hc hcell fin hcd) hd
theorem zab {i j pos}:PE X (.Constant (.int i) j pos) (tC (.int i)):=fun _ _ _ H _ I h=>wpAny_Constant_int ⟨.int i,H,I.tok _,⟨_,rfl⟩,h⟩
theorem zcM {b j pos}:PE X (.Constant (.bool b) j pos) (tC (.bl b)):=fun _ _ _ H _ I h=>Constant_bool ⟨.bl b,H,I,rfl,h⟩
theorem zhG {j pos}:PE X (.Constant .none j pos) (tC .non):=fun _ _ _ H _ I h=>Constant_none ⟨.non,H,I,rfl,h⟩
noncomputable def Gl (X:Cx) (x:Str):Prop:=X.env.kindOf x = some .globalImplicit
theorem zeN {E:Value->Shared->Prop} {pins:List (Addr × Obj)} {s:Shared} {σ:St} {H:Hp} {x:Str} {u:Value} {pos:Pos} {Q:Value->Shared->Prop} (I:Inv X pins σ H s) (hg:Gl X x) (hm:X.mg x = some u) (h:Q u s)
  (hd:(x == ("__debug__":Str)) = false:=by decide):wpAny (model X.prog X.w) X.A (eval (.Name x pos) X.env) Q E s :=
 Calls.Name_function_global I.ok.kind hg (Calls.loadGlobal_global (by rw [I.ok.glob]; exact I.mod.glob.keeps I.bk) hm h) hd
theorem zbs {E:Value->Shared->Prop} {pins:List (Addr × Obj)} {s:Shared} {σ:St} {H:Hp} {x:Str} {u:Value} {pos:Pos} {Q:Value->Shared->Prop} (I:Inv X pins σ H s) (hg:Gl X x) (hm:X.mg x = none) (hv:bootBuiltins x = some u) (h:Q u s)
  (hn:x ≠ "__name__":=by decide) (hd:(x == ("__debug__":Str)) = false:=by decide):wpAny (model X.prog X.w) X.A (eval (.Name x pos) X.env) Q E s:=by
 obtain ⟨mb,h1,h2⟩:=I.mod.blt
 exact Calls.Name_function_global I.ok.kind hg (Calls.loadGlobal_builtin (by rw [I.ok.glob]; exact I.mod.glob.keeps I.bk) hm (by rw [I.ok.blt]; exact h1.keeps I.bk) ((h2 x hn).trans hv) h) hd
theorem zc0 {x:Str} {v:V} {u:Value} {pos:Pos} (hg:Gl X x) (hm:X.mg x = none) (hv:bootBuiltins x = some u) (r:RelV v u) (hn:x ≠ "__name__":=by decide) (hd:(x == ("__debug__":Str)) = false:=by decide):PE X (.Name x pos) (tC v) :=
 fun _ _ _ H _ I h=>zbs I hg hm hv ⟨v,H,I,r,h⟩ hn hd
variable {a b:Expr} {ta tb:TE} {pos:Pos}
noncomputable def PC (X:Cx) (op:CmpOp) (a b:Expr) (t:TE):Prop :=
 ∀ (pins:List (Addr × Obj)) (s:Shared) (σ:St) (H:Hp) (Q:VK),Inv X pins σ H s->t σ H Q ->
  wpAny (model X.prog X.w) X.A (eval a X.env) (fun v s₁=>wpAny (model X.prog X.w) X.A (eval b X.env) (fun u s₂=>wpAny (model X.prog X.w) X.A (compareOp op v u) (EP X pins σ Q) X.xe s₂) X.xe s₁) X.xe s
theorem zeX (b:Expr) {op:CmpOp} (h:op ≠ .In) (h2:op ≠ .NotIn):behindInMarks op b = false:=by
 have e1:(op == CmpOp.In) = false:=by cases op <;> first | rfl | exact absurd rfl h
 have e2:(op == CmpOp.NotIn) = false:=by cases op <;> first | rfl | exact absurd rfl h2
 cases b <;> simp [behindInMarks,e1,e2]
noncomputable def tIsN (ta:TE):TE:=fun σ H Q=>ta σ H fun x H1=>Q (.bl (decide (x = .non))) H1
noncomputable def zjq (ta:TE):TE:=fun σ H Q=>ta σ H fun x H1=>Q (.bl (!decide (x = .non))) H1
theorem RelV.none_iff {x:V} {v:Value} (r:RelV x v):(v == Value.none) = decide (x = .non):=by
 cases x with
 | non=>cases r; rfl
 | bl _=>cases r; rfl
 | int _=>obtain ⟨t,rfl⟩:=r; rfl
 | str _=>obtain ⟨t,rfl⟩:=r; rfl
 | byt _=>obtain ⟨t,rfl⟩:=r; rfl
 | flt _=>obtain ⟨t,rfl⟩:=r; rfl
 | ref _=>cases r; rfl
 | ty _=>cases r; rfl
theorem ziT {j pos'} (ha:PE X a ta):PC X .Is a (.Constant .none j pos') (tIsN ta):=by
 intro pins s σ H Q I h
 refine thn (ha pins s σ H _ I h) fun v s1 zq_=>?_
 obtain ⟨x,H1,I1,r1,q1⟩:=zq_
 exact Constant_none (is_none_gen ⟨.bl _,H1,I1,by rw [r1.none_iff]; rfl,q1⟩)
noncomputable def tB (t:TE):TT:=fun σ H Q=>t σ H fun x H1=>∃ c,x = .bl c∧Q c H1
theorem ziN {op:CmpOp} {t:TE} (h:PC X op a b t) (h1:behindInMarks op b = false:=by first | exact zeX _ (by decide) (by decide) | rfl):PE X (.Compare a [op] [b] pos) t:=fun pins s σ H Q I hw=>wpAny_Compare1 (h pins s σ H Q I hw) h1
theorem zcE {op:CmpOp} {t:TE} (h:PC X op a b t) (h1:behindInMarks op b = false:=by first | exact zeX _ (by decide) (by decide) | rfl):PT X (.Compare a [op] [b] pos) (tB t):=by
 intro pins s σ H Q I hw
 refine wpAny_isTrue_Compare1 (thn (h pins s σ H _ I hw) fun v s1 h1=>thn h1 fun u s2 h2=>thn h2 fun c s3 zq_=>?_) h1
 obtain ⟨x,H1,I1,r1,q1⟩:=zq_
 obtain ⟨d,rfl,q⟩:=q1
 cases r1
 exact wpAny_truthy_bool ⟨H1,I1,q⟩
theorem zbo {e:Expr} {t:TE} (h:PE X e t) (he:∀ whole,isTrue e X.env whole = (do let v ← whole; standAt e.pos; holding [v] (truthy v)):=by intro _; rfl):PT X e (tB t):=by
 intro pins s σ H Q I hw
 refine isTrue_plain (thn (h pins s σ H _ I hw) fun v s1 zq_=>?_) (he _)
 obtain ⟨x,H1,I1,r1,q1⟩:=zq_
 obtain ⟨d,rfl,q⟩:=q1
 cases r1
 exact wpAny_truthy_bool ⟨H1,I1,q⟩
variable {tA tB':TT} {rest:List Expr}
noncomputable def tAnd (t u:TT):TT:=fun σ H Q=>t σ H fun c H1=>if c = true then u σ H1 Q else Q false H1
noncomputable def tOr (t u:TT):TT:=fun σ H Q=>t σ H fun c H1=>if c = true then Q true H1 else u σ H1 Q
noncomputable def tNot (t:TT):TT:=fun σ H Q=>t σ H fun c H1=>Q (!c) H1
theorem zcF (ha:PT X a tA):PW X (.BoolOp .And [a] pos) tA:=by
 intro wh pins s σ H Q I h
 refine isTrue_and (thn (ha pins s σ H Q I h) fun c s1 e=>?_)
 cases c with
 | true=>exact isTrue_and_nil e
 | false=>exact e
theorem zbH (ha:PT X a tA):PW X (.BoolOp .Or [a] pos) tA:=by
 intro wh pins s σ H Q I h
 refine isTrue_or (thn (ha pins s σ H Q I h) fun c s1 e=>?_)
 cases c with
 | false=>exact isTrue_or_nil e
 | true=>exact e
theorem zdK (ha:PT X a tA) (hb:PW X (.BoolOp .And (b :: rest) pos) tB'):PW X (.BoolOp .And (a :: b :: rest) pos) (tAnd tA tB'):=by
 intro wh pins s σ H Q I h
 refine isTrue_and (thn (ha pins s σ H _ I h) fun c s1 zq_=>?_)
 obtain ⟨H1,I1,q1⟩:=zq_
 cases c with
 | true=>exact hb wh pins s1 σ H1 Q I1 q1
 | false=>exact ⟨H1,I1,q1⟩
theorem zb8 (ha:PT X a tA) (hb:PW X (.BoolOp .Or (b :: rest) pos) tB'):PW X (.BoolOp .Or (a :: b :: rest) pos) (tOr tA tB'):=by
 intro wh pins s σ H Q I h
 refine isTrue_or (thn (ha pins s σ H _ I h) fun c s1 zq_=>?_)
 obtain ⟨H1,I1,q1⟩:=zq_
 cases c with
 | true=>exact ⟨H1,I1,q1⟩
 | false=>exact hb wh pins s1 σ H1 Q I1 q1
theorem zb3 (ha:PT X a tA):PT X (.UnaryOp .Not a pos) (tNot tA):=by
 intro pins s σ H Q I h
 exact isTrue_not (ha pins s σ H (fun c H1=>Q (!c) H1) I h)
noncomputable def zhS (ta tb:TE):TE:=fun σ H Q=>ta σ H fun x H1=>∃ c,x = .bl c∧if c = true then tb σ H1 Q else Q (.bl false) H1
noncomputable def tOrV (ta tb:TE):TE:=fun σ H Q=>ta σ H fun x H1=>∃ c,x = .bl c∧if c = true then Q (.bl true) H1 else tb σ H1 Q
noncomputable def ziv (ta:TE):TE:=fun σ H Q=>ta σ H fun x H1=>∃ c,x = .bl c∧Q (.bl (!c)) H1
theorem zgQ {op} {t:TE} (h:PE X a t):PE X (.BoolOp op [a] pos) t:=fun pins s σ H Q I hw=>BoolOp_one (h pins s σ H Q I hw)
theorem zhM (ha:PE X a ta) (hb:PE X (.BoolOp .And (b :: rest) pos) tb):PE X (.BoolOp .And (a :: b :: rest) pos) (zhS ta tb):=by
 intro pins s σ H Q I h
 refine BoolOp_and (thn (ha pins s σ H _ I h) fun v s1 zq_=>?_)
 obtain ⟨x,H1,I1,r1,q1⟩:=zq_
 obtain ⟨c,rfl,q1⟩:=q1
 cases r1
 refine wpAny_truthy_bool ?_
 cases c with
 | true=>exact hb pins s1 σ H1 Q I1 q1
 | false=>exact ⟨.bl false,H1,I1,rfl,q1⟩
theorem pe_or (ha:PE X a ta) (hb:PE X (.BoolOp .Or (b :: rest) pos) tb):PE X (.BoolOp .Or (a :: b :: rest) pos) (tOrV ta tb):=by
 intro pins s σ H Q I h
 refine BoolOp_or (thn (ha pins s σ H _ I h) fun v s1 zq_=>?_)
 obtain ⟨x,H1,I1,r1,q1⟩:=zq_
 obtain ⟨c,rfl,q1⟩:=q1
 cases r1
 refine wpAny_truthy_bool ?_
 cases c with
 | false=>exact hb pins s1 σ H1 Q I1 q1
 | true=>exact ⟨.bl true,H1,I1,rfl,q1⟩
theorem ziU (ha:PE X a ta):PE X (.UnaryOp .Not a pos) (ziv ta):=by
 intro pins s σ H Q I h
 refine UnaryOp_ (thn (ha pins s σ H _ I h) fun v s1 zq_=>?_)
 obtain ⟨x,H1,I1,r1,q1⟩:=zq_
 obtain ⟨c,rfl,q1⟩:=q1
 cases r1
 exact not_of (wpAny_truthy_bool ⟨.bl (!c),H1,I1,rfl,q1⟩)
noncomputable def tIf (t:TT) (ta tb:TE):TE:=fun σ H Q=>t σ H fun c H1=>if c = true then ta σ H1 Q else tb σ H1 Q
end
end L2
namespace L2
open PySem PySem.Spec PyProof.Rows
noncomputable def SqL (K:PySem.W.Frag) (H:Hp) (a:Addr) (xs:List V):Prop :=
 Rd H a (.lst xs) ∨
  ∃ (o:Obj) (its:Array Value) (n:Nat),K.lookup a = some o∧o.cls = .type "list"∧o.dict = none∧o.data = .seq its n∧its.size ≤ sizeLine∧Vals xs its.toList
noncomputable def SqT (K:PySem.W.Frag) (H:Hp) (a:Addr) (xs:List V):Prop :=
 Rd H a (.tup xs) ∨
  ∃ (o:Obj) (its:Array Value) (n:Nat),K.lookup a = some o∧o.cls = .type "tuple"∧o.data = .seq its n∧its.size ≤ sizeLine∧Vals xs its.toList
noncomputable def absV:Value->Option V
 | .none=>some .non
 | .bool b=>some (.bl b)
 | .int i _=>some (.int i)
 | .str x _=>some (.str x)
 | .bytes b _=>some (.byt b)
 | .float b _=>some (.flt b)
 | .ref a=>some (.ref a)
 | .type n=>some (.ty n)
 | _=>none
theorem RelV.abs {x:V} {u:Value} (r:RelV x u):absV u = some x:=by
 cases x with
 | non=>cases r; rfl
 | bl _=>cases r; rfl
 | int _=>obtain ⟨t,rfl⟩:=r; rfl
 | str _=>obtain ⟨t,rfl⟩:=r; rfl
 | byt _=>obtain ⟨t,rfl⟩:=r; rfl
 | flt _=>obtain ⟨t,rfl⟩:=r; rfl
 | ref _=>cases r; rfl
 | ty _=>cases r; rfl
theorem RelV.inj {x y:V} {u:Value} (r:RelV x u) (q:RelV y u):x = y:=Option.some.inj (r.abs.symm.trans q.abs)
theorem Vals.inj:∀ {xs ys:List V} {us:List Value},Vals xs us->Vals ys us->xs = ys
 | _,_,_,.nil,.nil=>rfl
 | _,_,_,.cons r t,.cons r' t'=>by rw [r.inj r',Vals.inj t t']
section
variable {X:Cx} {pins:List (Addr × Obj)} {σ:St} {H:Hp} {s:Shared} {a:Addr} {xs ys:List V}
theorem SqL.of {K:PySem.W.Frag} (h:H a = some (.lst xs)):SqL K H a xs:=.inl (.inl h)
theorem SqT.of {K:PySem.W.Frag} (h:H a = some (.tup xs)):SqT K H a xs:=.inl (.inl h)
theorem Inv.list (I:Inv X pins σ H s) (h:SqL X.K H a xs):∃ its:List Value,Vals xs its∧PlainL s.heap a its.toArray∧xs.length ≤ sizeLine:=by
 rcases h with h | ⟨o,its,n,hk,hc,hd,hs,hz,r⟩
 ·obtain ⟨z,its,n,r,e⟩:=h.ok I.hok
  exact ⟨its,r,⟨_,n,e,rfl,rfl,rfl⟩,z⟩
 ·refine ⟨its.toList,r,⟨o,n,I.kIn a o hk,hc,hd,by simpa using hs⟩,?_⟩
  have e:=r.length
  simp only [Array.length_toList] at e
  omega
theorem Inv.tuple (I:Inv X pins σ H s) (h:SqT X.K H a xs):∃ its:List Value,Vals xs its∧IsTup s.heap a its.toArray∧xs.length ≤ sizeLine:=by
 rcases h with h | ⟨o,its,n,hk,hc,hs,hz,r⟩
 ·obtain ⟨z,its,r,p⟩:=h.ok I.hok
  exact ⟨its,r,p,z⟩
 ·refine ⟨its.toList,r,⟨o,I.kIn a o hk,hc,n,by simpa using hs⟩,?_⟩
  have e:=r.length
  simp only [Array.length_toList] at e
  omega
theorem Inv.list_inj (I:Inv X pins σ H s) (h:SqL X.K H a xs) (h':SqL X.K H a ys):xs = ys:=by
 obtain ⟨its,r,⟨o,n,e,_,_,d⟩,_⟩:=I.list h
 obtain ⟨its',r',⟨o',n',e',_,_,d'⟩,_⟩:=I.list h'
 rw [e] at e'; cases e'
 rw [d] at d'
 injection d' with d1 _
 have:its = its':=by simpa using congrArg Array.toList d1
 subst this
 exact r.inj r'
theorem Inv.tuple_inj (I:Inv X pins σ H s) (h:SqT X.K H a xs) (h':SqT X.K H a ys):xs = ys:=by
 obtain ⟨its,r,⟨o,e,_,n,d⟩,_⟩:=I.tuple h
 obtain ⟨its',r',⟨o',e',_,n',d'⟩,_⟩:=I.tuple h'
 rw [e] at e'; cases e'
 rw [d] at d'
 injection d' with d1 _
 have:its = its':=by simpa using congrArg Array.toList d1
 subst this
 exact r.inj r'
end
noncomputable abbrev Cx.wish (X:Cx) (E:Value->Shared->Prop):Cx:={ X with xe:=E }
noncomputable abbrev Cx.nox (X:Cx):Cx:=X.wish fun _ _=>False
theorem Cx.Ok.wish {X:Cx} (ok:X.Ok) (E:Value->Shared->Prop):(X.wish E).Ok :=
 ⟨ok.mod,ok.kind,ok.glob,ok.blt,ok.above,ok.inj,ok.has,ok.cab,ok.hd,ok.frames,ok.stk,ok.exf,ok.bs,ok.bsz,ok.noex,ok.exfs,ok.funs,ok.frf⟩
theorem Cx.Ok.unwish {X:Cx} {E:Value->Shared->Prop} (ok:(X.wish E).Ok):X.Ok :=
 ⟨ok.mod,ok.kind,ok.glob,ok.blt,ok.above,ok.inj,ok.has,ok.cab,ok.hd,ok.frames,ok.stk,ok.exf,ok.bs,ok.bsz,ok.noex,ok.exfs,ok.funs,ok.frf⟩
section
variable {X:Cx} {pins:List (Addr × Obj)} {σ:St} {H:Hp} {s:Shared} {E:Value->Shared->Prop}
theorem Inv.wish (I:Inv X pins σ H s) (E:Value->Shared->Prop):Inv (X.wish E) pins σ H s:=⟨I.ok.wish E,I.os,I.bare,I.base,I.loc,I.cell,I.free,I.freeC,I.pin,I.hok,I.len⟩
theorem Inv.unwish (I:Inv (X.wish E) pins σ H s):Inv X pins σ H s:=⟨I.ok.unwish,I.os,I.bare,I.base,I.loc,I.cell,I.free,I.freeC,I.pin,I.hok,I.len⟩
theorem SP.unwish {D:Ends} {f:Flow} {s':Shared} (h:SP (X.wish E) pins D f s'):SP X pins D f s':=by
 cases f with
 | next=>obtain ⟨σ',H',I,q⟩:=h; exact ⟨σ',H',I.unwish,q⟩
 | brk=>obtain ⟨σ',H',I,q⟩:=h; exact ⟨σ',H',I.unwish,q⟩
 | cont=>obtain ⟨σ',H',I,q⟩:=h; exact ⟨σ',H',I.unwish,q⟩
 | ret u=>obtain ⟨v,σ',H',I,r,q⟩:=h; exact ⟨v,σ',H',I.unwish,r,q⟩
theorem PSs.nox {st:List Stmt} {t:TS} (h:PSs X.nox st t):PSs X st t:=fun pins s σ H D I hw =>
 wpAny_mono (h pins s σ H D (I.wish _) hw) (fun _ _ q=>q.unwish) fun _ _ z=>False.elim z
end
section
variable {X:Cx} {st:Stmt} {rest:List Stmt} {t u:TS} {e:Expr} {te:TE} {pos:Pos}
noncomputable def tNext:TS:=fun D σ H=>D.nx σ H
noncomputable def tSeq (t u:TS):TS:=fun D σ H=>t { D with nx:=u D } σ H
theorem pss_nil:PSs X [] tNext:=fun _ _ σ H _ I h=>wpAny_execs_nil ⟨σ,H,I,h⟩
theorem zac (h1:PS X st t) (h2:PSs X rest u):PSs X (st :: rest) (tSeq t u):=by
 intro pins s σ H D I h
 refine wpAny_execs_cons (thn (h1 pins s σ H { D with nx:=u D } I h) fun f s1 q=>?_)
 cases f with
 | next =>
  obtain ⟨σ',H',I',q⟩:=q
  exact h2 pins s1 σ' H' D I' q
 | ret v=>exact q
 | brk=>exact q
 | cont=>exact q
theorem zaf (h1:PS X st t):PSs X [st] t:=by
 intro pins s σ H D I h
 refine wpAny_execs_cons (thn (h1 pins s σ H D I h) fun f s1 q=>?_)
 cases f with
 | next=>exact wpAny_execs_nil q
 | ret v=>exact q
 | brk=>exact q
 | cont=>exact q
theorem Inv.quiet {pins:List (Addr × Obj)} {σ:St} {H:Hp} {s:Shared} (I:Inv X pins σ H s):interactive X.env = false:=by simp [interactive,I.ok.kind]
noncomputable def zgZ (te:TE):TS:=fun D σ H=>te σ H fun _ H1=>D.nx σ H1
theorem za2 (he:PE X e te) (hs:swapsWith e none pos.line X.env = pure false:=by rfl):PS X (.Expr e pos) (zgZ te):=by
 intro pins s σ H D I h
 exact wpAny_Expr_any (thn (he pins s σ H _ I h) fun v s1 ⟨x,H1,I1,r1,q1⟩=>⟨σ,H1,I1,q1⟩) I.quiet hs
noncomputable def tRet (te:TE):TS:=fun D σ H=>te σ H D.rt
theorem zaq (he:PE X e te):PS X (.Return (some e) pos) (tRet te):=by
 intro pins s σ H D I h
 exact wpAny_Return_some (thn (he pins s σ H _ I h) fun v s1 ⟨x,H1,I1,r1,q1⟩=>⟨x,σ,H1,I1,r1,q1⟩)
noncomputable def tRetN:TS:=fun D _ H=>D.rt .non H
noncomputable def tIfS (c:TT) (t u:TS):TS:=fun D σ H=>c σ H fun b H1=>if b = true then t D σ H1 else u D σ H1
theorem zaS {c:Expr} {a b:List Stmt} {tc:TT} (hc:PT X c tc) (ha:PSs X a t) (hb:PSs X b u):PS X (.If c a b pos) (tIfS tc t u):=by
 intro pins s σ H D I h
 refine wpAny_If (thn (hc pins s σ H _ I h) fun d s1 zq_=>?_)
 obtain ⟨H1,I1,q1⟩:=zq_
 cases d with
 | true=>exact ha pins s1 σ H1 D I1 q1
 | false=>exact hb pins s1 σ H1 D I1 q1
end
abbrev TG:=V->St->Hp->(St->Hp->Prop)->Prop
abbrev TGs:=List V->St->Hp->(St->Hp->Prop)->Prop
noncomputable def PG (X:Cx) (target:Expr) (t:TG):Prop :=
 ∀ (pins:List (Addr × Obj)) (s:Shared) (σ:St) (H:Hp) (v:V) (u:Value) (Q:St->Hp->Prop),Inv X pins σ H s->RelV v u->t v σ H Q ->
  wpAny (model X.prog X.w) X.A (assign target X.env u) (fun _ s'=>∃ σ' H',Inv X pins σ' H' s'∧Q σ' H') X.xe s
noncomputable def PGs (X:Cx) (ts:List Expr) (t:TGs):Prop :=
 ∀ (pins:List (Addr × Obj)) (s:Shared) (σ:St) (H:Hp) (vs:List V) (us:List Value) (Q:St->Hp->Prop),Inv X pins σ H s->Vals vs us->t vs σ H Q ->
  wpAny (model X.prog X.w) X.A (assignInOrder ((assignEach ts X.env).map (·.2)) us) (fun _ s'=>∃ σ' H',Inv X pins σ' H' s'∧Q σ' H') X.xe s
abbrev TSet:=V->V->V->Hp->(Hp->Prop)->Prop
noncomputable def PSet (X:Cx) (t:TSet):Prop :=
 ∀ (pins:List (Addr × Obj)) (s:Shared) (σ:St) (H:Hp) (o i v:V) (ov iv u:Value) (Q:Hp->Prop),Inv X pins σ H s->RelV o ov->RelV i iv->RelV v u->t o i v H Q ->
  wpAny (model X.prog X.w) X.A (setItem ov iv u) (fun _ s'=>∃ H',Inv X pins σ H' s'∧Q H') X.xe s
abbrev TIp:=V->V->Hp->VK->Prop
noncomputable def PIp (X:Cx) (op:Operator) (t:TIp):Prop :=
 ∀ (pins:List (Addr × Obj)) (s:Shared) (σ:St) (H:Hp) (x y:V) (v u:Value) (Q:VK),Inv X pins σ H s->RelV x v->RelV y u->t x y H Q ->
  wpAny (model X.prog X.w) X.A (inplaceOp op v u) (EP X pins σ Q) X.xe s
section
variable {X:Cx} {pos:Pos}
noncomputable def zbV (i:Nat):TG:=fun v σ H Q=>Q (σ.set i (some v)) H
theorem zas {i:Nat} {x:Str} (hN:X.N.Nodup) (hi:X.N[i]? = some x) (hx:Loc X.env.scope x) (hf:X.fn x = true ∨ X.env.scope.names.lookup x = some .local:=by first | exact .inl rfl | exact .inr rfl | assumption):PG X (.Name x pos) (zbV i):=by
 intro pins s σ H v u Q I r h
 exact wpAny_assign_Name (zdv I hN hi hx r (fun s' I'=>⟨_,H,I',h⟩) hf)
noncomputable def gNil:TGs:=fun vs σ H Q=>vs = []∧Q σ H
noncomputable def zh4 (t:TG) (u:TGs):TGs:=fun vs σ H Q=>∃ v r,vs = v :: r∧t v σ H fun σ' H'=>u r σ' H' Q
theorem pgs_nil:PGs X [] gNil:=by
 intro pins s σ H vs us Q I r h
 obtain ⟨e,h⟩:=h
 subst e
 cases r
 exact assignInOrder_nil ⟨σ,H,I,h⟩
theorem zaN {e:Expr} {es:List Expr} {t:TG} {u:TGs} (h1:PG X e t) (h2:PGs X es u)
  (hs:(assignEach (e :: es) X.env).map (·.2) = assign e X.env :: (assignEach es X.env).map (·.2):=by rfl):PGs X (e :: es) (zh4 t u):=by
 intro pins s σ H vs us Q I r h
 obtain ⟨v,vr,e1,h⟩:=h
 subst e1
 cases r with
 | cons r rr =>
  rw [hs]
  refine assignInOrder_cons (thn (h1 pins s σ H _ _ _ I r h) fun _ s1 zq_=>?_)
  obtain ⟨σ1,H1,I1,q1⟩:=zq_
  exact h2 pins s1 σ1 H1 _ _ Q I1 rr q1
noncomputable def gTup (K:PySem.W.Frag) (n:Nat) (t:TGs):TG:=fun v σ H Q=>∃ a xs,v = .ref a∧SqT K H a xs∧xs.length = n∧t xs σ H Q
theorem zc4 {es:List Expr} {k:Nat} {t:TGs} {n:Nat} (hc:X.calm = true) (h:PGs X es t)
  (hn:(assignEach es X.env).length = n:=by rfl) (hst:(assignEach es X.env).findIdx? (·.1) = none:=by rfl):PG X (.Tuple es k pos) (gTup X.K n t):=by
 intro pins s σ H v u Q I r hw
 obtain ⟨a,xs,e1,hq,hl,hw⟩:=hw
 subst e1
 cases r
 obtain ⟨its,rv,ht,hz⟩:=I.tuple hq
 refine assign_Tuple_tuple (I.ok.hd hc) ht (by simp [hn,← hl,rv.length]) hst fun h' hx=>?_
 have I1:Inv X pins σ H { s with heap:=h' }:=I.kept (t':=s.toks) fun b o e=>hx b o (Nat.ne_of_lt (Heap.lt_size e)) e
 exact h pins _ σ H xs _ Q I1 (by simpa using rv) hw
noncomputable def gSub (to ti:TE) (t:TSet):TG:=fun v σ H Q=>to σ H fun o H1=>ti σ H1 fun i H2=>t o i v H2 fun H3=>Q σ H3
theorem zcL {o i:Expr} {to ti:TE} {t:TSet} (ho:PE X o to) (hi:PE X i ti) (hs:PSet X t)
  (ha:∀ v,assign (.Subscript o i pos) X.env v = (do
   let ov ← holding [v] (eval o X.env)
   let iv ← holding [v,ov] (eval i X.env)
   standAt pos
   holding [v,ov,iv] (setItem ov iv v)
   release [v,ov,iv] []):=by intro _; rfl):PG X (.Subscript o i pos) (gSub to ti t):=by
 intro pins s σ H v u Q I r h
 rw [ha]
 refine wpAny_bind (wpAny_holding (thn (ho pins s σ H _ I h) fun ov s1 zq_=>?_))
 obtain ⟨x,H1,I1,r1,q1⟩:=zq_
 refine wpAny_bind (wpAny_holding (thn (hi pins s1 σ H1 _ I1 q1) fun iv s2 zq_=>?_))
 obtain ⟨y,H2,I2,r2,q2⟩:=zq_
 refine wpAny_bind (wpAny_standAt (wpAny_bind (wpAny_holding (thn (hs pins s2 σ H2 x y v ov iv u _ I2 r1 r2 r q2) fun _ s3 zq_=>?_))))
 obtain ⟨H3,I3,q3⟩:=zq_
 exact wpAny_release ⟨σ,H3,I3,q3⟩
noncomputable def tAsg (te:TE) (g:TG):TS:=fun D σ H=>te σ H fun x H1=>g x σ H1 D.nx
theorem zbI {tg e:Expr} {te:TE} {g:TG} (he:PE X e te) (hg:PG X tg g) (hs:swapsWithSole [tg] e pos.line X.env = pure false:=by rfl) (hw:swappedStores [tg] e X.env = pure none:=by rfl)
  (h1:(assignEach [tg] X.env).map (·.2) = [assign tg X.env]:=by rfl):PS X (.Assign [tg] e pos) (tAsg te g):=by
 intro pins s σ H D I h
 refine wpAny_Assign_stores (thn (he pins s σ H _ I h) fun v s1 zq_=>?_) hs hw
 obtain ⟨x,H1,I1,r1,q1⟩:=zq_
 rw [h1]
 exact thn (hg pins s1 σ H1 x v _ I1 r1 q1) fun _ s2 q=>q
theorem zau {i:Nat} {x:Str} {e:Expr} {te:TE} {pos':Pos} (hN:X.N.Nodup) (hi:X.N[i]? = some x) (hx:Loc X.env.scope x) (he:PE X e te) (hs:swapsWith e (some (.Name x pos')) pos.line X.env = pure false:=by rfl) (hf:X.fn x = true ∨ X.env.scope.names.lookup x = some .local:=by first | exact .inl rfl | exact .inr rfl | assumption) :
  PS X (.Assign [.Name x pos'] e pos) (tAsg te (zbV i)):=by
 intro pins s σ H D I h
 refine wpAny_Assign_Name (thn (he pins s σ H _ I h) fun v s1 zq_=>?_) hs
 obtain ⟨y,H1,I1,r1,q1⟩:=zq_
 exact zdv I1 hN hi hx r1 (fun s2 I2=>⟨_,H1,I2,q1⟩) hf
noncomputable def tAug (i:Nat) (te:TE) (ti:TIp):TS:=fun D σ H=>∃ x,σ[i]? = some (some x)∧te σ H fun y H1=>ti x y H1 fun z H2=>D.nx (σ.set i (some z)) H2
theorem zjl {i:Nat} {x:Str} {e:Expr} {te:TE} {op:Operator} {ti:TIp} {pos':Pos} (hN:X.N.Nodup) (hi:X.N[i]? = some x) (hx:Loc X.env.scope x) (he:PE X e te) (ho:PIp X op ti) (hf:X.fn x = true ∨ X.env.scope.names.lookup x = some .local:=by first | exact .inl rfl | exact .inr rfl | assumption) :
  PS X (.AugAssign (.Name x pos') op e pos) (tAug i te ti):=by
 intro pins s σ H D I h
 obtain ⟨v,e1,h⟩:=h
 obtain ⟨m,hn,hl⟩:=I.loc
 have vis:Vis X.env.scope x:=by rcases hx with k | k; exact .inl k; exact .inr (.inl k)
 obtain ⟨u,r,l⟩:=hl i x v hi e1 vis
 refine wpAny_AugAssign_Name ?_
 have go:wpAny (model X.prog X.w) X.A (eval e X.env) (fun w s₂=>wpAny (model X.prog X.w) X.A (inplaceOp op u w) (fun r s₃=>wpAny (model X.prog X.w) X.A (storeName X.env x r) (fun _=>SP X pins D .next) X.xe s₃) X.xe s₂) X.xe s:=by
  refine thn (he pins s σ H _ I h) fun w s1 zq_=>?_
  obtain ⟨y,H1,I1,r1,q1⟩:=zq_
  refine thn (ho pins s1 σ H1 v y u w _ I1 r r1 q1) fun z s2 zq_=>?_
  obtain ⟨zv,H2,I2,r2,q2⟩:=zq_
  exact zdv I2 hN hi hx r2 (fun s3 I3=>⟨_,H2,I3,q2⟩) hf
 rcases l with ⟨hk,hm⟩ | ⟨hk,c,hc,hcell⟩
 ·exact wpAny_loadName_local I.ok.kind hk hn hm go
 ·rcases hk with hk | hk
  ·exact wpAny_loadName_cell I.ok.kind hk hc hcell go
  ·rcases hx with k | k
   ·have:X.env.scope.names.lookup x = some .free:=hk
    rw [k] at this; cases this
   ·have:X.env.scope.names.lookup x = some .free:=hk
    rw [k] at this; cases this
noncomputable def ipI (f:Int->Int->Int):TIp:=fun x y H Q=>∃ i j,x = .int i∧y = .int j∧Q (.int (f i j)) H
theorem ip_add:PIp X .Add (ipI fun i j=>i + j):=by
 intro pins s σ H x y v u Q I r1 r2 h
 obtain ⟨i,j,e1,e2,q⟩:=h
 subst e1; subst e2
 obtain ⟨t,rfl⟩:=r1
 obtain ⟨t',rfl⟩:=r2
 exact iadd_int ⟨.int _,H,I.tok _,⟨_,rfl⟩,q⟩
end
section
variable {X:Cx} {pos:Pos}
noncomputable def zi2 (c:TT) (tb:TS):TS:=fun D σ H=>∃ W:Nat->St->Hp->Prop,(∃ m,W m σ H)∧∀ m σ H,W m σ H ->
 c σ H fun b H1=>if b = true then ∃ N:St->Hp->Prop,(∀ σ' H',N σ' H'->∃ m',m' < m∧W m' σ' H')∧tb { D with nx:=N,ct:=N,bk:=D.nx } σ H1 else D.nx σ H1
theorem zgW {c:Expr} {body:List Stmt} {tc:TT} {tb:TS} (hp:PassesOwn (model X.prog X.w) X.A X.env X.xe) (hc:PT X c tc) (hb:PSs X body tb):PS X (.While c body [] pos) (zi2 tc tb):=by
 intro pins s σ H D I h
 obtain ⟨W,⟨m0,w0⟩,turn⟩:=h
 refine wpAny_While (codeAny_whileLoop (fun n s'=>∃ σ' H',Inv X pins σ' H' s'∧W n σ' H') ?_ m0 ⟨σ,H,I,w0⟩)
 rintro n s1 ⟨σ1,H1,I1,w1⟩
 refine wpAny_passesOwn hp (thn (hc pins s1 σ1 H1 _ I1 (turn n σ1 H1 w1)) fun b s2 zq_=>?_)
 obtain ⟨H2,I2,q2⟩:=zq_
 cases b with
 | true =>
  obtain ⟨N,hN,q2⟩:=q2
  rw [if_pos rfl]
  refine wpAny_passesOwn hp (thn (hb pins s2 σ1 H2 _ I2 q2) fun f s3 q3=>?_)
  cases f with
  | next =>
   obtain ⟨σ3,H3,I3,n3⟩:=q3
   obtain ⟨m',hm,w3⟩:=hN σ3 H3 n3
   exact ⟨m',hm,σ3,H3,I3,w3⟩
  | cont =>
   obtain ⟨σ3,H3,I3,n3⟩:=q3
   obtain ⟨m',hm,w3⟩:=hN σ3 H3 n3
   exact ⟨m',hm,σ3,H3,I3,w3⟩
  | brk=>exact q3
  | ret v=>exact q3
 | false =>
  rw [if_neg Bool.false_ne_true]
  exact wpAny_execs_nil ⟨σ1,H2,I2,q2⟩
end
set_option genInjectivity false in
set_option genSizeOf false in
structure It where
 go:Nat->Hp->Prop
 yld:Nat->Hp->V->Hp->Prop
 stop:Nat->Hp->Prop
noncomputable def FpOk (X:Cx) (pins:List (Addr × Obj)) (H:Hp) (b:Addr):Prop :=
 H b = none∧b ≠ X.env.locals∧b ∉ X.fs∧(b ∈ X.ex ∨ X.s₀.heap.objs.size ≤ b)∧(∀ x c,X.env.cells.lookup x = some c->c ≠ b)∧∀ p ∈ X.pn ++ pins,p.1 ≠ b
theorem Inv.fpOk {X:Cx} {pins:List (Addr × Obj)} {σ:St} {H H':Hp} {s:Shared} {b:Addr} (I:Inv X pins σ H s) (hb:s.heap.objs.size ≤ b) (hn:H' b = none):FpOk X pins H' b:=by
 refine ⟨hn,Nat.ne_of_gt (Nat.lt_of_lt_of_le I.lt hb),I.nofs hb,.inr (Nat.le_trans I.sz hb),fun x c e z=>?_,fun p hp z=>?_⟩
 ·obtain ⟨v,q⟩:=I.cell x c e
  exact absurd (Nat.lt_of_lt_of_le q.lt (by rw [z]; exact hb)) (Nat.lt_irrefl _)
 ·exact absurd (Nat.lt_of_lt_of_le (Heap.lt_size (I.pin p hp).1) (by rw [z]; exact hb)) (Nat.lt_irrefl _)
structure Turn (P:Program) (w:World) (K:PySem.W.Frag) (tg:Expr) (J:It) (fp:List Addr) (it:Addr) (tn:Nat->Heap->Prop):Prop where
 mem:it ∈ fp
 obj:∀ i h,tn i h->∀ b ∈ fp,∃ o,h.get? b = some o∧∀ v,o.data ≠ .cell v
 keep:∀ i h h',tn i h->(∀ b ∈ fp,∀ o,h.get? b = some o->h'.get? b = some o)->tn i h'
 item:∀ (X:Cx),X.prog = P->X.w = w->X.K = K->X.calm = true->∀ (i:Nat) (pins:List (Addr × Obj)) (s:Shared) (σ:St) (H:Hp) (E:Value->Shared->Prop),Inv X pins σ H s->(∀ b ∈ fp,FpOk X pins H b)->tn i s.heap->J.go i H ->
  wpAny (model P w) X.A (pyNext (.ref it)) (fun r s1=>∃ u,r = some u ∧
   wpAny (model P w) X.A (letOwnedTupleGo tg (.ref it) u) (fun _ s2=>∃ x H',Inv X pins σ H' s2∧RelV x u∧J.yld i H x H'∧tn (i + 1) s2.heap∧∀ b ∈ fp,H' b = none) E s1) E s
 done:∀ (X:Cx),X.prog = P->X.w = w->X.K = K->X.calm = true->∀ (i:Nat) (pins:List (Addr × Obj)) (s:Shared) (σ:St) (H:Hp) (E:Value->Shared->Prop),Inv X pins σ H s->(∀ b ∈ fp,FpOk X pins H b)->tn i s.heap->J.stop i H ->
  wpAny (model P w) X.A (pyNext (.ref it)) (fun r s1=>r = none∧Inv X pins σ H s1) E s
 self:∀ (A:Around) (i:Nat) (s:Shared) (Q:Value->Shared->Prop) (E:Value->Shared->Prop),tn i s.heap->Q (.ref it) s->wpAny (model P w) A (pyIter (.ref it)) Q E s
abbrev TI:=St->Hp->(It->Hp->Prop)->Prop
noncomputable def PIE (X:Cx) (pins:List (Addr × Obj)) (σ:St) (tg:Expr) (R:It->Hp->Prop) (itv:Value) (s2:Shared):Prop :=
 ∃ (it:Addr) (fp:List Addr) (tn:Nat->Heap->Prop) (J:It) (H':Hp),itv = .ref it∧Inv X pins σ H' s2∧Turn X.prog X.w X.K tg J fp it tn∧tn 0 s2.heap∧(∀ b ∈ fp,FpOk X pins H' b)∧R J H'
noncomputable def PI (X:Cx) (tg iter:Expr) (wi:TI):Prop :=
 ∀ (pins:List (Addr × Obj)) (s:Shared) (σ:St) (H:Hp) (R:It->Hp->Prop),Inv X pins σ H s->wi σ H R ->
  wpAny (model X.prog X.w) X.A (eval iter X.env) (fun v s1=>wpAny (model X.prog X.w) X.A (pyIter v) (PIE X pins σ tg R) X.xe s1) X.xe s
theorem zhk {M : Model} {A : Around} {E : Value → Shared → Prop} {s : Shared} {tg : Expr} {it : Addr} {u : Value} {o : Obj} {n : String} {vs : Array Value} {Q : Unit → Shared → Prop} (ho : s.heap.get? it = some o) (hc : o.cls = .type n) (hd : o.data = .fields vs)
    (hn : ["enumerate", "zip", "dict_itemiterator", "dict_reverseitemiterator", "odict_iterator", "itertools.zip_longest", "itertools.pairwise"].contains n = false) (hQ : Q () s) : wpAny M A (letOwnedTupleGo tg (.ref it) u) Q E s := by
  unfold letOwnedTupleGo
  cases tg <;> first
    | exact wpAny_pure hQ
    | (cases u <;> first
        | exact wpAny_pure hQ
        | (refine wpAny_bind (wpAny_load ho ?_)
           rw [hc, hd]
           show wpAny M A (if (["enumerate", "zip", "dict_itemiterator", "dict_reverseitemiterator", "odict_iterator", "itertools.zip_longest", "itertools.pairwise"].contains n && vs[0]? == some (rawInt _)) = true then _ else _) Q E s
           rw [if_neg (by intro h; rw [hn, Bool.false_and] at h; cases h)]
           exact wpAny_pure hQ))
noncomputable def Itl (K:PySem.W.Frag) (a:Addr):It :=
 ⟨fun i H=>∃ xs x,SqL K H a xs∧xs[i]? = some x,fun i H x H'=>H' = H∧∀ xs,SqL K H a xs->xs[i]? = some x,fun i H=>∃ xs,SqL K H a xs∧xs.length ≤ i⟩
noncomputable def Itt (K:PySem.W.Frag) (a:Addr):It :=
 ⟨fun i H=>∃ xs x,SqT K H a xs∧xs[i]? = some x,fun i H x H'=>H' = H∧∀ xs,SqT K H a xs->xs[i]? = some x,fun i H=>∃ xs,SqT K H a xs∧xs.length ≤ i⟩
noncomputable def Itr (lo:Int) (n:Nat):It:=⟨fun i _=>i < n,fun i H x H'=>H' = H∧x = .int (lo + i),fun i _=>n ≤ i⟩
theorem zek {P:Program} {w:World} {K:PySem.W.Frag} {tg:Expr} (a it:Addr):Turn P w K tg (Itl K a) [it] it (fun i h=>h.IsListIter it a i) where
 mem:=by simp
 obj:=fun i h st b hb=>by
  have e:b = it:=by simpa using hb
  subst e
  obtain ⟨o,e,c,d⟩:=st
  exact ⟨o,e,fun v z=>by rw [d] at z; cases z⟩
 keep:=fun i h h' st k=>st.at fun o e=>k it (by simp) o e
 item:=by
  intro X hP hw hK hc i pins s σ H E I hf st hg
  subst hP hw hK
  obtain ⟨xs,x,hq,hx⟩:=hg
  obtain ⟨its,rv,p,hz⟩:=I.list hq
  obtain ⟨u,hu,ru⟩:=rv.get hx
  obtain ⟨f0,f1,f2,f3,f4,f5⟩:=hf it (by simp)
  refine wpAny_pyNext_list_item st p.isList (x:=u) (by simpa using hu) fun h' st' sb=>?_
  have I1:Inv X pins σ H { s with heap:=h' }:=I.turned (t':=s.toks) (fun b o hb e=>(sb.2 b hb).trans e) f0 f1 f3 f4 f5
  obtain ⟨o,e,c,d⟩:=id st'
  exact ⟨u,rfl,zhk (s:={ s with heap:=h' }) e c d (by decide) ⟨x,H,I1,ru,⟨rfl,fun ys hy=>by rw [I.list_inj hy hq]; exact hx⟩,st',fun b hb=>(hf b hb).1⟩⟩
 done:=by
  intro X hP hw hK hc i pins s σ H E I hf st hg
  subst hP hw hK
  obtain ⟨xs,hq,hx⟩:=hg
  obtain ⟨its,rv,p,hz⟩:=I.list hq
  obtain ⟨f0,f1,f2,f3,f4,f5⟩:=hf it (by simp)
  have hl:=rv.length
  exact wpAny_pyNext_list_end (I.ok.hd hc) st p.isList (by simp; omega) fun h' eb=>⟨rfl,I.turned (t':=s.toks) (fun b o hb e=>eb b o hb e) f0 f1 f3 f4 f5⟩
 self:=fun _ _ _ _ _ st h=>wpAny_pyIter_listiter st h
theorem zc8 {P:Program} {w:World} {K:PySem.W.Frag} {tg:Expr} (a it:Addr):Turn P w K tg (Itt K a) [it] it (fun i h=>h.IsTupleIter it a i) where
 mem:=by simp
 obj:=fun i h st b hb=>by
  have e:b = it:=by simpa using hb
  subst e
  obtain ⟨o,e,c,d⟩:=st
  exact ⟨o,e,fun v z=>by rw [d] at z; cases z⟩
 keep:=fun i h h' st k=>st.at fun o e=>k it (by simp) o e
 item:=by
  intro X hP hw hK hc i pins s σ H E I hf st hg
  subst hP hw hK
  obtain ⟨xs,x,hq,hx⟩:=hg
  obtain ⟨its,rv,p,hz⟩:=I.tuple hq
  obtain ⟨u,hu,ru⟩:=rv.get hx
  obtain ⟨f0,f1,f2,f3,f4,f5⟩:=hf it (by simp)
  refine wpAny_pyNext_tuple_item st (show s.heap.IsTuple a its.toArray from p) (x:=u) (by simpa using hu) fun h' st' sb=>?_
  have I1:Inv X pins σ H { s with heap:=h' }:=I.turned (t':=s.toks) (fun b o hb e=>(sb.2 b hb).trans e) f0 f1 f3 f4 f5
  obtain ⟨o,e,c,d⟩:=id st'
  exact ⟨u,rfl,zhk (s:={ s with heap:=h' }) e c d (by decide) ⟨x,H,I1,ru,⟨rfl,fun ys hy=>by rw [I.tuple_inj hy hq]; exact hx⟩,st',fun b hb=>(hf b hb).1⟩⟩
 done:=by
  intro X hP hw hK hc i pins s σ H E I hf st hg
  subst hP hw hK
  obtain ⟨xs,hq,hx⟩:=hg
  obtain ⟨its,rv,p,hz⟩:=I.tuple hq
  obtain ⟨f0,f1,f2,f3,f4,f5⟩:=hf it (by simp)
  have hl:=rv.length
  exact wpAny_pyNext_tuple_end (I.ok.hd hc) st (show s.heap.IsTuple a its.toArray from p) (by simp; omega) fun h' eb=>⟨rfl,I.turned (t':=s.toks) (fun b o hb e=>eb b o hb e) f0 f1 f3 f4 f5⟩
 self:=fun _ _ _ _ _ st h=>wpAny_pyIter_tupleiter st h
theorem zc7 {P:Program} {w:World} {K:PySem.W.Frag} {tg:Expr} (it:Addr) (lo:Int) (n:Nat):Turn P w K tg (Itr lo n) [it] it (fun i h=>IsRangeIter h it (lo + (i:Nat) * 1) ((n:Int) - (i:Nat)) 1) where
 mem:=by simp
 obj:=fun i h st b hb=>by
  have e:b = it:=by simpa using hb
  subst e
  exact ⟨_,st,fun v z=>by
   have z':Data.fields _ = Data.cell v:=z
   cases z'⟩
 keep:=fun i h h' st k=>k it (by simp) _ st
 item:=by
  intro X hP hw hK hc i pins s σ H E I hf st hg
  subst hP hw hK
  obtain ⟨f0,f1,f2,f3,f4,f5⟩:=hf it (by simp)
  have W:=Walks.range (prog:=X.prog) (w:=X.w) (I.ok.hd hc) it lo 1 n
  refine W.item i s _ _ hg st fun v h' tk hv st' kk=>?_
  obtain ⟨t,rfl⟩:=hv
  have I1:Inv X pins σ H { s with heap:=h',toks:=tk }:=I.turned (fun b o hb e=>kk b o (by simpa using hb) e) f0 f1 f3 f4 f5
  refine ⟨_,rfl,zhk (s:={ s with heap:=h',toks:=tk }) (n:="range_iterator") st' rfl rfl (by decide) ⟨.int (lo + i),H,I1,⟨t,?_⟩,⟨rfl,rfl⟩,st',fun b hb=>(hf b hb).1⟩⟩
  rw [Int.mul_one]
 done:=by
  intro X hP hw hK hc i pins s σ H E I hf st hg
  subst hP hw hK
  obtain ⟨f0,f1,f2,f3,f4,f5⟩:=hf it (by simp)
  exact wpAny_pyNext_range_end (I.ok.hd hc) st (by have:n ≤ i:=hg; omega) fun h' eb=>⟨rfl,I.turned (t':=s.toks) (fun b o hb e=>eb b o hb e) f0 f1 f3 f4 f5⟩
 self:=fun _ _ _ _ _ st h=>wpAny_pyIter_rangeiter st h
end L2
namespace L2
open PySem PySem.Spec PyProof.Rows
section
variable {X:Cx} {tg:Expr}
noncomputable def zhd (K:PySem.W.Frag) (tl:TE):TI:=fun σ H R=>tl σ H fun x H1=>∃ a,x = .ref a∧(∃ xs,SqL K H1 a xs)∧R (Itl K a) H1
noncomputable def iTup (K:PySem.W.Frag) (tl:TE):TI:=fun σ H R=>tl σ H fun x H1=>∃ a,x = .ref a∧(∃ xs,SqT K H1 a xs)∧R (Itt K a) H1
theorem zbc {l:Expr} {tl:TE} (hl:PE X l tl):PI X tg l (zhd X.K tl):=by
 intro pins s σ H R I h
 refine thn (hl pins s σ H _ I h) fun v s1 zq_=>?_
 obtain ⟨x,H1,I1,r1,q1⟩:=zq_
 obtain ⟨a,e,⟨xs,hq⟩,q⟩:=q1
 subst e
 cases r1
 obtain ⟨its,rv,p,hz⟩:=I1.list hq
 refine wpAny_pyIter_list p.isList ?_
 refine ⟨s1.heap.objs.size,[s1.heap.objs.size],_,_,H1,rfl,I1.kept (t':=s1.toks) fun b o e=>Heap.get?_push_of_some _ e,zek a _,⟨_,Heap.get?_push_size _ rfl,rfl,rfl⟩,fun b hb=>?_,q⟩
 have e:b = s1.heap.objs.size:=by simpa using hb
 subst e
 exact I1.fpOk (Nat.le_refl _) (I1.hok.fresh (Nat.le_refl _))
theorem zi7 {l:Expr} {tl:TE} (hl:PE X l tl):PI X tg l (iTup X.K tl):=by
 intro pins s σ H R I h
 refine thn (hl pins s σ H _ I h) fun v s1 zq_=>?_
 obtain ⟨x,H1,I1,r1,q1⟩:=zq_
 obtain ⟨a,e,⟨xs,hq⟩,q⟩:=q1
 subst e
 cases r1
 obtain ⟨its,rv,p,hz⟩:=I1.tuple hq
 refine wpAny_pyIter_tuple (show s1.heap.IsTuple a its.toArray from p) ?_
 refine ⟨s1.heap.objs.size,[s1.heap.objs.size],_,_,H1,rfl,I1.kept (t':=s1.toks) fun b o e=>Heap.get?_push_of_some _ e,zc8 a _,⟨_,Heap.get?_push_size _ rfl,rfl,rfl⟩,fun b hb=>?_,q⟩
 have e:b = s1.heap.objs.size:=by simpa using hb
 subst e
 exact I1.fpOk (Nat.le_refl _) (I1.hok.fresh (Nat.le_refl _))
theorem zhh {pins:List (Addr × Obj)} {σ:St} {H:Hp} {s:Shared} {R:It->Hp->Prop} {E:Value->Shared->Prop} {lo hi:Int} {t u v:Tok} {tk:Nat} (I:Inv X pins σ H s) (h1:-(2 ^ 62) ≤ lo) (h2:lo < 2 ^ 62) (h3:-(2 ^ 62) ≤ hi) (h4:hi < 2 ^ 62)
  (q:R (Itr lo (hi - lo).toNat) H):wpAny (model X.prog X.w) X.A (pyIter (.ref s.heap.objs.size)) (PIE X pins σ tg R) E { s with heap:=s.heap.push { cls:=.type "range",data:=.fields #[.int lo t,.int hi u,.int 1 v] },toks:=tk }:=by
 refine wpAny_pyIter_range (IsRange.new ..) (small_one h1 h2 h3 h4) ?_
 have I1:Inv X pins σ H { s with heap:=s.heap.push { cls:=.type "range",data:=.fields #[.int lo t,.int hi u,.int 1 v] },toks:=tk }:=I.kept fun b o e=>Heap.get?_push_of_some _ e
 refine ⟨(s.heap.push { cls:=.type "range",data:=.fields #[.int lo t,.int hi u,.int 1 v] }).objs.size,[(s.heap.push { cls:=.type "range",data:=.fields #[.int lo t,.int hi u,.int 1 v] }).objs.size],_,_,H,rfl,
  I1.kept (t':=tk) fun b o e=>Heap.get?_push_of_some _ e,zc7 _ lo (hi - lo).toNat,?_,fun b hb=>?_,q⟩
 ·have e1:lo + ((0:Nat):Int) * 1 = lo:=by simp
  have e2:(((hi - lo).toNat:Nat):Int) - ((0:Nat):Int) = Builtin.Range.rangeSize lo hi 1:=by rw [rangeSize_one]; split <;> omega
  show IsRangeIter _ _ (lo + ((0:Nat):Int) * 1) ((((hi - lo).toNat:Nat):Int) - ((0:Nat):Int)) 1
  rw [e1,e2]
  exact Heap.get?_push_size _ rfl
 ·have e:b = (s.heap.push { cls:=.type "range",data:=.fields #[.int lo t,.int hi u,.int 1 v] }).objs.size:=by simpa using hb
  subst e
  exact I1.fpOk (Nat.le_refl _) (I1.hok.fresh (Nat.le_refl _))
noncomputable def zdU (ta:TA):TI:=fun σ H R=>ta σ H fun vs H1=>∃ j:Int,vs = [.int j]∧-(2 ^ 62) ≤ j∧j < 2 ^ 62∧R (Itr 0 j.toNat) H1
theorem za1 {a:Expr} {ta:TA} {p pos:Pos} (hg:Gl X "range") (hm:X.mg "range" = none) (ha:PA X [a] ta) (hs:starEach [a] X.env = [(false,eval a X.env)]:=by rfl):PI X tg (.Call (.Name "range" p) [a] [] pos) (zdU ta):=by
 intro pins s σ H R I h
 refine Call_ (zbs I hg hm boot_range (PyProof.Rows.callWith_type1 (thn (ha pos pins s σ H _ I h) fun us s1 zq_=>?_) hs rfl))
 obtain ⟨vs,H1,I1,r1,q1⟩:=zq_
 obtain ⟨j,e,q1,q2,q⟩:=q1
 subst e
 cases r1 with
 | cons r rr =>
  cases rr
  obtain ⟨t,rfl⟩:=r
  exact call_range_1 (zhh I1 (by omega) (by omega) q1 q2 (by simpa using q))
noncomputable def tFor (wi:TI) (g:TG) (tb:TS):TS:=fun D σ H=>wi σ H fun J H1=>∃ W:Nat->Nat->St->Hp->Prop,(∃ m,W 0 m σ H1)∧∀ i m σ H,W i m σ H ->
 (J.stop i H∧D.nx σ H) ∨ (J.go i H∧∃ N:St->Hp->Prop,(∀ σ' H',N σ' H'->∃ m',m' < m∧W (i + 1) m' σ' H')∧∀ x H',J.yld i H x H'->g x σ H' fun σ2 H2=>tb { D with nx:=N,ct:=N,bk:=D.nx } σ2 H2)
noncomputable def zd7 (fp:List Addr) (h:Heap):List (Addr × Obj):=fp.filterMap fun b=>(h.get? b).map fun o=>(b,o)
theorem zbD {fp:List Addr} {h:Heap} {b:Addr} {o:Obj} (hb:b ∈ fp) (e:h.get? b = some o):(b,o) ∈ zd7 fp h:=List.mem_filterMap.mpr ⟨b,hb,by rw [e]; rfl⟩
theorem zgr {fp:List Addr} {h:Heap} {p:Addr × Obj} (hp:p ∈ zd7 fp h):p.1 ∈ fp∧h.get? p.1 = some p.2:=by
 obtain ⟨b,hb,e⟩:=List.mem_filterMap.mp hp
 cases q:h.get? b with
 | none=>rw [q] at e; cases e
 | some o =>
  rw [q] at e
  have e':(b,o) = p:=Option.some.inj e
  subst e'
  exact ⟨hb,q⟩
theorem Inv.pinned {pins:List (Addr × Obj)} {σ:St} {H:Hp} {s:Shared} {fp:List Addr} (I:Inv X pins σ H s) (hf:∀ b ∈ fp,FpOk X pins H b) (ho:∀ b ∈ fp,∃ o,s.heap.get? b = some o∧∀ v,o.data ≠ .cell v):Inv X (pins ++ zd7 fp s.heap) σ H s :=
 I.pins_of fun p hp=>(List.mem_append.mp hp).elim (fun z=>I.pin p (List.mem_append_right _ z)) fun z=>by
  obtain ⟨hb,e⟩:=zgr z
  obtain ⟨f0,f1,f2,_⟩:=hf p.1 hb
  obtain ⟨o,e',d⟩:=ho p.1 hb
  rw [e] at e'; cases e'
  exact ⟨e,f0,f1,f2,d⟩
theorem Inv.unpinned {pins pl:List (Addr × Obj)} {σ:St} {H:Hp} {s:Shared} (I:Inv X (pins ++ pl) σ H s):Inv X pins σ H s:=I.pins_of fun p hp=>I.pin p (List.mem_append_right _ (List.mem_append_left _ hp))
theorem za6 {iter:Expr} {body:List Stmt} {wi:TI} {g:TG} {tb:TS} {pos:Pos} (hp:PassesOwn (model X.prog X.w) X.A X.env X.xe) (hc:X.calm = true) (hi:PI X tg iter wi) (hg:PG X tg g) (hb:PSs X body tb)
  (hs:∀ x,foldedSetIterable iter X.env x = pure x:=by intro _; rfl):PS X (.For tg iter body [] pos) (tFor wi g tb):=by
 intro pins s σ H D I h
 refine wpAny_For (thn (hi pins s σ H _ I h) fun v s1 h1=>thn h1 fun itv s2 h2=>?_) hs
 obtain ⟨it,fp,tn,J,H2,e,I2,T,st2,f2,W,⟨m0,w0⟩,turn⟩:=h2
 subst e
 have stat:∀ {H':Hp},(∀ b ∈ fp,H' b = none)->∀ b ∈ fp,FpOk X pins H' b:=fun hn b hb=>⟨hn b hb,(f2 b hb).2⟩
 refine codeAny_forLoop_any (fun n s'=>∃ i σ' H',Inv X pins σ' H' s'∧tn i s'.heap∧(∀ b ∈ fp,H' b = none)∧W i n σ' H') ?_ m0 ⟨0,σ,H2,I2,st2,fun b hb=>(f2 b hb).1,w0⟩
 rintro n s3 ⟨i,σ3,H3,I3,st3,fr3,w3⟩
 rcases turn i n σ3 H3 w3 with ⟨stop,qn⟩ | ⟨go,N,hN,step⟩
 ·refine wpAny_passesOwn hp (thn (T.done X rfl rfl rfl hc i pins s3 σ3 H3 X.xe I3 (stat fr3) st3 stop) fun r s4 ⟨hr,I4⟩=>?_)
  subst hr
  exact wpAny_execs_nil ⟨σ3,H3,I4,qn⟩
 ·refine wpAny_passesOwn hp (thn (T.item X rfl rfl rfl hc i pins s3 σ3 H3 X.xe I3 (stat fr3) st3 go) fun r s4 ⟨u,hr,h4⟩=>?_)
  subst hr
  refine wpAny_passesOwn hp (thn h4 fun _ s5 zq_=>?_)
  obtain ⟨x,H5,I5,r5,y5,st5,fr5⟩:=zq_
  have I5':=I5.pinned (stat fr5) (T.obj _ _ st5)
  refine wpAny_passesOwn hp (thn (hg _ s5 σ3 H5 x u _ I5' r5 (step x H5 y5)) fun _ s6 zq_=>?_)
  obtain ⟨σ6,H6,I6,q6⟩:=zq_
  refine wpAny_passesOwn hp (thn (hb _ s6 σ6 H6 _ I6 q6) fun f s7 q7=>?_)
  have again:∀ {σ7:St} {H7:Hp},Inv X (pins ++ zd7 fp s5.heap) σ7 H7 s7->N σ7 H7->∃ m,m < n∧∃ i σ' H',Inv X pins σ' H' s7∧tn i s7.heap∧(∀ b ∈ fp,H' b = none)∧W i m σ' H':=fun {σ7 H7} I7 n7=>by
   obtain ⟨m',hm,w7⟩:=hN σ7 H7 n7
   refine ⟨m',hm,i + 1,σ7,H7,I7.unpinned,T.keep _ _ _ st5 fun b hb o e=>(I7.pin (b,o) (List.mem_append_right _ (List.mem_append_right _ (zbD hb e)))).1,fun b hb=>?_,w7⟩
   obtain ⟨o,e,d⟩:=T.obj _ _ st5 b hb
   exact (I7.pin (b,o) (List.mem_append_right _ (List.mem_append_right _ (zbD hb e)))).2.1
  cases f with
  | next=>obtain ⟨σ7,H7,I7,n7⟩:=q7; exact again I7 n7
  | cont=>obtain ⟨σ7,H7,I7,n7⟩:=q7; exact again I7 n7
  | brk=>obtain ⟨σ7,H7,I7,q7⟩:=q7; exact ⟨σ7,H7,I7.unpinned,q7⟩
  | ret v=>obtain ⟨x7,σ7,H7,I7,r7,q7⟩:=q7; exact ⟨x7,σ7,H7,I7.unpinned,r7,q7⟩
end
theorem zdh {K:PySem.W.Frag} {a:Addr} {xs:List V} {g:TG} {tb:TS} {D:Ends} {σ:St} {H:Hp} (Pv:Nat->St->Hp->Prop) (h0:Pv 0 σ H) (hl:∀ i σ H,i ≤ xs.length->Pv i σ H->SqL K H a xs)
  (hs:∀ i x σ H,xs[i]? = some x->Pv i σ H->g x σ H fun σ2 H2=>tb { D with nx:=Pv (i + 1),ct:=Pv (i + 1),bk:=D.nx } σ2 H2) (hd:∀ σ H,Pv xs.length σ H->D.nx σ H) :
  ∃ W:Nat->Nat->St->Hp->Prop,(∃ m,W 0 m σ H)∧∀ i m σ H,W i m σ H ->
   ((Itl K a).stop i H∧D.nx σ H) ∨ ((Itl K a).go i H∧∃ N:St->Hp->Prop,(∀ σ' H',N σ' H'->∃ m',m' < m∧W (i + 1) m' σ' H')∧∀ x H',(Itl K a).yld i H x H'->g x σ H' fun σ2 H2=>tb { D with nx:=N,ct:=N,bk:=D.nx } σ2 H2):=by
 refine ⟨fun i m σ H=>m = xs.length - i∧i ≤ xs.length∧Pv i σ H,⟨xs.length,by simp,Nat.zero_le _,h0⟩,?_⟩
 rintro i m σ H ⟨rfl,hi,p⟩
 have q:=hl i σ H hi p
 by_cases hlt:i < xs.length
 ·refine .inr ⟨⟨xs,xs[i],q,by simp [hlt]⟩,Pv (i + 1),fun σ' H' p'=>⟨xs.length - (i + 1),by omega,rfl,hlt,p'⟩,fun x H' y=>?_⟩
  obtain ⟨e,y⟩:=y
  subst e
  exact hs i x σ _ (y xs q) p
 ·have e:i = xs.length:=by omega
  subst e
  exact .inl ⟨⟨xs,q,Nat.le_refl _⟩,hd σ H p⟩
theorem zhW {K:PySem.W.Frag} {a:Addr} {xs:List V} {g:TG} {tb:TS} {D:Ends} {σ:St} {H:Hp} (Pv:Nat->St->Hp->Prop) (h0:Pv 0 σ H) (hl:∀ i σ H,i ≤ xs.length->Pv i σ H->SqT K H a xs)
  (hs:∀ i x σ H,xs[i]? = some x->Pv i σ H->g x σ H fun σ2 H2=>tb { D with nx:=Pv (i + 1),ct:=Pv (i + 1),bk:=D.nx } σ2 H2) (hd:∀ σ H,Pv xs.length σ H->D.nx σ H) :
  ∃ W:Nat->Nat->St->Hp->Prop,(∃ m,W 0 m σ H)∧∀ i m σ H,W i m σ H ->
   ((Itt K a).stop i H∧D.nx σ H) ∨ ((Itt K a).go i H∧∃ N:St->Hp->Prop,(∀ σ' H',N σ' H'->∃ m',m' < m∧W (i + 1) m' σ' H')∧∀ x H',(Itt K a).yld i H x H'->g x σ H' fun σ2 H2=>tb { D with nx:=N,ct:=N,bk:=D.nx } σ2 H2):=by
 refine ⟨fun i m σ H=>m = xs.length - i∧i ≤ xs.length∧Pv i σ H,⟨xs.length,by simp,Nat.zero_le _,h0⟩,?_⟩
 rintro i m σ H ⟨rfl,hi,p⟩
 have q:=hl i σ H hi p
 by_cases hlt:i < xs.length
 ·refine .inr ⟨⟨xs,xs[i],q,by simp [hlt]⟩,Pv (i + 1),fun σ' H' p'=>⟨xs.length - (i + 1),by omega,rfl,hlt,p'⟩,fun x H' y=>?_⟩
  obtain ⟨e,y⟩:=y
  subst e
  exact hs i x σ _ (y xs q) p
 ·have e:i = xs.length:=by omega
  subst e
  exact .inl ⟨⟨xs,q,Nat.le_refl _⟩,hd σ H p⟩
theorem zdN {lo:Int} {n:Nat} {g:TG} {tb:TS} {D:Ends} {σ:St} {H:Hp} (Pv:Nat->St->Hp->Prop) (h0:Pv 0 σ H)
  (hs:∀ i σ H,i < n->Pv i σ H->g (.int (lo + i)) σ H fun σ2 H2=>tb { D with nx:=Pv (i + 1),ct:=Pv (i + 1),bk:=D.nx } σ2 H2) (hd:∀ σ H,Pv n σ H->D.nx σ H) :
  ∃ W:Nat->Nat->St->Hp->Prop,(∃ m,W 0 m σ H)∧∀ i m σ H,W i m σ H ->
   ((Itr lo n).stop i H∧D.nx σ H) ∨ ((Itr lo n).go i H∧∃ N:St->Hp->Prop,(∀ σ' H',N σ' H'->∃ m',m' < m∧W (i + 1) m' σ' H')∧∀ x H',(Itr lo n).yld i H x H'->g x σ H' fun σ2 H2=>tb { D with nx:=N,ct:=N,bk:=D.nx } σ2 H2):=by
 refine ⟨fun i m σ H=>m = n - i∧i ≤ n∧Pv i σ H,⟨n,by simp,Nat.zero_le _,h0⟩,?_⟩
 rintro i m σ H ⟨rfl,hi,p⟩
 by_cases hlt:i < n
 ·refine .inr ⟨hlt,Pv (i + 1),fun σ' H' p'=>⟨n - (i + 1),by omega,rfl,hlt,p'⟩,fun x H' y=>?_⟩
  obtain ⟨e,y⟩:=y
  subst e y
  exact hs i σ _ hlt p
 ·have e:i = n:=by omega
  subst e
  exact .inl ⟨Nat.le_refl _,hd σ H p⟩
end L2
namespace L2
open PySem PySem.Spec PyProof.Rows
abbrev R2:=V->V->Hp->VK->Prop
noncomputable def OpR (X:Cx) (f:Value->Value->Sem Value) (r:R2):Prop :=
 ∀ (pins:List (Addr × Obj)) (s:Shared) (σ:St) (H:Hp) (x y:V) (v u:Value) (Q:VK),Inv X pins σ H s->RelV x v->RelV y u->r x y H Q ->
  wpAny (model X.prog X.w) X.A (f v u) (EP X pins σ Q) X.xe s
noncomputable def zbN (X:Cx) (f:Value) (r:List V->Hp->VK->Prop):Prop :=
 ∀ (pins:List (Addr × Obj)) (s:Shared) (σ:St) (H:Hp) (xs:List V) (us:List Value) (Q:VK),Inv X pins σ H s->Vals xs us->r xs H Q ->
  wpAny (model X.prog X.w) X.A (call f us) (EP X pins σ Q) X.xe s
noncomputable def tOp (r:R2) (ta tb:TE):TE:=fun σ H Q=>ta σ H fun x H1=>tb σ H1 fun y H2=>r x y H2 Q
noncomputable def tUn (r:V->Hp->VK->Prop) (ta:TE):TE:=fun σ H Q=>ta σ H fun x H1=>r x H1 Q
noncomputable def rI (C:Int->Int->Prop) (g:Int->Int->V):R2:=fun x y H Q=>∃ i j,x = .int i∧y = .int j∧C i j∧Q (g i j) H
noncomputable def rI0 (g:Int->Int->V):R2:=fun x y H Q=>∃ i j,x = .int i∧y = .int j∧Q (g i j) H
noncomputable def rU (g:Int->V):V->Hp->VK->Prop:=fun x H Q=>∃ i,x = .int i∧Q (g i) H
section
variable {X:Cx} {a b c:Expr} {ta tb tc:TE} {pos:Pos}
theorem binT (ha:PE X a ta) (hb:PE X b tb) {pins:List (Addr × Obj)} {s:Shared} {σ:St} {H:Hp} {R:V->V->Hp->Prop} (I:Inv X pins σ H s)
  (h:ta σ H fun x H1=>tb σ H1 fun y H2=>R x y H2) {Q:Value->Shared->Prop} {f:Value->Value->Sem Value}
  (hf:∀ v u s2 x y H2,Inv X pins σ H2 s2->RelV x v->RelV y u->R x y H2->wpAny (model X.prog X.w) X.A (f v u) Q X.xe s2) :
  wpAny (model X.prog X.w) X.A (eval a X.env) (fun v s₁=>wpAny (model X.prog X.w) X.A (eval b X.env) (fun u s₂=>wpAny (model X.prog X.w) X.A (f v u) Q X.xe s₂) X.xe s₁) X.xe s:=by
 refine thn (ha pins s σ H _ I h) fun v s1 zq_=>?_
 obtain ⟨x,H1,I1,r1,q1⟩:=zq_
 refine thn (hb pins s1 σ H1 _ I1 q1) fun u s2 zq_=>?_
 obtain ⟨y,H2,I2,r2,q2⟩:=zq_
 exact hf v u s2 x y H2 I2 r1 r2 q2
theorem zat {op:Operator} {r:R2} (ho:OpR X (binaryOp op) r) (ha:PE X a ta) (hb:PE X b tb):PE X (.BinOp a op b pos) (tOp r ta tb):=by
 intro pins s σ H Q I h
 exact wpAny_BinOp (binT ha hb I h fun v u s2 x y H2 I2 rx ry q=>ho pins s2 σ H2 x y v u Q I2 rx ry q)
theorem opI {f:Value->Value->Sem Value} {C:Int->Int->Prop} {g:Int->Int->Int}
  (rule:∀ (i j:Int) (t u:Tok) (s:Shared) (Q:Value->Shared->Prop) (E:Value->Shared->Prop),C i j->Q (.int (g i j) s.toks) { s with toks:=s.toks + 1 }->wpAny (model X.prog X.w) X.A (f (.int i t) (.int j u)) Q E s) :
  OpR X f (rI C fun i j=>.int (g i j)):=by
 intro pins s σ H x y v u Q I rx ry h
 obtain ⟨i,j,rfl,rfl,hc,q⟩:=h
 obtain ⟨t,rfl⟩:=rx
 obtain ⟨t',rfl⟩:=ry
 exact rule i j t t' s _ _ hc ⟨.int (g i j),H,I.tok _,⟨_,rfl⟩,q⟩
theorem opI0 {f:Value->Value->Sem Value} {g:Int->Int->Int}
  (rule:∀ (i j:Int) (t u:Tok) (s:Shared) (Q:Value->Shared->Prop) (E:Value->Shared->Prop),Q (.int (g i j) s.toks) { s with toks:=s.toks + 1 }->wpAny (model X.prog X.w) X.A (f (.int i t) (.int j u)) Q E s) :
  OpR X f (rI0 fun i j=>.int (g i j)):=by
 intro pins s σ H x y v u Q I rx ry h
 obtain ⟨i,j,rfl,rfl,q⟩:=h
 obtain ⟨t,rfl⟩:=rx
 obtain ⟨t',rfl⟩:=ry
 exact rule i j t t' s _ _ ⟨.int (g i j),H,I.tok _,⟨_,rfl⟩,q⟩
theorem opB0 {f:Value->Value->Sem Value} {g:Int->Int->Bool}
  (rule:∀ (i j:Int) (t u:Tok) (s:Shared) (Q:Value->Shared->Prop) (E:Value->Shared->Prop),Q (.bool (g i j)) s->wpAny (model X.prog X.w) X.A (f (.int i t) (.int j u)) Q E s) :
  OpR X f (rI0 fun i j=>.bl (g i j)):=by
 intro pins s σ H x y v u Q I rx ry h
 obtain ⟨i,j,rfl,rfl,q⟩:=h
 obtain ⟨t,rfl⟩:=rx
 obtain ⟨t',rfl⟩:=ry
 exact rule i j t t' s _ _ ⟨.bl (g i j),H,I,rfl,q⟩
noncomputable def CPow (i j:Int):Prop:=0 ≤ j∧j ≤ 1000000∧i.natAbs < 2 ^ 64
noncomputable def CMul (i j:Int):Prop:=(-(2 ^ 64) < i∧i < 2 ^ 64) ∨ (-(2 ^ 64) < j∧j < 2 ^ 64)
theorem CMul.ok {i j:Int} (h:CMul i j):IntMulOk i j:=by
 rcases h with ⟨h1,h2⟩ | ⟨h1,h2⟩
 ·exact .of_left (intBits_le_64 h1 h2)
 ·exact .of_right (intBits_le_64 h1 h2)
theorem op_add:OpR X (binaryOp .Add) (rI0 fun i j=>.int (i + j)):=opI0 fun _ _ _ _ _ _ _ q=>add_int q
theorem op_sub:OpR X (binaryOp .Sub) (rI0 fun i j=>.int (i - j)):=opI0 fun _ _ _ _ _ _ _ q=>sub_int q
theorem op_mul:OpR X (binaryOp .Mult) (rI CMul fun i j=>.int (i * j)):=opI fun _ _ _ _ _ _ _ hc q=>mul_int q hc.ok
theorem op_mod:OpR X (binaryOp .Mod) (rI (fun _ j=>0 < j) fun i j=>.int (i % j)):=opI fun i j _ _ _ _ _ hc q=>by
 have h1:(0:Int) < j:=hc
 exact mod_int' (by omega) (by rw [Int.fmod_eq_emod_of_nonneg i (by omega)]; exact q)
theorem op_pow:OpR X (binaryOp .Pow) (rI CPow fun i j=>.int (i ^ j.toNat)):=opI fun _ _ _ _ _ _ _ hc q=>pow_int_small hc.1 hc.2.1 hc.2.2 q
theorem op_shl:OpR X (binaryOp .LShift) (rI CPow fun i j=>.int (i * 2 ^ j.toNat)):=opI fun _ _ _ _ _ _ _ hc q=>lshift_int_small hc.1 hc.2.1 hc.2.2 q
theorem op_or:OpR X (binaryOp .BitOr) (rI0 fun i j=>.int (Builtin.bitOr i j)):=opI0 fun _ _ _ _ _ _ _ q=>or_int q
end
noncomputable def scal:V->V->Bool
 | .non,.non=>true | .non,.int _=>true | .int _,.non=>true | .non,.bl _=>true | .bl _,.non=>true | .non,.str _=>true | .str _,.non=>true
 | .int _,.int _=>true | .bl _,.bl _=>true | .str _,.str _=>true | .byt _,.byt _=>true
 | .int _,.str _=>true | .str _,.int _=>true | .bl _,.str _=>true | .str _,.bl _=>true
 | _,_=>false
noncomputable def rEq:R2:=fun x y H Q=>scal x y = true∧Q (.bl (decide (x = y))) H
noncomputable def rNe:R2:=fun x y H Q=>scal x y = true∧Q (.bl (!decide (x = y))) H
theorem zgt {i j:Int}:decide (V.int i = V.int j) = (i == j):=by
 rw [Bool.eq_iff_iff]
 simp
theorem zhH {i j:Bool}:decide (V.bl i = V.bl j) = (i == j):=by
 rw [Bool.eq_iff_iff]
 simp
theorem zfR {i j:Str}:decide (V.str i = V.str j) = (i == j):=by
 rw [Bool.eq_iff_iff]
 simp
theorem zf0 {i j:Array UInt8}:decide (V.byt i = V.byt j) = (i.toList == j.toList):=by
 rw [Bool.eq_iff_iff]
 cases i
 cases j
 simp
section
variable {X:Cx} {a b c:Expr} {ta tb tc:TE} {pos:Pos}
theorem zaA {pins:List (Addr × Obj)} {σ:St} {H:Hp} {s:Shared} {Q:VK} {k k':Bool} (I:Inv X pins σ H s) (q:Q (.bl k) H) (e:k = k'):EP X pins σ Q (.bool k') s:=by
 subst e
 exact ⟨.bl k,H,I,rfl,q⟩
theorem op_eq:OpR X (compareOp .Eq) rEq:=by
 intro pins s σ H x y v u Q I rx ry h
 obtain ⟨hs,q⟩:=h
 cases x with
 | non =>
  cases rx
  cases y with
  | non=>cases ry; exact PySem.EqNone.eq_none_none (zaA I q (by simp))
  | bl j=>cases ry; exact PySem.EqNone.eq_none_bool (zaA I q (by simp))
  | int j=>obtain ⟨t',rfl⟩:=ry; exact PySem.EqNone.eq_none_int (zaA I q (by simp))
  | str j=>obtain ⟨t',rfl⟩:=ry; exact PySem.EqNone.eq_none_str (zaA I q (by simp))
  | _=>exact absurd (show false = true from hs) Bool.false_ne_true
 | bl i =>
  cases rx
  cases y with
  | non=>cases ry; exact PySem.EqNone.eq_bool_none (zaA I q (by simp))
  | bl j=>cases ry; exact eq_bool (zaA I q zhH)
  | str j=>obtain ⟨t',rfl⟩:=ry; exact PySem.EqMixed.eq_bool_str (zaA I q (by simp))
  | _=>exact absurd (show false = true from hs) Bool.false_ne_true
 | int i =>
  obtain ⟨t,rfl⟩:=rx
  cases y with
  | non=>cases ry; exact PySem.EqNone.eq_int_none (zaA I q (by simp))
  | int j=>obtain ⟨t',rfl⟩:=ry; exact eq_int (zaA I q zgt)
  | str j=>obtain ⟨t',rfl⟩:=ry; exact PySem.EqMixed.eq_int_str (zaA I q (by simp))
  | _=>exact absurd (show false = true from hs) Bool.false_ne_true
 | str i =>
  obtain ⟨t,rfl⟩:=rx
  cases y with
  | non=>cases ry; exact PySem.EqNone.eq_str_none (zaA I q (by simp))
  | bl j=>cases ry; exact PySem.EqMixed.eq_str_bool (zaA I q (by simp))
  | int j=>obtain ⟨t',rfl⟩:=ry; exact PySem.EqMixed.eq_str_int (zaA I q (by simp))
  | str j=>obtain ⟨t',rfl⟩:=ry; exact eq_str (zaA I q zfR)
  | _=>exact absurd (show false = true from hs) Bool.false_ne_true
 | byt i =>
  obtain ⟨t,rfl⟩:=rx
  cases y with
  | byt j=>obtain ⟨t',rfl⟩:=ry; exact PySem.W.eq_bytes (zaA I q zf0)
  | _=>exact absurd (show false = true from hs) Bool.false_ne_true
 | _=>cases y <;> exact absurd (show false = true from hs) Bool.false_ne_true
theorem op_ne:OpR X (compareOp .NotEq) rNe:=by
 intro pins s σ H x y v u Q I rx ry h
 obtain ⟨hs,q⟩:=h
 cases x with
 | non =>
  cases rx
  cases y with
  | non=>cases ry; exact PySem.EqNone.ne_none_none (zaA I q (by simp))
  | bl j=>cases ry; exact PySem.EqNone.ne_none_bool (zaA I q (by simp))
  | int j=>obtain ⟨t',rfl⟩:=ry; exact PySem.EqNone.ne_none_int (zaA I q (by simp))
  | str j=>obtain ⟨t',rfl⟩:=ry; exact PySem.EqNone.ne_none_str (zaA I q (by simp))
  | _=>exact absurd (show false = true from hs) Bool.false_ne_true
 | bl i =>
  cases rx
  cases y with
  | non=>cases ry; exact PySem.EqNone.ne_bool_none (zaA I q (by simp))
  | bl j=>cases ry; exact ne_bool (zaA I q (congrArg not zhH))
  | str j=>obtain ⟨t',rfl⟩:=ry; exact PySem.EqMixed.ne_bool_str (zaA I q (by simp))
  | _=>exact absurd (show false = true from hs) Bool.false_ne_true
 | int i =>
  obtain ⟨t,rfl⟩:=rx
  cases y with
  | non=>cases ry; exact PySem.EqNone.ne_int_none (zaA I q (by simp))
  | int j=>obtain ⟨t',rfl⟩:=ry; exact ne_int (zaA I q (congrArg not zgt))
  | str j=>obtain ⟨t',rfl⟩:=ry; exact PySem.EqMixed.ne_int_str (zaA I q (by simp))
  | _=>exact absurd (show false = true from hs) Bool.false_ne_true
 | str i =>
  obtain ⟨t,rfl⟩:=rx
  cases y with
  | non=>cases ry; exact PySem.EqNone.ne_str_none (zaA I q (by simp))
  | bl j=>cases ry; exact PySem.EqMixed.ne_str_bool (zaA I q (by simp))
  | int j=>obtain ⟨t',rfl⟩:=ry; exact PySem.EqMixed.ne_str_int (zaA I q (by simp))
  | str j=>obtain ⟨t',rfl⟩:=ry; exact ne_str (zaA I q (congrArg not zfR))
  | _=>exact absurd (show false = true from hs) Bool.false_ne_true
 | byt i =>
  obtain ⟨t,rfl⟩:=rx
  cases y with
  | byt j=>obtain ⟨t',rfl⟩:=ry; exact PySem.W.ne_bytes (zaA I q (congrArg not zf0))
  | _=>exact absurd (show false = true from hs) Bool.false_ne_true
 | _=>cases y <;> exact absurd (show false = true from hs) Bool.false_ne_true
theorem op_lt:OpR X (compareOp .Lt) (rI0 fun i j=>.bl (decide (i < j))):=opB0 fun _ _ _ _ _ _ _ q=>lt_int q
theorem op_gt:OpR X (compareOp .Gt) (rI0 fun i j=>.bl (decide (j < i))):=opB0 fun _ _ _ _ _ _ _ q=>gt_int q
theorem zaw (b:Expr) {op:CmpOp} (h:op ≠ .In:=by decide) (h2:op ≠ .NotIn:=by decide):behindInMarks op b = false:=by
 have e1:(op == CmpOp.In) = false:=by cases op <;> first | rfl | exact absurd rfl h
 have e2:(op == CmpOp.NotIn) = false:=by cases op <;> first | rfl | exact absurd rfl h2
 cases b <;> simp [behindInMarks,e1,e2]
theorem zbM {op:CmpOp} {r:R2} (ho:OpR X (compareOp op) r) (ha:PE X a ta) (hb:PE X b tb) (hm:behindInMarks op b = false):PE X (.Compare a [op] [b] pos) (tOp r ta tb):=by
 intro pins s σ H Q I h
 exact wpAny_Compare1 (binT ha hb I h fun v u s2 x y H2 I2 rx ry q=>ho pins s2 σ H2 x y v u Q I2 rx ry q) hm
noncomputable def zeq (t:TE):TT:=fun σ H Q=>t σ H fun x H'=>∃ k,x = .bl k∧Q k H'
theorem zar {op:CmpOp} {r:R2} (ho:OpR X (compareOp op) r) (ha:PE X a ta) (hb:PE X b tb) (hm:behindInMarks op b = false):PT X (.Compare a [op] [b] pos) (zeq (tOp r ta tb)):=by
 intro pins s σ H Q I h
 refine wpAny_isTrue_Compare1 (thn (ha pins s σ H _ I h) fun v s1 ⟨x,H1,I1,r1,q1⟩=>thn (hb pins s1 σ H1 _ I1 q1) fun u s2 ⟨y,H2,I2,r2,q2⟩ =>
  thn (ho pins s2 σ H2 x y v u _ I2 r1 r2 q2) fun c s3 ⟨z,H3,I3,r3,k,e,q3⟩=>?_) hm
 subst e
 cases r3
 exact wpAny_truthy_bool ⟨H3,I3,q3⟩
noncomputable def zhJ (r r':R2) (ta tb tc:TE):TE:=fun σ H Q=>ta σ H fun x H1=>tb σ H1 fun y H2=>r x y H2 fun z H3=>∃ k,z = .bl k ∧
 (if k = true then tc σ H3 fun w' H4=>r' y w' H4 Q else Q (.bl false) H3)
theorem line63:(sizeLine:Nat) < 2 ^ 63:=by rw [sizeLine_eq]; decide
theorem zcZ {x:V} {us:List Value} (r:Vals [x] us):∃ u,us = [u]∧RelV x u:=by
 cases r with
 | cons r1 r2=>cases r2; exact ⟨_,rfl,r1⟩
theorem zh6 {x y:V} {us:List Value} (r:Vals [x,y] us):∃ u w',us = [u,w']∧RelV x u∧RelV y w':=by
 cases r with
 | cons r1 r2 =>
  cases r2 with
  | cons r3 r4=>cases r4; exact ⟨_,_,rfl,r1,r3⟩
theorem call_abs:zbN X (.builtin "abs") (fun xs H Q=>∃ i,xs = [.int i]∧Q (.int (if i < 0 then -i else i)) H):=by
 intro pins s σ H xs us Q I r h
 obtain ⟨i,rfl,q⟩:=h
 obtain ⟨u,rfl,t,rfl⟩:=zcZ r
 exact call_abs_int fun u tk=>⟨.int (if i < 0 then -i else i),H,I.tok _,⟨_,rfl⟩,q⟩
theorem zfS (hc:X.calm = true):zbN X (.builtin "max") (fun xs H Q=>∃ i j,xs = [.int i,.int j]∧Q (.int (if j > i then j else i)) H):=by
 intro pins s σ H xs us Q I r h
 obtain ⟨i,j,rfl,q⟩:=h
 obtain ⟨u,w',rfl,⟨t,rfl⟩,⟨t',rfl⟩⟩:=zh6 r
 refine max_two_ints (I.ok.hd hc) fun h' tk k=>⟨_,H,I.kept k,?_,q⟩
 by_cases hj:j > i
 ·rw [if_pos hj,if_pos hj]; exact ⟨_,rfl⟩
 ·rw [if_neg hj,if_neg hj]; exact ⟨_,rfl⟩
theorem call_int1:zbN X (.type "int") (fun xs H Q=>(∃ i,xs = [.int i]∧Q (.int i) H) ∨ ∃ k,xs = [.bl k]∧Q (.int (if k then 1 else 0)) H):=by
 intro pins s σ H xs us Q I r h
 rcases h with ⟨i,rfl,q⟩ | ⟨k,rfl,q⟩
 ·obtain ⟨u,rfl,t,rfl⟩:=zcZ r
  exact call_int_int ⟨.int i,H,I,⟨_,rfl⟩,q⟩
 ·obtain ⟨u,rfl,r1⟩:=zcZ r
  cases r1
  exact call_int_bool ⟨.int (if k then 1 else 0),H,I.tok _,⟨_,rfl⟩,q⟩
noncomputable def LenV (K:PySem.W.Frag) (x:V) (H:Hp) (n:Nat):Prop :=
 match x with
 | .str y=>y.length ≤ sizeLine∧n = y.length
 | .byt y=>y.size ≤ sizeLine∧n = y.size
 | .ref p=>(∃ xs,SqL K H p xs∧n = xs.length) ∨ ∃ xs,SqT K H p xs∧n = xs.length
 | _=>False
theorem call_len:zbN X (.builtin "len") (fun xs H Q=>∃ x n,xs = [x]∧LenV X.K x H n∧Q (.int n) H):=by
 intro pins s σ H xs us Q I r h
 obtain ⟨x,n,rfl,e,q⟩:=h
 obtain ⟨u,rfl,rx⟩:=zcZ r
 have hl:=line63
 have hs:sizeLine = 16777216:=sizeLine_eq
 cases x with
 | str y =>
  obtain ⟨t,rfl⟩:=rx
  obtain ⟨hy,e'⟩:y.length ≤ sizeLine∧n = y.length:=e
  subst e'
  exact len_str (by omega) ⟨.int _,H,I.tok _,⟨_,rfl⟩,q⟩
 | byt y =>
  obtain ⟨t,rfl⟩:=rx
  obtain ⟨hy,e'⟩:y.size ≤ sizeLine∧n = y.size:=e
  subst e'
  exact PySem.W.len_bytes (by omega) ⟨.int _,H,I.tok _,⟨_,rfl⟩,q⟩
 | ref p =>
  cases rx
  have e':(∃ xs,SqL X.K H p xs∧n = xs.length) ∨ ∃ xs,SqT X.K H p xs∧n = xs.length:=e
  rcases e' with ⟨xs,hx,e'⟩ | ⟨xs,hx,e'⟩
  ·subst e'
   obtain ⟨its,r',pl,hz⟩:=I.list hx
   have hlen:=r'.length
   exact Calls.call_len_list pl.isList (by simp only [List.size_toArray]; omega) ⟨.int xs.length,H,I.tok _,⟨_,by simp only [List.size_toArray]; rw [hlen]⟩,q⟩
  ·subst e'
   obtain ⟨its,r',pl,hz⟩:=I.tuple hx
   have hlen:=r'.length
   exact len_tuple pl (by simp only [List.size_toArray]; omega) ⟨.int xs.length,H,I.tok _,⟨_,by simp only [List.size_toArray]; rw [hlen]⟩,q⟩
 | _=>exact (show False from e).elim
end
end L2
namespace L2
open PySem PySem.Spec PyProof.Rows
structure ObjM (h:Heap) (x dx C:Addr) (mA:Str->Option Value):Prop where
 obj:h.get? x = some (PySem.W.instObj C dx)
 ns:h.Ns1 dx mA
 ne:dx ≠ x
theorem zgH {h:Heap} {dx:Addr} {mA:Str->Option Value} (n:h.Ns1 dx mA):∃ od,h.get? dx = some od∧∀ name,PySem.W.lookIn name od = some (mA name):=by
 obtain ⟨o,es,ep,ho,hd,hk,_,hm⟩:=n
 refine ⟨o,ho,fun name=>?_⟩
 have e:=hm name
 unfold nsFind findBy at e
 rw [← Array.find?_toList] at e
 unfold PySem.W.lookIn
 rw [hd]
 dsimp only
 split
 ·rename_i y q
  rw [q] at e
  exact congrArg some e
 ·rename_i q
  rw [q] at e
  have a:es.toList.any (·.refKey) = false:=by
   rw [List.any_eq_false]
   intro y hy
   obtain ⟨z,t,hkey⟩:=hk y (Array.mem_toList_iff.mp hy)
   simp [DictEntry.refKey,hkey]
  have a':¬ es.toList.any (·.refKey) = true:=by rw [a]; exact Bool.false_ne_true
  rw [if_neg a']
  exact congrArg some e
theorem ObjM.look {h:Heap} {x dx C:Addr} {mA:Str->Option Value} (I:ObjM h x dx C mA):∃ od,PySem.W.InstAt h x (PySem.W.instObj C dx) C (some od)∧∀ name,PySem.W.lookIn name od = some (mA name) :=
 let ⟨od,ho,hl⟩:=zgH I.ns
 ⟨od,⟨I.obj,rfl,rfl,ho⟩,hl⟩
section
variable {prog:Program} {w:World} {A:Around} {E:Value->Shared->Prop} {s:Shared} {K:PySem.W.Frag} {x dx C f:Addr} {mA:Str->Option Value} {name:Str} {v:Value}
theorem zhX {expr:Bool} {Q:Value->Shared->Prop} (X:K.In s.heap) (I:ObjM s.heap x dx C mA) (hg:PySem.W.plainGet K C name = true) (hh:PySem.W.hasDictIn K C = true)
  (ha:PySem.W.findIn K (.ref C) name = some none) (hv:mA name = some v) (hv':PySem.W.handedIn v = true) (h:Q v { s with toks:=s.toks + 1 }) :
  wpAny (model prog w) A (getAttr (.ref x) name expr) Q E s:=by
 obtain ⟨od,J,hl⟩:=I.look
 exact PySem.W.get_value X J (PySem.W.plainGet_of hg).1 (PySem.W.findObj_own hh ha rfl (by rw [hl,hv])) hv' h
theorem zg5 {pl:Sem Bool} {Q:Value × List Value->Shared->Prop} (X:K.In s.heap) (I:ObjM s.heap x dx C mA) (hg:PySem.W.plainGet K C name = true)
  (hf:PySem.W.findIn K (.ref C) name = some (some (.ref f))) (ht:PySem.W.isFn K (.ref f) = true) (hv:mA name = none) (h:Q (.ref f,[.ref x]) s) :
  wpAny (model prog w) A (getMethod (.ref x) name pl) Q E s:=by
 obtain ⟨od,J,hl⟩:=I.look
 exact PySem.W.method_fn X J (PySem.W.plainGet_of hg).1 (PySem.W.plainGet_of hg).2 hf (beq_iff_eq.mp ht) (by show (PySem.W.lookIn name od).map (·.isSome) = some false; rw [hl,hv]; rfl) h
theorem ziq {ns:List Str} {Q:Unit->Shared->Prop} (X:K.In s.heap) (I:ObjM s.heap x dx C mA)
  (hs:PySem.W.findIn K (.ref C) "__setattr__" = some (some (.builtin "object.__setattr__"))) (hp:PySem.W.plainOver K C = true) (ht:PySem.W.takerIn K C name = some none) (hh:PySem.W.hasDictIn K C = true)
  (hw:PySem.Within mA ns) (hsz:ns.length ≤ sizeLine)
  (h:∀ h',ObjM h' x dx C (fun y=>if y = name then some v else mA y)->Heap.SameBut dx s.heap h'->Q () { s with heap:=h',toks:=s.toks + 2 }) :
  wpAny (model prog w) A (setAttr (.ref x) name v) Q E s:=by
 obtain ⟨od,J,hl⟩:=I.look
 refine PySem.W.set_plain X J hs (PySem.W.osa_open (s:={ s with toks:=s.toks + 1 }) (r:=none) X J hp ht fun b=>?_)
 obtain ⟨cd,hc,hd'⟩:=PySem.W.any_some hh
 have hx:s.heap.get? x = some ⟨.ref C,some dx,.plain,#[]⟩:=I.obj
 refine wpAny_bind (wpAny_pure (wpAny_bind (wpAny_bind (wpAny_loadPart hx (wpAny_bind (PySem.W.Looks.here (s:={ s with toks:=s.toks + 1 }) (PySem.W.looks_clsIn X hc) ?_))))))
 rw [hd']
 refine wpAny_pure (a:=some dx) (wpAny_bind (wpAny_pure (wpAny_bind ?_)))
 refine wpAny_nsSet1 (s:={ s with toks:=s.toks + 1 }) I.ns fun h' hn2 hs2=>?_
 obtain ⟨oD,esD,epD,hoD,hdD,hcD⟩:=hn2.count (PySem.Within.cons name v hw)
 refine wpAny_bind (wpAny_lookBehind hoD (by rw [hdD]; exact pastItsLine_dict (Nat.le_trans hcD (by rw [List.length_cons]; omega))) ?_)
 exact wpAny_pure (h _ ⟨(hs2.2 _ (Ne.symm I.ne)).trans I.obj,hn2,I.ne⟩ hs2)
theorem zhc {R:Result->Shared->Prop} {vs:List Value} {kw:List (Str × Value)} (X:K.In s.heap) (hm:PySem.W.makesIn K C = true)
  (hi:PySem.W.findIn K (.ref C) "__init__" = some (some (.ref f))) (hf:PySem.W.typeIn K (.ref f) = some (.type "function"))
  (h:codeAny (model prog w) (A.under (.builtin "type.__call__" ⟨.ref C :: vs,kw⟩)) (.call (.ref f) ⟨.ref (s.heap.objs.size + 1) :: vs,kw⟩) (PySem.W.InitBack (s.heap.objs.size + 1) R)
   { s with heap:=(s.heap.push PySem.W.emptyDict).push (PySem.W.instObj C s.heap.objs.size) }) :
  codeAny (model prog w) A (.call (.ref C) ⟨vs,kw⟩) R s:=by
 obtain ⟨hh,g,d,t,os⟩:=s
 exact PySem.W.make_core (PySem.W.makes_of X hm) (PySem.W.looks_findIn X hi) (fun self=>PySem.W.bind_fn X self hf) (.inl rfl) h
end
noncomputable def putF (f:Str) (v:V):List (Str × V)->List (Str × V)
 | []=>[(f,v)]
 | (g,x) :: r=>if g = f then (g,v) :: r else (g,x) :: putF f v r
theorem zcH (f g:Str) (v:V):∀ fs:List (Str × V),(putF f v fs).lookup g = if g = f then some v else fs.lookup g
 | []=>by
  show List.lookup g [(f,v)] = _
  by_cases h:g = f
  ·have hb:(g == f) = true:=beq_iff_eq.mpr h
   simp only [List.lookup,hb,if_pos h]
  ·have hb:(g == f) = false:=beq_eq_false_iff_ne.mpr h
   simp only [List.lookup,hb,if_neg h]
 | (k,x) :: r=>by
  have ih:=zcH f g v r
  rw [show putF f v ((k,x) :: r) = (if k = f then (k,v) :: r else (k,x) :: putF f v r) from rfl]
  by_cases hk:k = f
  ·rw [if_pos hk]
   by_cases h:g = k
   ·have hb:(g == k) = true:=beq_iff_eq.mpr h
    simp only [List.lookup,hb,if_pos (h.trans hk)]
   ·have hb:(g == k) = false:=beq_eq_false_iff_ne.mpr h
    simp only [List.lookup,hb,if_neg (fun e:g = f=>h (e.trans hk.symm))]
  ·rw [if_neg hk]
   by_cases h:g = k
   ·have hb:(g == k) = true:=beq_iff_eq.mpr h
    simp only [List.lookup,hb,if_neg (fun e:g = f=>hk (h.symm.trans e))]
   ·have hb:(g == k) = false:=beq_eq_false_iff_ne.mpr h
    simp only [List.lookup,hb]
    exact ih
theorem zcN (f:Str) (v:V):∀ fs:List (Str × V),f ∈ (putF f v fs).map (·.1)∧∀ g,g ∈ fs.map (·.1)->g ∈ (putF f v fs).map (·.1)
 | []=>⟨by simp [putF],fun g h=>by simp at h⟩
 | (k,x) :: r=>by
  obtain ⟨i1,i2⟩:=zcN f v r
  rw [show putF f v ((k,x) :: r) = (if k = f then (k,v) :: r else (k,x) :: putF f v r) from rfl]
  by_cases hk:k = f
  ·rw [if_pos hk]
   subst hk
   exact ⟨by simp,fun g h=>by simpa using h⟩
  ·rw [if_neg hk]
   refine ⟨?_,fun g h=>?_⟩
   ·rw [List.map_cons]
    exact List.mem_cons_of_mem _ i1
   ·rw [List.map_cons] at h ⊢
    rcases List.mem_cons.mp h with e | e
    ·exact List.mem_cons.mpr (.inl e)
    ·exact List.mem_cons_of_mem _ (i2 g e)
theorem zcI (f:Str) (v:V):∀ fs:List (Str × V),(putF f v fs).length ≤ fs.length + 1
 | []=>by simp [putF]
 | (k,x) :: r=>by
  have ih:=zcI f v r
  rw [show putF f v ((k,x) :: r) = (if k = f then (k,v) :: r else (k,x) :: putF f v r) from rfl]
  by_cases hk:k = f
  ·rw [if_pos hk,List.length_cons,List.length_cons]; omega
  ·rw [if_neg hk,List.length_cons,List.length_cons]; omega
theorem RelO.some_of {v:V} {o:Option Value} (r:RelO (some v) o):∃ u,o = some u∧RelV v u:=by
 cases o with
 | none=>exact (show False from r).elim
 | some u=>exact ⟨u,rfl,r⟩
theorem RelO.none_of {o:Option Value} (r:RelO none o):o = none:=by
 cases o with
 | none=>rfl
 | some u=>exact (show False from r).elim
theorem zgA {v:V} {u:Value} (r:RelV v u):PySem.W.handedIn u = true:=by
 cases v with
 | non=>cases (show u = Value.none from r); rfl
 | bl b=>cases (show u = Value.bool b from r); rfl
 | int i=>obtain ⟨t,e⟩:=(show ∃ t,u = Value.int i t from r); cases e; rfl
 | str x=>obtain ⟨t,e⟩:=(show ∃ t,u = Value.str x t from r); cases e; rfl
 | byt b=>obtain ⟨t,e⟩:=(show ∃ t,u = Value.bytes b t from r); cases e; rfl
 | flt b=>obtain ⟨t,e⟩:=(show ∃ t,u = Value.float b t from r); cases e; rfl
 | ref a=>cases (show u = Value.ref a from r); rfl
 | ty n=>cases (show u = Value.type n from r); rfl
section
variable {P:Program} {w:World} {H H':Hp} {h h':Heap} {a C dx:Addr} {fs fs':List (Str × V)}
theorem zdD (hok:HOk P w H h) (e:H a = some (.ins C dx fs)):∃ mA,ObjM h a dx C mA∧(∀ f,RelO (fs.lookup f) (mA f))∧PySem.Within mA (fs.map (·.1))∧fs.length ≤ 1000∧H dx = some (.own a):=by
 obtain ⟨d,z,ne,ob,mA,n,r,q⟩:=(show zaY P w H h a (.ins C dx fs) from hok a _ e)
 exact ⟨mA,⟨ob,n,ne⟩,r,q,z,d⟩
end
structure Cls (K:PySem.W.Frag) (C:Addr):Prop where
 pg:PySem.W.plainGet K C Str.empty = true
 hd:PySem.W.hasDictIn K C = true
 po:PySem.W.plainOver K C = true
 sa:PySem.W.findIn K (.ref C) "__setattr__" = some (some (.builtin "object.__setattr__"))
theorem Cls.get {K:PySem.W.Frag} {C:Addr} (c:Cls K C) (f:Str):PySem.W.plainGet K C f = true:=c.pg
noncomputable def zbX (K:PySem.W.Frag) (C:Addr) (f:Str):Prop:=PySem.W.findIn K (.ref C) f = some none
theorem zbX.taker {K:PySem.W.Frag} {C:Addr} {f:Str} (n:zbX K C f):PySem.W.takerIn K C f = some none:=by
 unfold PySem.W.takerIn
 rw [show PySem.W.findIn K (.ref C) f = some none from n]
 rfl
structure Meth (K:PySem.W.Frag) (C:Addr) (m:Str) (f:Addr):Prop where
 at_:PySem.W.findIn K (.ref C) m = some (some (.ref f))
 fn:PySem.W.isFn K (.ref f) = true
 kp:PySem.W.keepIn K (.ref f) = true
section
variable {X:Cx} {pins:List (Addr × Obj)} {σ:St} {H:Hp} {s:Shared} {a C dx:Addr} {fs:List (Str × V)} {f:Str} {v:V} {A:Around} {E:Value->Shared->Prop}
theorem zfA {b:Bool} {Q:Value->Shared->Prop} (I:Inv X pins σ H s) (e:H a = some (.ins C dx fs)) (c:Cls X.K C) (n:zbX X.K C f) (l:fs.lookup f = some v)
  (h:∀ u s',Inv X pins σ H s'->RelV v u->Q u s'):wpAny (model X.prog X.w) A (getAttr (.ref a) f b) Q E s:=by
 obtain ⟨mA,O,r,_,_,_⟩:=zdD I.hok e
 obtain ⟨u,hu,ru⟩:=RelO.some_of (v:=v) (o:=mA f) (by rw [← l]; exact r f)
 exact zhX I.kIn O (c.get f) c.hd n hu (zgA ru) (h u _ (I.tok _) ru)
theorem zfy {m:Str} {g:Addr} {pl:Sem Bool} {Q:Value × List Value->Shared->Prop} (I:Inv X pins σ H s) (e:H a = some (.ins C dx fs)) (c:Cls X.K C) (k:Meth X.K C m g) (l:fs.lookup m = none)
  (h:Q (.ref g,[.ref a]) s):wpAny (model X.prog X.w) A (getMethod (.ref a) m pl) Q E s:=by
 obtain ⟨mA,O,r,_,_,_⟩:=zdD I.hok e
 have hn:mA m = none:=RelO.none_of (by rw [← l]; exact r m)
 exact zg5 I.kIn O (c.get m) k.at_ k.fn hn h
theorem zfn {y:V} {u:Value} {Q:Unit->Shared->Prop} (I:Inv X pins σ H s) (e:H a = some (.ins C dx fs)) (c:Cls X.K C) (n:zbX X.K C f) (hl:fs.length < 1000) (ry:RelV y u)
  (h:∀ s',Inv X pins σ (upd H a (.ins C dx (putF f y fs))) s'->Q () s'):wpAny (model X.prog X.w) A (setAttr (.ref a) f u) Q E s:=by
 obtain ⟨mA,O,r,wi,_,ho⟩:=zdD I.hok e
 have hz:(fs.map (·.1)).length ≤ sizeLine:=by rw [List.length_map,sizeLine_eq]; omega
 refine ziq I.kIn O c.sa c.po n.taker c.hd wi hz fun h' O' sb=>h _ ?_
 have hd:∃ o,h'.get? dx = some o:=let ⟨o,_,_,e',_⟩:=O'.ns; ⟨o,e'⟩
 refine I.write (x:=a) (e:=dx) (by rw [e]; exact True.intro) (.inr ho) (fun b q hb z=>(sb.2 b hb).trans z) hd ?_
 refine ⟨by rw [zag O.ne]; exact ho,?_,O.ne,O'.obj,_,O'.ns,fun g=>?_,fun g hg=>?_⟩
 ·have:=zcI f y fs; omega
 ·show RelO ((putF f y fs).lookup g) (if g = f then some u else mA g)
  rw [zcH]
  by_cases q:g = f
  ·rw [if_pos q,if_pos q]; exact ry
  ·rw [if_neg q,if_neg q]; exact r g
 ·by_cases q:g = f
  ·rw [q]; exact (zcN f y fs).1
  ·refine (zcN f y fs).2 g (wi g fun z=>hg ?_)
   show (if g = f then some u else mA g) = none
   rw [if_neg q]; exact z
theorem Inv.made (I:Inv X pins σ H s):Inv X pins σ (upd (upd H s.heap.objs.size (.own (s.heap.objs.size + 1))) (s.heap.objs.size + 1) (.ins C s.heap.objs.size []))
  { s with heap:=(s.heap.push PySem.W.emptyDict).push (PySem.W.instObj C s.heap.objs.size) }:=by
 have e1:(s.heap.push PySem.W.emptyDict).get? s.heap.objs.size = some PySem.W.emptyDict:=Heap.get?_push_size s.heap rfl
 have e2:((s.heap.push PySem.W.emptyDict).push (PySem.W.instObj C s.heap.objs.size)).get? (s.heap.objs.size + 1) = some (PySem.W.instObj C s.heap.objs.size):=by
  have:=Heap.get?_push_size (s.heap.push PySem.W.emptyDict) (o:=PySem.W.instObj C s.heap.objs.size) rfl
  rwa [Heap.size_push] at this
 have e3:(s.heap.push PySem.W.emptyDict).Ns s.heap.objs.size (fun _=>none):=⟨PySem.W.emptyDict,#[],_,e1,rfl,(fun e he=>absurd he (by simp)),fun _=>rfl⟩
 have I1:=I.laid (a:=s.heap.objs.size) (o:=.own (s.heap.objs.size + 1)) (h':=s.heap.push PySem.W.emptyDict) (t':=s.toks) (fun b u q=>Heap.get?_push_of_some _ q) (Nat.le_refl _) ⟨_,e1⟩
 refine I1.laid (a:=s.heap.objs.size + 1) (o:=.ins C s.heap.objs.size []) (t':=s.toks) (fun b u q=>Heap.get?_push_of_some _ q) (Nat.le_of_eq (Heap.size_push _ _)) ?_
 have ne:s.heap.objs.size ≠ s.heap.objs.size + 1:=Nat.ne_of_lt (Nat.lt_succ_self _)
 refine ⟨by rw [zag ne,zad],Nat.zero_le _,ne,e2,fun _=>none,(Heap.Ns1.of_empty e3).at fun o q=>Heap.get?_push_of_some _ q,fun _=>True.intro,fun y hy=>absurd rfl hy⟩
theorem zio {prog:Program} {w:World} {env:Env} {e:Expr} {f:Str} {pos:Pos} {s:Shared} {Q:Value->Shared->Prop} (hb:attributeBase e f env (eval e env) = eval e env)
  (h:wpAny (model prog w) A (eval e env) (fun o s₁=>wpAny (model prog w) A (getAttr o f true) Q E s₁) E s):wpAny (model prog w) A (eval (.Attribute e f pos) env) Q E s :=
 Attribute_any_ h (by rw [arm_eval_Attribute,hb])
end
noncomputable def tFld (K:PySem.W.Frag) (ta:TE) (f:Str):TE:=fun σ H Q=>ta σ H fun x H1=>∃ a C dx fs v,x = .ref a∧H1 a = some (.ins C dx fs)∧Cls K C∧zbX K C f∧fs.lookup f = some v∧Q v H1
noncomputable def sFld (K:PySem.W.Frag) (ta tv:TE) (f:Str):TS:=fun D σ H=>tv σ H fun y H1=>ta σ H1 fun x H2=>∃ a C dx fs,x = .ref a∧H2 a = some (.ins C dx fs)∧Cls K C∧zbX K C f∧fs.length < 1000 ∧
 D.nx σ (upd H2 a (.ins C dx (putF f y fs)))
section
variable {X:Cx} {o e value:Expr} {f:Str} {pos pos' tpos:Pos} {ta tv:TE}
theorem za5 (he:PE X e ta) (hb:attributeBase e f X.env (eval e X.env) = eval e X.env):PE X (.Attribute e f pos) (tFld X.K ta f):=by
 intro pins s σ H Q I h
 refine zio hb (thn (he pins s σ H _ I h) fun u s1 zq_=>?_)
 obtain ⟨x,H1,I1,rx,a,C,dx,fs,v,ex,ea,c,n,l,q⟩:=zq_
 subst ex
 obtain rfl:u = Value.ref a:=rx
 exact zfA I1 ea c n l fun u' s2 I2 ru=>⟨v,H1,I2,ru,q⟩
theorem zfe (ha:PE X o ta) (hv:PE X value tv) (hs:swapsWith value (some (.Attribute o f pos')) pos.line X.env = pure false):PS X (.Assign [.Attribute o f pos'] value pos) (sFld X.K ta tv f):=by
 intro pins s σ H D I h
 refine plainObj_wpAny_Assign_Attribute (thn (hv pins s σ H _ I h) fun u s1 ⟨y,H1,I1,ry,q⟩=>thn (ha pins s1 σ H1 _ I1 q) fun ov s2 zq_=>?_) hs
 obtain ⟨x,H2,I2,rx,a,C,dx,fs,ex,ea,c,n,l,q2⟩:=zq_
 subst ex
 obtain rfl:ov = Value.ref a:=rx
 exact zfn I2 ea c n l ry fun s3 I3=>⟨σ,_,I3,q2⟩
end
section
variable {X:Cx} {pins:List (Addr × Obj)} {σ:St} {H:Hp} {s:Shared} {A:Around} {E:Value->Shared->Prop} {Q:Value->Shared->Prop} {c:Value} {b:Bool}
inductive TyOf (K:PySem.W.Frag) (H:Hp):V->Value->Prop where
 | non:TyOf K H .non (.type "NoneType")
 | bl (x:Bool):TyOf K H (.bl x) (.type "bool")
 | int (i:Int):TyOf K H (.int i) (.type "int")
 | str (x:Str):TyOf K H (.str x) (.type "str")
 | flt (x:UInt64):TyOf K H (.flt x) (.type "float")
 | lst {a:Addr} {xs:List V} (e:H a = some (.lst xs)):TyOf K H (.ref a) (.type "list")
 | frz {a:Addr} {o:Obj} {xs:List V} (e:H a = some (.frz o (.lst xs))):TyOf K H (.ref a) (.type "list")
 | tup {a:Addr} {xs:List V} (e:H a = some (.tup xs)):TyOf K H (.ref a) (.type "tuple")
 | dK {a:Addr} {kvs:List (Key × V)} (e:H a = some (.dK kvs)):TyOf K H (.ref a) (.type "dict")
 | dT {a:Addr} {kvs:List (List Key × V)} (e:H a = some (.dT kvs)):TyOf K H (.ref a) (.type "dict")
 | ins {a C dx:Addr} {fs:List (Str × V)} (e:H a = some (.ins C dx fs)) (cl:Cls K C) (ha:PySem.W.findIn K (.ref C) "__class__" = some (some (.builtin "object.__class__")))
   (hn:PySem.W.specialIn K (.builtin "object.__class__") "__get__" = some (some (.builtin "getset_descriptor.__get__"))) (htk:PySem.W.takesIn K (.builtin "object.__class__") = some true)
   (hm:PySem.W.mroIn K C (.type "object") = some true):TyOf K H (.ref a) (.ref C)
theorem zfH {x:V} {u t:Value} (I:Inv X pins σ H s) (rx:RelV x u) (ty:TyOf X.K H x t) (e:PySem.W.kitOne X.K t c = some b) (h:∀ tk,Q (.bool b) { s with toks:=tk }) :
  wpAny (model X.prog X.w) A (call (.builtin "isinstance") [u,c]) Q E s:=by
 cases ty with
 | non=>cases (show u = Value.none from rx); exact PySem.W.kia_one PySem.W.kitx_none I.kIn True.intro e (fun z=>nomatch z) h
 | bl y=>cases (show u = Value.bool y from rx); exact PySem.W.kia_one PySem.W.kitx_bool I.kIn True.intro e (fun z=>nomatch z) h
 | int i=>obtain ⟨t,q⟩:=(show ∃ t,u = Value.int i t from rx); cases q; exact PySem.W.kia_one PySem.W.kitx_int I.kIn True.intro e (fun z=>nomatch z) h
 | str y=>obtain ⟨t,q⟩:=(show ∃ t,u = Value.str y t from rx); cases q; exact PySem.W.kia_one PySem.W.kitx_str I.kIn True.intro e (fun z=>nomatch z) h
 | flt y=>obtain ⟨t,q⟩:=(show ∃ t,u = Value.float y t from rx); cases q; exact PySem.W.kia_one PySem.W.kitx_float I.kIn True.intro e (fun z=>nomatch z) h
 | @lst a xs ea =>
  cases (show u = Value.ref a from rx)
  obtain ⟨_,_,n,_,h1⟩:=(show zaY X.prog X.w H s.heap a (.lst xs) from I.hok a _ ea)
  exact PySem.W.kia_one PySem.W.kitx_list I.kIn ⟨_,h1,rfl⟩ e (fun z=>nomatch z) h
 | @frz a ob xs ea =>
  cases (show u = Value.ref a from rx)
  obtain ⟨_,_,_,n,_,h1⟩:=(show zaY X.prog X.w H s.heap a (.frz ob (.lst xs)) from I.hok a _ ea)
  exact PySem.W.kia_one PySem.W.kitx_list I.kIn ⟨_,h1,rfl⟩ e (fun z=>nomatch z) h
 | @tup a xs ea =>
  cases (show u = Value.ref a from rx)
  obtain ⟨_,_,_,p⟩:=(show zaY X.prog X.w H s.heap a (.tup xs) from I.hok a _ ea)
  obtain ⟨o,h1,h2,_⟩:=p
  exact PySem.W.kia_one PySem.W.kitx_tuple I.kIn ⟨o,h1,h2⟩ e (fun z=>nomatch z) h
 | @dK a kvs ea =>
  cases (show u = Value.ref a from rx)
  obtain ⟨_,_,vs,_,p⟩:=(show zaY X.prog X.w H s.heap a (.dK kvs) from I.hok a _ ea)
  obtain ⟨o,es,ep,h1,h2,_⟩:=p
  exact PySem.W.kia_one PySem.W.kitx_dict I.kIn ⟨o,h1,h2.1⟩ e (fun z=>nomatch z) h
 | @dT a kvs ea =>
  cases (show u = Value.ref a from rx)
  obtain ⟨_,_,xs,_,o,es,ep,h1,h2,_⟩:=(show zaY X.prog X.w H s.heap a (.dT kvs) from I.hok a _ ea)
  exact PySem.W.kia_one PySem.W.kitx_dict I.kIn ⟨o,h1,h2.1⟩ e (fun z=>nomatch z) h
 | @ins a C dx fs ea cl ha hn htk hm =>
  cases (show u = Value.ref a from rx)
  obtain ⟨mA,O,_⟩:=zdD I.hok ea
  obtain ⟨od,J,_⟩:=O.look
  exact PySem.W.kia_one (PySem.W.kitx_own (cl.get _) cl.hd ha hn htk hm) I.kIn J e (fun z=>nomatch z) h
end
end L2
namespace L2
open PySem PySem.Spec PyProof.Rows
structure Room (k:Nat) (A:Around):Prop where
 hd:A.handled = none
 dp:A.depth + 3 * k + 5 < recursionLimit
 un:A.units + 16 * k + 200 < cLine
theorem Room.mono {j k:Nat} {A:Around} (r:Room k A) (h:j ≤ k):Room j A:=⟨r.hd,by have:=r.dp; omega,by have:=r.un; omega⟩
theorem Room.deeper {k:Nat} {A:Around} (r:Room (k + 1) A) (env:Env):Room k (A.deeper env) :=
 ⟨r.hd,by have:=r.dp; show A.depth + 1 + 3 * k + 5 < _; omega,by have:=r.un; show A.units + 3 + 16 * k + 200 < _; omega⟩
theorem zfo {A:Around} {C:Addr} {us:List Value} {kw:List (Str × Value)}:(A.under (.builtin "type.__call__" ⟨.ref C :: us,kw⟩)).depth = A.depth + 1:=by
 first | rfl | simp [Around.under,Code.weight,Code.isCreation,Code.isGuard,Code.isCaller,Code.frames,Code.isFrame,guardIds]
theorem zfp {A:Around} {C:Addr} {us:List Value} {kw:List (Str × Value)}:(A.under (.builtin "type.__call__" ⟨.ref C :: us,kw⟩)).units = A.units + 1:=by
 first | rfl | simp [Around.under,Code.cUnits,Code.frames,Code.isFrame]
theorem Room.make {k:Nat} {A:Around} (r:Room (k + 1) A) (C:Addr) (us:List Value) (kw:List (Str × Value)):Room k (A.under (.builtin "type.__call__" ⟨.ref C :: us,kw⟩)) :=
 ⟨r.hd,by have:=r.dp; rw [zfo]; omega,by have:=r.un; rw [zfp]; omega⟩
theorem Room.depth {k:Nat} {A:Around} (r:Room k A):A.depth < recursionLimit:=by have:=r.dp; omega
theorem Room.units {k:Nat} {A:Around} (r:Room k A):A.units + 64 < cLine:=by have:=r.un; omega
noncomputable def tNil:TA:=fun _ H Q=>Q [] H
noncomputable def zcn (ta:TE) (tr:TA):TA:=fun σ H Q=>ta σ H fun x H1=>tr σ H1 fun xs H2=>Q (x :: xs) H2
section
variable {X:Cx} {e:Expr} {es:List Expr} {te:TE} {t:TA} {pos:Pos}
theorem pa_nil:PA X [] tNil:=fun _ _ _ _ H Q I h=>Calls.spliced_nil ⟨[],H,I,.nil,h⟩
theorem zaa (ha:PE X e te) (hr:PA X es t) (hs:starEach (e :: es) X.env = (false,eval e X.env) :: starEach es X.env:=by rfl):PA X (e :: es) (zcn te t):=by
 intro pos pins s σ H Q I h
 rw [hs]
 show wpAny _ _ (spliced ((false,eval e X.env) :: backTo pos (starEach es X.env))) _ _ s
 refine Calls.spliced_cons (thn (ha pins s σ H _ I h) fun u s1 zq_=>?_)
 obtain ⟨x,H1,I1,r1,q1⟩:=zq_
 exact thn (hr pos pins s1 σ H1 _ I1 q1) fun us s2 ⟨xs,H2,I2,r2,q2⟩=>⟨x :: xs,H2,I2,.cons r1 r2,q2⟩
noncomputable def tTup (t:TA):TE:=fun σ H Q=>t σ H fun xs H1=>xs.length ≤ sizeLine∧∀ p,H1 p = none->Q (.ref p) (upd H1 p (.tup xs))
noncomputable def tLst (t:TA):TE:=fun σ H Q=>t σ H fun xs H1=>xs.length ≤ sizeLine∧∀ p,H1 p = none->Q (.ref p) (upd H1 p (.lst xs))
theorem zcW {x1} (h:PA X es t):PE X (.Tuple es x1 pos) (tTup t):=by
 intro pins s σ H Q I hq
 refine wpAny_Tuple_spliced (thn (h pos pins s σ H _ I hq) fun us s1 ⟨xs,H1,I1,r,z,q⟩=>⟨by rw [← r.length]; exact z,?_⟩)
 have hf:H1 s1.heap.objs.size = none:=I1.hok.fresh (Nat.le_refl _)
 refine ⟨.ref s1.heap.objs.size,upd H1 s1.heap.objs.size (.tup xs),I1.laid (t':=s1.toks) (fun b u e=>Heap.get?_push_of_some _ e) (Nat.le_refl _) ?_,rfl,q _ hf⟩
 exact ⟨z,us,r,⟨_,Heap.get?_push_size _ rfl,rfl,_,rfl⟩⟩
theorem zbu (h:PA X es t):PE X (.List es pos) (tLst t):=by
 intro pins s σ H Q I hq
 refine wpAny_List_spliced (thn (h pos pins s σ H _ I hq) fun us s1 ⟨xs,H1,I1,r,z,q⟩=>⟨by rw [← r.length]; exact z,?_⟩)
 have hf:H1 s1.heap.objs.size = none:=I1.hok.fresh (Nat.le_refl _)
 refine ⟨.ref s1.heap.objs.size,upd H1 s1.heap.objs.size (.lst xs),I1.laid (t':=s1.toks) (fun b u e=>Heap.get?_push_of_some _ e) (Nat.le_refl _) ?_,rfl,q _ hf⟩
 exact ⟨z,us,0,r,Heap.get?_push_size _ rfl⟩
end
abbrev Sp:=List V->Hp->VK->XK->Prop
abbrev CXT:=List Env->Hp->Shared->XK->Value->Shared->Prop
structure Env0 (P:Program) (w:World) (K:PySem.W.Frag) (mg:Str->Option Value) (base:Heap) (A:Around) (outer:List Env) (s:Shared) (H:Hp):Prop where
 frames:A.frames = some outer
 mod:Mod K mg base
 bs:∀ b o,base.get? b = some o->s.heap.get? b = some o∧H b = none
 bsz:base.objs.size ≤ s.heap.objs.size
 funs:s.heap.FunFrames base outer
 frf:∀ b ∈ frs outer,H b = none
 hok:HOk P w H s.heap
 bare:AllBare s.gens
noncomputable def CE (outer:List Env) (P:Program) (w:World) (H:Hp) (s:Shared) (Q:VK) (u:Value) (s':Shared):Prop :=
 ∃ v H',s'.os = s.os∧AllBare s'.gens∧Un (frs outer) [] H H' s.heap s'.heap∧HOk P w H' s'.heap∧RelV v u∧Q v H'
noncomputable def CR (CX:CXT) (outer:List Env) (P:Program) (w:World) (H:Hp) (s:Shared) (Q:VK) (E:XK) (r:Result) (s':Shared):Prop :=
 match r with
 | .ok (.ret u)=>CE outer P w H s Q u s'
 | .ok _=>False
 | .error e=>CX outer H s E e s'
structure FnOk (P:Program) (w:World) (K:PySem.W.Frag) (mg:Str->Option Value) (base:Heap) (CX:CXT) (k:Nat) (f:Addr) (fd:FuncData) (ps:List Str) (sp:Sp):Prop where
 len:∀ vs H Q E,sp vs H Q E->vs.length = ps.length
 run:∀ (A:Around) (outer:List Env) (s:Shared) (H:Hp) (args:Args) (us:List Value) (vs:List V) (Q:VK) (E:XK),Room k A->Env0 P w K mg base A outer s H->BindsTo s fd args (ps.zip us)->Vals vs us->sp vs H Q E ->
  codeAny (model P w) A (.call (.ref f) args) (CR CX outer P w H s Q E) s
theorem Env0.make {P:Program} {w:World} {K:PySem.W.Frag} {mg:Str->Option Value} {base:Heap} {A:Around} {outer:List Env} {s:Shared} {H:Hp} (e:Env0 P w K mg base A outer s H) (C:Addr) (us:List Value) (kw:List (Str × Value)) :
  Env0 P w K mg base (A.under (.builtin "type.__call__" ⟨.ref C :: us,kw⟩)) outer s H:=⟨by first | exact e.frames | (simpa [Around.under,Code.envs,Code.isFrame,pushEnvs] using e.frames),e.mod,e.bs,e.bsz,e.funs,e.frf,e.hok,e.bare⟩
section
variable {X:Cx} {pins:List (Addr × Obj)} {σ:St} {H:Hp} {s s':Shared}
theorem Inv.env0 (I:Inv X pins σ H s):Env0 X.prog X.w X.K X.mg X.base X.A X.stack s H :=
 ⟨I.ok.frames,I.ok.mod,I.bs,Nat.le_trans I.ok.bsz I.sz,I.stack,I.stkFree,I.hok,I.bare⟩
theorem Inv.after {Q:VK} {u:Value} (I:Inv X pins σ H s) (h:CE X.stack X.prog X.w H s Q u s'):EP X pins σ Q u s':=by
 obtain ⟨v,H',os,bare,un,hok,r,q⟩:=h
 obtain ⟨hh,g,d,t,os'⟩:=s'
 obtain rfl:os' = s.os:=os
 exact ⟨v,H',I.call (h':=hh) (g':=g) (d':=d) (t':=t) (ch:=[]) un hok bare (fun b z=>absurd z (by simp)),r,q⟩
end
noncomputable def zed (sp:Sp) (dvs:List V) (E:XK) (t:TA):TE:=fun σ H Q=>t σ H fun vs H1=>sp (vs ++ dvs) H1 Q E
noncomputable def zho (C:Addr) (m:Str) (sp:Sp) (dvs:List V) (E:XK) (ta:TE) (t:TA):TE:=fun σ H Q=>ta σ H fun x H1=>∃ a dx fs,x = .ref a∧H1 a = some (.ins C dx fs)∧fs.lookup m = none ∧
 t σ H1 fun vs H2=>sp (x :: (vs ++ dvs)) H2 Q E
noncomputable def zie (C:Addr) (sp:Sp) (dvs:List V) (E:XK) (t:TA):TE:=fun σ H Q=>t σ H fun vs H1=>∀ x dx,H1 x = none->H1 dx = none->dx ≠ x ->
 sp (.ref x :: (vs ++ dvs)) (upd (upd H1 dx (.own x)) x (.ins C dx [])) (fun v H2=>v = .non∧Q (.ref x) H2) E
noncomputable def zaE (K:PySem.W.Frag) (fd:FuncData) (ps:List Str) (ds:List Value):Prop :=
 ∀ (s:Shared) (us:List Value),K.In s.heap->(us ++ ds).length = ps.length->BindsTo s fd ⟨us,[]⟩ (ps.zip (us ++ ds))
theorem zaE.all {K:PySem.W.Frag} {fd:FuncData} {ps:List Str} (h:∀ us:List Value,us.length = ps.length->bindArgs fd ⟨us,[]⟩ = pure (ps.zip us)):zaE K fd ps []:=fun s us _ hl=>by
 rw [List.append_nil] at hl ⊢
 exact .of_eq (h us hl)
noncomputable def zda (CX:CXT) (X:Cx) (E:XK):Prop:=∀ (pins:List (Addr × Obj)) (σ:St) (H:Hp) (s:Shared) (e:Value) (s':Shared),Inv X pins σ H s->CX X.stack H s E e s'->X.xe e s'
section
variable {X:Cx} {CX:CXT} {k:Nat} {f C:Addr} {fd:FuncData} {ps:List Str} {sp:Sp} {dvs:List V} {ds:List Value} {E:XK} {x m:Str} {p pos apos:Pos} {e o:Expr} {es:List Expr} {ta:TE} {t:TA}
theorem zhE {pins:List (Addr × Obj)} {σ:St} {H:Hp} {s:Shared} {Q:VK} {us:List Value} {vs:List V} (F:FnOk X.prog X.w X.K X.mg X.base CX k f fd ps sp) (hr:Room k X.A) (hb:zaE X.K fd ps ds) (hd:Vals dvs ds) (hx:zda CX X E)
  (I:Inv X pins σ H s) (r:Vals vs us) (h:sp (vs ++ dvs) H Q E):wpAny (model X.prog X.w) X.A (call (.ref f) us) (EP X pins σ Q) X.xe s:=by
 have r2:Vals (vs ++ dvs) (us ++ ds):=r.append hd
 have hl:(us ++ ds).length = ps.length:=by rw [← r2.length]; exact F.len _ _ _ _ h
 refine wpAny_call (codeAny_mono (F.run X.A X.stack s H ⟨us,[]⟩ (us ++ ds) (vs ++ dvs) Q E hr I.env0 (hb s us I.kIn hl) r2 h) fun r s' hq=>?_)
 cases r with
 | error e=>exact hx pins σ H s e s' I hq
 | ok fl =>
  cases fl with
  | ret u=>exact I.after hq
  | next=>exact False.elim hq
  | brk=>exact False.elim hq
  | cont=>exact False.elim hq
theorem zai (F:FnOk X.prog X.w X.K X.mg X.base CX k f fd ps sp) (hr:Room k X.A) (hg:Gl X x) (hm:X.mg x = some (.ref f)) (hk:PySem.W.keepIn X.K (.ref f) = true) (hb:zaE X.K fd ps ds) (hd:Vals dvs ds) (hx:zda CX X E)
  (ha:PA X (e :: es) t) (hdb:(x == ("__debug__":Str)) = false:=by decide) (he:starEach (e :: es) X.env = (false,eval e X.env) :: starEach es X.env:=by rfl) (hpl:(backTo pos (starEach es X.env)).any (·.1) = false:=by rfl) :
  PE X (.Call (.Name x p) (e :: es) [] pos) (zed sp dvs E t):=by
 intro pins s σ H Q I h
 refine wpAny_Call_Name_kw (zeN I hg hm ?_ hdb)
 refine PySem.W.callWith_K (h₀:=X.base) I.ok.mod.kin hk (thn (ha pos pins s σ H _ I h) fun us s1 ⟨vs,H1,I1,r,q⟩=>⟨I1.kIn,?_⟩) he hpl
 exact zhE F hr hb hd hx I1 r q
theorem zaH {pl:Sem Bool} (he:PE X o ta) (c:Cls X.K C) (hm:Meth X.K C m f) (F:FnOk X.prog X.w X.K X.mg X.base CX k f fd ps sp) (hr:Room k X.A) (hb:zaE X.K fd ps ds) (hd:Vals dvs ds) (hx:zda CX X E) (ha:PA X (e :: es) t)
  (hst:starEach (e :: es) X.env = (false,eval e X.env) :: starEach es X.env:=by rfl) (hpl:(backTo pos (starEach es X.env)).any (·.1) = false:=by rfl)
  (ht:eval (.Call (.Attribute o m apos) (e :: es) [] pos) X.env = (do
   let ov ← eval o X.env
   standAt apos.atName
   let (f,first) ← holding [ov] (getMethod ov m pl)
   callWith pos f first (backTo pos (starEach (e :: es) X.env)) (backToKw pos (keywordEach [] X.env))):=by rfl) :
  PE X (.Call (.Attribute o m apos) (e :: es) [] pos) (zho C m sp dvs E ta t):=by
 intro pins s σ H Q I h
 refine PySem.W.methodCall_KW (pl:=pl) (thn (he pins s σ H _ I h) fun u s1 zq_=>?_) ht
 obtain ⟨x,H1,I1,rx,a,dx,fs,ex,ea,l,q⟩:=zq_
 subst ex
 obtain rfl:u = Value.ref a:=rx
 refine zfy I1 ea c hm l ?_
 refine PySem.W.callWith_K (first:=[.ref a]) (h₀:=X.base) I.ok.mod.kin hm.kp (thn (ha pos pins s1 σ H1 _ I1 q) fun us s2 ⟨vs,H2,I2,r,q2⟩=>⟨I2.kIn,?_⟩) hst hpl
 exact zhE (us:=.ref a :: us) (vs:=.ref a :: vs) F hr hb hd hx I2 (.cons rfl r) q2
structure Mk (K:PySem.W.Frag) (C f:Addr):Prop where
 makes:PySem.W.makesIn K C = true
 init:PySem.W.findIn K (.ref C) "__init__" = some (some (.ref f))
 fn:PySem.W.isFn K (.ref f) = true
 kp:PySem.W.keepIn K (.ref C) = true
theorem zhf {pins:List (Addr × Obj)} {σ:St} {H:Hp} {s:Shared} {Q:VK} {us:List Value} {vs:List V} (M:Mk X.K C f) (F:FnOk X.prog X.w X.K X.mg X.base CX k f fd ps sp) (hr:Room (k + 1) X.A) (hb:zaE X.K fd ps ds) (hd:Vals dvs ds)
  (hx:zda CX X E) (I:Inv X pins σ H s) (r:Vals vs us)
  (h:∀ x dx,H x = none->H dx = none->dx ≠ x->sp (.ref x :: (vs ++ dvs)) (upd (upd H dx (.own x)) x (.ins C dx [])) (fun v H2=>v = .non∧Q (.ref x) H2) E) :
  wpAny (model X.prog X.w) X.A (call (.ref C) us) (EP X pins σ Q) X.xe s:=by
 have hq:=h (s.heap.objs.size + 1) s.heap.objs.size (I.hok.fresh (Nat.le_succ _)) (I.hok.fresh (Nat.le_refl _)) (Nat.ne_of_lt (Nat.lt_succ_self _))
 have I2:=Inv.made (C:=C) I
 have r2:Vals (V.ref (s.heap.objs.size + 1) :: (vs ++ dvs)) (Value.ref (s.heap.objs.size + 1) :: (us ++ ds)):=.cons rfl (r.append hd)
 have hl:(Value.ref (s.heap.objs.size + 1) :: us ++ ds).length = ps.length:=by
  have e:=r2.length
  rw [F.len _ _ _ _ hq] at e
  exact e.symm
 refine wpAny_call (zhc (f:=f) I.kIn M.makes M.init (beq_iff_eq.mp M.fn) (codeAny_mono (F.run _ X.stack _ _ ⟨Value.ref (s.heap.objs.size + 1) :: us,[]⟩ (Value.ref (s.heap.objs.size + 1) :: (us ++ ds)) _ _ E (hr.make C us [])
  (I2.env0.make C us []) (hb _ (Value.ref (s.heap.objs.size + 1) :: us) I2.kIn hl) r2 hq) fun r s' hq'=>?_))
 cases r with
 | error e=>exact hx pins σ _ _ e s' I2 hq'
 | ok fl =>
  cases fl with
  | ret u =>
   obtain ⟨v,H',I3,rv,ev,q3⟩:=I2.after hq'
   subst ev
   exact ⟨rv,⟨V.ref (s.heap.objs.size + 1),H',I3,rfl,q3⟩⟩
  | next=>exact False.elim hq'
  | brk=>exact False.elim hq'
  | cont=>exact False.elim hq'
theorem zgq (M:Mk X.K C f) (F:FnOk X.prog X.w X.K X.mg X.base CX k f fd ps sp) (hr:Room (k + 1) X.A) (hg:Gl X x) (hm:X.mg x = some (.ref C)) (hb:zaE X.K fd ps ds) (hd:Vals dvs ds) (hx:zda CX X E)
  (ha:PA X (e :: es) t) (hdb:(x == ("__debug__":Str)) = false:=by decide) (he:starEach (e :: es) X.env = (false,eval e X.env) :: starEach es X.env:=by rfl) (hpl:(backTo pos (starEach es X.env)).any (·.1) = false:=by rfl) :
  PE X (.Call (.Name x p) (e :: es) [] pos) (zie C sp dvs E t):=by
 intro pins s σ H Q I h
 refine wpAny_Call_Name_kw (zeN I hg hm ?_ hdb)
 refine PySem.W.callWith_K (h₀:=X.base) I.ok.mod.kin M.kp (thn (ha pos pins s σ H _ I h) fun us s1 ⟨vs,H1,I1,r,q⟩=>⟨I1.kIn,?_⟩) he hpl
 exact zhf M F hr hb hd hx I1 r q
end
section
variable {X:Cx} {CX:CXT} {k:Nat} {f C:Addr} {fd:FuncData} {ps ks:List Str} {sp:Sp} {E:XK} {x m:Str} {p pos apos kpos:Pos} {e o:Expr} {es:List Expr} {kws:List Keyword} {te ta:TE} {t tk:TA} {nm:Option Str}
variable {g:List Value->List Value->List Value} {gV:List V->List V->List V}
end
structure FnScope (N P:List Str) (sc:Scope):Prop where
 kind:sc.kind = .function
 co:sc.isCoroutine = false
 gen:sc.isGenerator = false
 nd:N.Nodup
 pre:N.take P.length = P
 par:∀ x ∈ P,sc.names.lookup x = some .local ∨ sc.names.lookup x = some .cell
 nofree:∀ y ∈ sc.names,y.2 ≠ .free
theorem zee {kindOf:Str->Option NameKind} {x:Str}:∀ {binds:List (Str × Value)} {m:Str->Option Value},(∀ v,(x,v) ∉ binds)->bindL kindOf binds m x = m x
 | [],_,_=>rfl
 | (n,v) :: r,m,h=>by
  unfold bindL
  rw [zee fun w hw=>h w (List.mem_cons_of_mem _ hw)]
  split
  ·have:x ≠ n:=by rintro rfl; exact h v List.mem_cons_self
   simp [this]
  ·rfl
theorem zdY {kindOf:Str->Option NameKind} {x:Str}:∀ {binds:List (Str × Value)} {m:Str->Option Value},(∀ v,(x,v) ∉ binds)->bindC kindOf binds m x = m x
 | [],_,_=>rfl
 | (n,v) :: r,m,h=>by
  unfold bindC
  rw [zdY fun w hw=>h w (List.mem_cons_of_mem _ hw)]
  split
  ·rfl
  ·have:x ≠ n:=by rintro rfl; exact h v List.mem_cons_self
   simp [this]
theorem zel {kindOf:Str->Option NameKind} {x:Str} {v:Value}:∀ {P:List Str} {vs:List Value} {i:Nat} {m:Str->Option Value},P.Nodup->P[i]? = some x->vs[i]? = some v->kindOf x = some .local ->
  bindL kindOf (P.zip vs) m x = some v
 | [],_,_,_,_,h,_,_=>by simp at h
 | _ :: _,[],_,_,_,_,h,_=>by simp at h
 | p :: P,w :: vs,0,m,nd,h1,h2,hk=>by
  simp at h1 h2; subst h1; subst h2
  show bindL kindOf ((p,w) :: P.zip vs) m p = _
  unfold bindL
  rw [zee fun v hv=>(List.nodup_cons.mp nd).1 (List.of_mem_zip hv).1,if_pos hk]
  simp
 | p :: P,w :: vs,i + 1,m,nd,h1,h2,hk=>by
  show bindL kindOf ((p,w) :: P.zip vs) m x = _
  unfold bindL
  exact zel (i:=i) (List.nodup_cons.mp nd).2 (by simpa using h1) (by simpa using h2) hk
theorem zd8 {kindOf:Str->Option NameKind} {x:Str} {v:Value}:∀ {P:List Str} {vs:List Value} {i:Nat} {m:Str->Option Value},P.Nodup->P[i]? = some x->vs[i]? = some v->kindOf x ≠ some .local ->
  bindC kindOf (P.zip vs) m x = some v
 | [],_,_,_,_,h,_,_=>by simp at h
 | _ :: _,[],_,_,_,_,h,_=>by simp at h
 | p :: P,w :: vs,0,m,nd,h1,h2,hk=>by
  simp at h1 h2; subst h1; subst h2
  show bindC kindOf ((p,w) :: P.zip vs) m p = _
  unfold bindC
  rw [zdY fun v hv=>(List.nodup_cons.mp nd).1 (List.of_mem_zip hv).1,if_neg hk]
  simp
 | p :: P,w :: vs,i + 1,m,nd,h1,h2,hk=>by
  show bindC kindOf ((p,w) :: P.zip vs) m x = _
  unfold bindC
  exact zd8 (i:=i) (List.nodup_cons.mp nd).2 (by simpa using h1) (by simpa using h2) hk
noncomputable def start (N:List Str) (vs:List V):St:=vs.map some ++ List.replicate (N.length - vs.length) none
noncomputable def cxOf (CX:CXT) (P:Program) (w:World) (K:PySem.W.Frag) (mg:Str->Option Value) (base:Heap) (N:List Str) (qual:Str) (scope:Scope) (f:Addr) (cd:Value) (A:Around) (outer:List Env) (s:Shared) (H:Hp) (E:XK):Cx where
 prog:=P
 w:=w
 K:=K
 mg:=mg
 base:=base
 A:=A.deeper (envOfC qual scope s.heap.objs.size f cd)
 N:=N
 s₀:=s
 H₀:=H
 env:=envOfC qual scope s.heap.objs.size f cd
 outer:=outer
 stack:=envOfC qual scope s.heap.objs.size f cd :: outer
 ex:=[]
 calm:=true
 fn:=fun _=>true
 pn:=[]
 xe:=fun e s'=>wpAny (model P w) (A.deeper (envOfC qual scope s.heap.objs.size f cd)) (leaving (envOfC qual scope s.heap.objs.size f cd) e) (fun _ s''=>CX outer H s E e s'') (fun e' s''=>CX outer H s E e' s'') s'
theorem ze7 {sc:Scope} {n:Nat} {x:Str} (h:sc.names.lookup x = some .cell):∃ c,(cellsFrom n sc.names []).lookup x = some c:=by
 have q:=PySem.W.cellsFrom_some sc.names n [] (.inl h)
 exact Option.isSome_iff_exists.mp q
theorem zfE {CX:CXT} {P:Program} {w:World} {K:PySem.W.Frag} {mg:Str->Option Value} {base:Heap} {N ps:List Str} {qual:Str} {scope:Scope} {f:Addr} {cd:Value} {A:Around} {outer:List Env} {s s1:Shared} {H:Hp} {E:XK} {us:List Value} {vs:List V}
  (S:FnScope N ps scope) (hd:A.handled = none) (e0:Env0 P w K mg base A outer s H) (hl:vs.length = ps.length) (r:Vals vs us)
  (x:InCallC s s.heap.objs.size (bindL (envOfC qual scope s.heap.objs.size f cd).kindOf (ps.zip us) fun _=>none) (cellsFrom (s.heap.objs.size + 1) scope.names []) (bindC (envOfC qual scope s.heap.objs.size f cd).kindOf (ps.zip us) fun _=>none) s1) :
  Inv (cxOf CX P w K mg base N qual scope f cd A outer s H E) [] (start N vs) H s1:=by
 have hpl:ps.length ≤ N.length:=by have:=congrArg List.length S.pre; rw [List.length_take] at this; omega
 obtain ⟨h1,tk,rfl,hk⟩:=x.done
 have noA:∀ b:Addr,b ∉ (cxOf CX P w K mg base N qual scope f cd A outer s H E).ex:=fun b z=>absurd (show b ∈ ([]:List Addr) from z) (by simp)
 refine ⟨⟨e0.mod,S.kind,rfl,rfl,Nat.le_refl _,fun y z c h1 h2=>?_,fun y hy=>?_,fun y c _ h=>?_,fun _=>hd,Around.frames_deeper e0.frames,.inr ⟨rfl,rfl⟩,fun b z=>absurd z (noA b),e0.bs,e0.bsz,fun b _ _=>noA b,fun b z=>absurd z (noA b),e0.funs,e0.frf⟩,
  rfl,e0.bare,Un.kept hk,⟨_,x.toInCall.ns,fun i y v h1 h2 h3=>?_⟩,fun y c h=>⟨_,x.cell y c h⟩,e0.hok.fresh (Nat.le_refl _),fun y c h=>?_,fun p hp=>absurd (show p ∈ ([]:List (Addr × Obj)) from hp) (by simp),e0.hok.kept hk,?_⟩
 ·exact name_of_addr x.apart (PySem.mem_of_lookup h1) (PySem.mem_of_lookup h2)
 ·have hy:scope.names.lookup y = some .cell ∨ scope.names.lookup y = some .free:=hy
  rcases hy with hy | hy
  ·exact ze7 hy
  ·exact absurd rfl (S.nofree _ (PySem.mem_of_lookup hy))
 ·exact Nat.le_of_lt (x.above y c (PySem.mem_of_lookup h))
 ·have hi:i < vs.length:=by
   unfold start at h2
   by_cases hi:i < vs.length
   ·exact hi
   ·rw [List.getElem?_append_right (by simpa using hi)] at h2
    rw [List.getElem?_replicate] at h2
    split at h2 <;> cases h2
  have ha:vs[i]? = some v:=by
   unfold start at h2
   rw [List.getElem?_append_left (by simpa using hi),List.getElem?_map] at h2
   cases e:vs[i]? with
   | none=>rw [e] at h2; cases h2
   | some a=>rw [e] at h2; cases h2; rfl
  obtain ⟨u,hu,rv⟩:=r.get ha
  have hp:ps[i]? = some y:=by
   rw [← S.pre,List.getElem?_take_of_lt (by omega)]; exact h1
  have ndP:ps.Nodup:=by rw [← S.pre]; exact S.nd.sublist (List.take_sublist _ _)
  refine ⟨u,rv,?_⟩
  rcases S.par y (List.mem_of_getElem? hp) with k | k
  ·exact .inl ⟨k,zel ndP hp hu k⟩
  ·obtain ⟨c,e⟩:=ze7 (n:=s.heap.objs.size + 1) k
   refine .inr ⟨.inl k,c,e,?_⟩
   have q:=x.cell y c e
   rw [zd8 ndP hp hu (by show scope.names.lookup y ≠ _; rw [k]; decide)] at q
   exact q
 ·exact e0.hok.fresh (Nat.le_of_lt (x.above y c (PySem.mem_of_lookup h)))
 ·unfold start
  show _ = N.length
  rw [List.length_append,List.length_map,List.length_replicate]
  omega
theorem zi0 {CX:CXT} {P:Program} {w:World} {K:PySem.W.Frag} {mg:Str->Option Value} {base:Heap} {k:Nat} {f:Addr} {name qual:Str} {params:Arguments} {body:List Stmt} {scope:Scope} {dV kV doc pm cdv ct oc:Value} {an od:Option Addr}
  {osl:Array (Option Value)} {N ps:List Str} {sp:Sp} (lk:K.lookup f = some ⟨oc,od,.func (PySem.W.fnOf name qual params body scope dV kV doc pm an cdv ct),osl⟩) (hcd:PySem.W.codeIn K cdv qual = true) (S:FnScope N ps scope)
  (len:∀ vs H Q E,sp vs H Q E->vs.length = ps.length)
  (hbody:∀ (A:Around) (outer:List Env) (s:Shared) (H:Hp) (vs:List V) (Q:VK) (E:XK),Room k (A.deeper (envOfC qual scope s.heap.objs.size f cdv))->sp vs H Q E ->
   ∃ t,PSs (cxOf CX P w K mg base N qual scope f cdv A outer s H E) body t∧t { nx:=fun _ H'=>Q .non H',rt:=Q } (start N vs) H) :
  FnOk P w K mg base CX (k + 1) f (PySem.W.fnOf name qual params body scope dV kV doc pm an cdv ct) ps sp:=by
 refine ⟨len,fun A outer s H args us vs Q E hr e0 hb r hsp=>?_⟩
 have hl:=len _ _ _ _ hsp
 have KX:K.In s.heap:=e0.mod.kin.keeps fun b o e=>(e0.bs b o e).1
 have lim:s.heap.NoLimit:=e0.mod.nolimit.keeps fun b o e=>(e0.bs b o e).1
 have hkind:∀ y ∈ ps.zip us,scope.names.lookup y.1 = some .local ∨ (scope.names.lookup y.1 = some .cell∧((cellsFrom (s.heap.objs.size + 1) scope.names []).lookup y.1).isSome = true):=fun ⟨n,v⟩ hy=>by
  rcases S.par n (List.of_mem_zip hy).1 with q | q
  ·exact .inl q
  ·exact .inr ⟨q,PySem.W.cellsFrom_some _ _ _ (.inl q)⟩
 refine codeAny_call_function hr.depth (KX _ _ lk) rfl S.co S.gen rfl (PySem.W.codeRec_of KX hcd) (hb _ _ _ _ ?_)
 refine wpAny_newFunctionEnv_cells S.kind hkind fun env he s1 x=>?_
 subst he
 refine ⟨lim.keeps x.toInCall.keep,codeAny_func ?_⟩
 obtain ⟨t,ht,hq⟩:=hbody A outer s H vs Q E (hr.deeper _) hsp
 have I:Inv (cxOf CX P w K mg base N qual scope f cdv A outer s H E) [] (start N vs) H s1:=zfE S hr.hd e0 hl r x
 refine wpAny_mono (ht [] s1 (start N vs) H _ I hq) (fun fl s' hs=>?_) fun e s' hs=>hs
 have fin:∀ {σ':St} {H':Hp} {v:V} {u:Value},Inv (cxOf CX P w K mg base N qual scope f cdv A outer s H E) [] σ' H' s'->RelV v u->Q v H'->CE outer P w H s Q u s' :=
  fun {σ' H' v u} J rv q=>⟨v,H',J.os,J.bare,J.base,J.hok,rv,q⟩
 cases fl with
 | ret u =>
  obtain ⟨v,σ',H',J,rv,q⟩:=hs
  exact fin J rv q
 | next =>
  obtain ⟨σ',H',J,q⟩:=hs
  exact fin (v:=V.non) (u:=Value.none) J rfl q
 | brk =>
  obtain ⟨_,_,_,q⟩:=hs
  exact False.elim q
 | cont =>
  obtain ⟨_,_,_,q⟩:=hs
  exact False.elim q
end L2
namespace L2
open PySem PySem.Spec PyProof.Rows
section
variable {X:Cx} {x:Str} {p pos:Pos} {e:Expr} {es:List Expr} {t:TA} {id T:String} {r:List V->Hp->VK->Prop}
noncomputable def tCB (r:List V->Hp->VK->Prop) (t:TA):TE:=fun σ H Q=>t σ H fun vs H1=>r vs H1 Q
theorem zam (hc:zbN X (.builtin id) r) (hg:Gl X x) (hm:X.mg x = none) (hv:bootBuiltins x = some (.builtin id)) (ha:PA X (e :: es) t) (hn:x ≠ "__name__":=by decide) (hdb:(x == ("__debug__":Str)) = false:=by decide)
  (he:starEach (e :: es) X.env = (false,eval e X.env) :: starEach es X.env:=by rfl) (hpl:(backTo pos (starEach es X.env)).any (·.1) = false:=by rfl):PE X (.Call (.Name x p) (e :: es) [] pos) (tCB r t):=by
 intro pins s σ H Q I h
 refine wpAny_Call_Name_kw (zbs I hg hm hv ?_ hn hdb)
 exact PyProof.Rows.callWith_builtin1 (thn (ha pos pins s σ H _ I h) fun us s1 ⟨vs,H1,I1,r1,q1⟩=>hc pins s1 σ H1 vs us Q I1 r1 q1) he hpl
theorem zaR (hc:zbN X (.type T) r) (hg:Gl X x) (hm:X.mg x = none) (hv:bootBuiltins x = some (.type T)) (ha:PA X (e :: es) t) (hn:x ≠ "__name__":=by decide) (hdb:(x == ("__debug__":Str)) = false:=by decide)
  (he:starEach (e :: es) X.env = (false,eval e X.env) :: starEach es X.env:=by rfl) (hpl:(backTo pos (starEach es X.env)).any (·.1) = false:=by rfl):PE X (.Call (.Name x p) (e :: es) [] pos) (tCB r t):=by
 intro pins s σ H Q I h
 refine wpAny_Call_Name_kw (zbs I hg hm hv ?_ hn hdb)
 exact PyProof.Rows.callWith_type1 (thn (ha pos pins s σ H _ I h) fun us s1 ⟨vs,H1,I1,r1,q1⟩=>hc pins s1 σ H1 vs us Q I1 r1 q1) he hpl
end
end L2
namespace HT
open PySem PyProof.Rows
section
open PySem.SeqAt
open PySem.AutoSeq1 (wpAny_loadPart')
open PySem.MeetsSeq PySem.MeetsSeq2 PySem.MeetsSeq3
end
section
variable {prog:Program} {w:World} {A:Around} {E:Value->Shared->Prop} {s:Shared}
noncomputable def sIx (n d:Nat):Option Int->Nat
 | none=>d
 | some v=>if v < 0 then (v + (n:Int)).toNat else min v.toNat n
end
end HT
namespace L2
open PySem PySem.Spec PyProof.Rows
abbrev TO:=St->Hp->(Option Int->Hp->Prop)->Prop
noncomputable def PO (X:Cx) (e:Option Expr) (t:TO):Prop :=
 ∀ (pins:List (Addr × Obj)) (s:Shared) (σ:St) (H:Hp) (Q:Option Int->Hp->Prop),Inv X pins σ H s->t σ H Q ->
  wpAny (model X.prog X.w) X.A (evalPart e X.env) (fun u s'=>∃ o H',Inv X pins σ H' s'∧IsPart u o∧Q o H') X.xe s
noncomputable def tNoPart:TO:=fun _ H Q=>Q none H
noncomputable def zhU (t:TE):TO:=fun σ H Q=>t σ H fun x H1=>∃ i,x = .int i∧Q (some i) H1
theorem zfv {ns:List Int}:∀ {us:List Value},Vals (ns.map V.int) us->IntsAre us ns:=by
 induction ns with
 | nil=>intro us r; rw [List.map_nil] at r; cases r; exact .nil
 | cons n ns ih =>
  intro us r
  rw [List.map_cons] at r
  cases r with
  | cons r1 r2 =>
   obtain ⟨t,e⟩:=r1
   subst e
   exact .cons n t (ih r2)
section
variable {X:Cx} {e:Expr} {te:TE} {lo hi:Option Expr} {tl th:TO} {pos p2:Pos}
theorem po_none:PO X none tNoPart:=by
 intro pins s σ H Q I h
 rw [evalPart_none]
 exact wpAny_pure ⟨none,H,I,.none,h⟩
theorem zdy (h:PE X e te):PO X (some e) (zhU te):=by
 intro pins s σ H Q I hw
 rw [evalPart_some]
 refine thn (h pins s σ H _ I hw) fun u s1 zq_=>?_
 obtain ⟨x,H1,I1,r1,q1⟩:=zq_
 obtain ⟨i,rfl,q⟩:=q1
 obtain ⟨t,rfl⟩:=r1
 exact ⟨some i,H1,I1,.int i t,q⟩
noncomputable def SlR (X:Cx) (r:V->Option Int->Option Int->Hp->VK->Prop):Prop :=
 ∀ (pins:List (Addr × Obj)) (s:Shared) (σ:St) (H:Hp) (x:V) (v vl vu:Value) (lo hi:Option Int) (sl:Addr) (Q:VK),Inv X pins σ H s->RelV x v->s.heap.IsSliceOf sl vl vu .none->IsPart vl lo->IsPart vu hi->r x lo hi H Q ->
  ∃ T id,typeLookup (.type T) "__getitem__" = pure (some (.builtin id))∧s.TypeIs v T∧wpAny (model X.prog X.w) X.A (getItem v (.ref sl)) (EP X pins σ Q) X.xe s
noncomputable def tSl (r:V->Option Int->Option Int->Hp->VK->Prop) (te:TE) (tl th:TO):TE:=fun σ H Q=>te σ H fun x H1=>tl σ H1 fun l H2=>th σ H2 fun u H3=>r x l u H3 Q
theorem zcr {r:V->Option Int->Option Int->Hp->VK->Prop} (hr:SlR X r) (he:PE X e te) (hl:PO X lo tl) (hu:PO X hi th):PE X (.Subscript e (.Slice lo hi none p2) pos) (tSl r te tl th):=by
 intro pins s σ H Q I h
 refine Subscript_ (thn (he pins s σ H _ I h) fun v s1 zq_=>?_)
 obtain ⟨x,H1,I1,r1,q1⟩:=zq_
 refine wpAny_Slice (thn (hl pins s1 σ H1 _ I1 q1) fun vl s2 ⟨l,H2,I2,pl,q2⟩=>thn (hu pins s2 σ H2 _ I2 q2) fun vu s3 zq_=>?_)
 obtain ⟨u,H3,I3,pu,q3⟩:=zq_
 rw [evalPart_none]
 refine wpAny_pure ?_
 have I4:Inv X pins σ H3 { s3 with heap:=s3.heap.push { cls:=.type "slice",data:=.fields #[vl,vu,.none] } }:=I3.kept (t':=s3.toks) fun b ob q=>Heap.get?_push_of_some _ q
 obtain ⟨T,id,hT,ht,hg⟩:=hr pins { s3 with heap:=s3.heap.push { cls:=.type "slice",data:=.fields #[vl,vu,.none] } } σ H3 x v vl vu l u s3.heap.objs.size Q I4 r1 (Heap.IsSliceOf.new ..) pl pu q3
 show wpAny (model X.prog X.w) X.A (subscriptTail e (.Slice lo hi none p2) v (.ref s3.heap.objs.size)) (EP X pins σ Q) X.xe { s3 with heap:=s3.heap.push { cls:=.type "slice",data:=.fields #[vl,vu,.none] } }
 exact tail_any (ops:=[.ref s3.heap.objs.size,v]) ht hT hg (by with_unfolding_all rfl)
noncomputable def cutV (xs:List V) (lo hi:Option Int):List V:=(xs.drop (HT.sIx xs.length 0 lo)).take (HT.sIx xs.length xs.length hi - HT.sIx xs.length 0 lo)
theorem zes (xs:List V) (lo hi:Option Int):(cutV xs lo hi).length ≤ xs.length:=by
 unfold cutV
 rw [List.length_take,List.length_drop]
 omega
end
end L2
namespace L2
open PySem PySem.Spec PyProof.Rows
noncomputable def ixN (n:Nat) (i:Int):Option Nat:=if 0 ≤ i then (if i < n then some i.toNat else none) else if -(n:Int) ≤ i then some (i + n).toNat else none
noncomputable def atI {α:Type} (xs:List α) (i:Int):Option α:=(ixN xs.length i).bind fun j=>xs[j]?
theorem zfZ {n:Nat} {i:Int} {j:Nat} (h:ixN n i = some j):seqIndex? i n = some j∧j < n∧-(n:Int) ≤ i∧i < n:=by
 unfold ixN at h
 by_cases h0:0 ≤ i
 ·rw [if_pos h0] at h
  by_cases h1:i < n
  ·rw [if_pos h1] at h
   have e:i.toNat = j:=Option.some.inj h
   exact ⟨by rw [seqIndex_of h0 h1,e],by omega,by omega,h1⟩
  ·rw [if_neg h1] at h; cases h
 ·rw [if_neg h0] at h
  by_cases h1:-(n:Int) ≤ i
  ·rw [if_pos h1] at h
   have e:(i + n).toNat = j:=Option.some.inj h
   exact ⟨by rw [seqIndex_neg (by omega) h1,e],by omega,h1,by omega⟩
  ·rw [if_neg h1] at h; cases h
theorem zfU {α:Type} {xs:List α} {i:Int} {v:α} (h:atI xs i = some v):∃ j,seqIndex? i xs.length = some j∧xs[j]? = some v∧j < xs.length∧-(xs.length:Int) ≤ i∧i < xs.length:=by
 unfold atI at h
 cases e:ixN xs.length i with
 | none=>rw [e] at h; cases h
 | some j =>
  rw [e] at h
  obtain ⟨h1,h2,h3,h4⟩:=zfZ e
  exact ⟨j,h1,h,h2,h3,h4⟩
theorem zaU {α:Type} {xs:List α} {j:Nat} {v:α} (h:xs[j]? = some v):atI xs (j:Int) = some v:=by
 have hj:j < xs.length:=(List.getElem?_eq_some_iff.mp h).1
 have e:ixN xs.length (j:Int) = some j:=by
  unfold ixN
  rw [if_pos (by omega),if_pos (by omega)]; simp
 unfold atI; rw [e]; exact h
noncomputable def zis (b:Expr):Prop:=∀ o i,subscripted b false o i = operate [o,i] (getItem o i)
noncomputable def IxR (X:Cx) (r:R2):Prop :=
 ∀ (value slice:Expr) (pins:List (Addr × Obj)) (s:Shared) (σ:St) (H:Hp) (x y:V) (v u:Value) (Q:VK),Inv X pins σ H s->RelV x v->RelV y u->r x y H Q ->
  subscripted slice false v u = operate [v,u] (getItem v u)->wpAny (model X.prog X.w) X.A (subscriptTail value slice v u) (EP X pins σ Q) X.xe s
noncomputable def MtR (X:Cx) (id:String) (r:V->List V->Hp->VK->Prop):Prop :=
 ∀ (pins:List (Addr × Obj)) (s:Shared) (σ:St) (H:Hp) (x:V) (xs:List V) (v:Value) (us:List Value) (Q:VK),Inv X pins σ H s->RelV x v->Vals xs us->r x xs H Q ->
  wpAny (model X.prog X.w) X.A (call (.builtin id) (v :: us)) (EP X pins σ Q) X.xe s
section
variable {X:Cx} {a b:Expr} {ta tb:TE} {pos:Pos}
theorem zax {r:R2} (hr:IxR X r) (ha:PE X a ta) (hb:PE X b tb) (hs:zis b):PE X (.Subscript a b pos) (tOp r ta tb):=by
 intro pins s σ H Q I h
 exact Subscript_ (binT ha hb I h fun v u s2 x y H2 I2 rx ry q=>hr a b pins s2 σ H2 x y v u Q I2 rx ry q (hs _ _))
noncomputable def rIxL (K:PySem.W.Frag):R2:=fun x y H Q=>∃ p xs i v,x = .ref p∧y = .int i∧SqL K H p xs∧atI xs i = some v∧Q v H
noncomputable def rIxT (K:PySem.W.Frag):R2:=fun x y H Q=>∃ p xs i v,x = .ref p∧y = .int i∧SqT K H p xs∧atI xs i = some v∧Q v H
theorem ix_list:IxR X (rIxL X.K):=by
 intro value slice pins s σ H x y v u Q I rx ry h hs
 obtain ⟨p,xs,i,z,rfl,rfl,hq,he,q⟩:=h
 cases rx
 obtain ⟨t,rfl⟩:=ry
 obtain ⟨its,r,pl,hz⟩:=I.list hq
 obtain ⟨j,h1,h2,h3,h4,h5⟩:=zfU he
 obtain ⟨w,ew,rw'⟩:=r.get h2
 have hl:=r.length
 have hn:=line63
 have fin:EP X pins σ Q w s:=⟨z,H,I,rw',q⟩
 by_cases h0:0 ≤ i
 ·have hj:i.toNat = j:=by
   rw [seqIndex_of h0 h5] at h1
   exact Option.some.inj h1
  exact item_listR pl.isList h0 (by omega) (by rw [hj]; simpa using ew) fin hs
 ·have hj:(i + (its.toArray.size:Int)).toNat = j:=by
   rw [seqIndex_neg (by omega) h4] at h1
   rw [List.size_toArray,← hl]
   exact Option.some.inj h1
  exact subscriptTail_builtinR (x:=w) pl.isList.typeIs slot_list_getitem.lookup
   (wpAny_getItem_list_neg (Q:=fun r s'=>r = w∧EP X pins σ Q r s') pl.isList (by omega) (by rw [List.size_toArray] <;> omega) (by omega) (by rw [hj]; simpa using ew) ⟨rfl,fin⟩) hs
theorem ix_tup:IxR X (rIxT X.K):=by
 intro value slice pins s σ H x y v u Q I rx ry h hs
 obtain ⟨p,xs,i,z,rfl,rfl,hq,he,q⟩:=h
 cases rx
 obtain ⟨t,rfl⟩:=ry
 obtain ⟨its,r,pl,hz⟩:=I.tuple hq
 obtain ⟨j,h1,h2,h3,h4,h5⟩:=zfU he
 obtain ⟨w,ew,rw'⟩:=r.get h2
 have hl:=r.length
 have hn:=line63
 have fin:EP X pins σ Q w s:=⟨z,H,I,rw',q⟩
 exact subscriptTail_builtinR (x:=w) pl.typeIs slot_tuple_getitem.lookup
  (getItem_tuple (j:=j) (Q:=fun r s'=>r = w∧EP X pins σ Q r s') pl (by omega) (by omega) (by rw [List.size_toArray,← hl]; exact h1) (by simpa using ew) ⟨rfl,fin⟩) hs
theorem zfq (its:List Value) (n j:Nat) (u:Value):Obj.mapSeq (·.setIfInBounds j u) { cls:=.type "list",data:=.seq its.toArray n } = { cls:=.type "list",data:=.seq (its.set j u).toArray n }:=by
 simp [Obj.mapSeq]
theorem Inv.lst {pins:List (Addr × Obj)} {σ:St} {H:Hp} {s:Shared} {p:Addr} {xs:List V} (I:Inv X pins σ H s) (h:H p = some (.lst xs)) :
  ∃ (its:List Value) (n:Nat),Vals xs its∧s.heap.get? p = some { cls:=.type "list",data:=.seq its.toArray n }∧xs.length ≤ sizeLine:=by
 obtain ⟨z,its,n,r,e⟩:=I.hok p _ h
 exact ⟨its,n,r,e,z⟩
theorem Inv.lstUpd {pins:List (Addr × Obj)} {σ:St} {H:Hp} {s:Shared} {p:Addr} {xs ys:List V} {its its':List Value} {n n':Nat} {f:Obj->Obj} (I:Inv X pins σ H s) (h:H p = some (.lst xs))
  (ho:s.heap.get? p = some { cls:=.type "list",data:=.seq its.toArray n }) (hf:f { cls:=.type "list",data:=.seq its.toArray n } = { cls:=.type "list",data:=.seq its'.toArray n' }) (r:Vals ys its') (hz:ys.length ≤ sizeLine) (t:Nat) :
  Inv X pins σ (upd H p (.lst ys)) { s with heap:=s.heap.update p f,toks:=t }:=by
 have e:(s.heap.update p f).get? p = some { cls:=.type "list",data:=.seq its'.toArray n' }:=by
  rw [Heap.get?_update_self f ho (by rw [hf] <;> rfl),hf]
 refine I.write (x:=p) (e:=p) (by rw [h]; trivial) (.inl rfl) (fun b u hb q=>(Heap.get?_update_other _ _ (Ne.symm hb)).trans q) ⟨_,e⟩ ?_
 exact ⟨hz,its',n',r,e⟩
noncomputable def rSetL:V->V->V->Hp->(Hp->Prop)->Prop:=fun o i v H Q=>∃ p xs k j,o = .ref p∧i = .int k∧H p = some (.lst xs)∧ixN xs.length k = some j∧Q (upd H p (.lst (xs.set j v)))
theorem set_list:PSet X rSetL:=by
 intro pins s σ H o i v ov iv u Q I ro ri rv h
 obtain ⟨p,xs,k,j,rfl,rfl,hp,hj,q⟩:=h
 cases ro
 obtain ⟨t,rfl⟩:=ri
 obtain ⟨its,n,r,ho,hz⟩:=I.lst hp
 obtain ⟨h1,h2,h3,h4⟩:=zfZ hj
 have hl:=r.length
 have hn:=line63
 have I':Inv X pins σ (upd H p (.lst (xs.set j v))) { s with heap:=s.heap.update p (Obj.mapSeq (·.setIfInBounds j u)) } :=
  I.lstUpd hp ho (zfq its n j u) (r.set rv j) (by rw [List.length_set]; exact hz) s.toks
 by_cases h0:0 ≤ k
 ·have hk:k.toNat = j:=by
   rw [seqIndex_of h0 h4] at h1
   exact Option.some.inj h1
  exact PySem.W.ki_setAt ho h0 (by omega) (by rw [List.size_toArray,← hl]; exact h4) (by rw [hk]; exact ⟨_,I',q⟩)
 ·have hk:(k + (its.toArray.size:Int)).toNat = j:=by
   rw [seqIndex_neg (by omega) h3] at h1
   rw [List.size_toArray,← hl]
   exact Option.some.inj h1
  exact PySem.W.ki_setBack ho (by omega) (by rw [List.size_toArray,← hl]; exact h3) (by omega) (by rw [hk]; exact ⟨_,I',q⟩)
theorem zdW (lo hi:Option Int) (n:Nat):(sliceBounds lo hi none n).1 = ((HT.sIx n 0 lo:Nat):Int)∧(sliceBounds lo hi none n).2.1 = ((HT.sIx n n hi:Nat):Int)∧(sliceBounds lo hi none n).2.2 = 1:=by
 refine ⟨?_,?_,rfl⟩
 ·cases lo with
  | none=>simp [sliceBounds,HT.sIx]
  | some i =>
   simp only [sliceBounds,HT.sIx,Option.getD_none,show (1:Int) > 0 by decide,if_true]
   by_cases h:i < 0
   ·simp only [h,if_true] <;> omega
   ·simp only [h,if_false] <;> omega
 ·cases hi with
  | none=>simp [sliceBounds,HT.sIx]
  | some i =>
   simp only [sliceBounds,HT.sIx,Option.getD_none,show (1:Int) > 0 by decide,if_true]
   by_cases h:i < 0
   ·simp only [h,if_true] <;> omega
   ·simp only [h,if_false] <;> omega
theorem zdw (its:List Value) (lo hi:Option Int):slicePick its.toArray lo hi none = ((its.drop (HT.sIx its.length 0 lo)).take (HT.sIx its.length its.length hi - HT.sIx its.length 0 lo)).toArray:=by
 obtain ⟨h1,h2,h3⟩:=zdW lo hi its.toArray.size
 unfold slicePick
 rw [h1,h2,h3]
 simp only [sliceRange_one,pick_run,List.size_toArray] <;> rfl
noncomputable def rSlL (K:PySem.W.Frag):V->Option Int->Option Int->Hp->VK->Prop:=fun x lo hi H Q=>∃ a xs,x = .ref a∧SqL K H a xs∧∀ p,H p = none->Q (.ref p) (upd H p (.lst (cutV xs lo hi)))
theorem sl_list:SlR X (rSlL X.K):=by
 intro pins s σ H x v vl vu lo hi sl Q I rx hs pl pu h
 obtain ⟨a,xs,rfl,hx,q⟩:=h
 cases rx
 obtain ⟨its,r,ht,hz⟩:=I.list hx
 have hlen:=r.length
 refine ⟨"list",_,slot_list_getitem.lookup,ht.isList.typeIs,?_⟩
 refine wpAny_getItem_list_slice ht.isList hs pl pu .none (by simp) ?_ (by rw [List.size_toArray] <;> omega)
 rw [zdw,← hlen]
 refine ⟨.ref s.heap.objs.size,_,I.laid (t':=s.toks) (o:=.lst (cutV xs lo hi)) (fun b ob q=>Heap.get?_push_of_some _ q) (Nat.le_refl _) ?_,rfl,q _ (I.hok.fresh (Nat.le_refl _))⟩
 exact ⟨Nat.le_trans (zes xs lo hi) hz,_,0,(r.drop (HT.sIx xs.length 0 lo)).take (HT.sIx xs.length xs.length hi - HT.sIx xs.length 0 lo),Heap.get?_push_size _ rfl⟩
noncomputable def flatV:V->Bool
 | .non=>true
 | .bl _=>true
 | .int _=>true
 | .str _=>true
 | _=>false
noncomputable def eqV:V->V->Bool
 | .non,.non=>true
 | .bl a,.bl b=>a == b
 | .bl a,.int b=>(if a then 1 else 0) == b
 | .int a,.bl b=>a == (if b then 1 else 0)
 | .int a,.int b=>a == b
 | .str a,.str b=>a == b
 | _,_=>false
theorem ziY {A:Around} {s:Shared} {y x:V} {u v:Value} (ry:RelV y u) (rx:RelV x v) (fy:flatV y = true) (fx:flatV x = true):SeqAt.EqAt A s u v (eqV y x):=by
 cases y with
 | non =>
  cases ry
  cases x with
  | non=>cases rx; exact SeqAt.EqAt.same _
  | bl b=>cases rx; exact SeqAt.EqAt.none_bool b
  | int b=>obtain ⟨t,rfl⟩:=rx; exact SeqAt.EqAt.none_int b t
  | str b=>obtain ⟨t,rfl⟩:=rx; exact SeqAt.EqAt.none_str b t
  | _=>exact absurd (show false = true from fx) Bool.false_ne_true
 | bl a =>
  cases ry
  cases x with
  | non=>cases rx; exact SeqAt.EqAt.bool_none a
  | bl b=>cases rx; exact SeqAt.EqAt.bool_bool a b
  | int b=>obtain ⟨t,rfl⟩:=rx; exact SeqAt.EqAt.bool_int a b t
  | str b=>obtain ⟨t,rfl⟩:=rx; exact SeqAt.EqAt.bool_str a b t
  | _=>exact absurd (show false = true from fx) Bool.false_ne_true
 | int a =>
  obtain ⟨t',rfl⟩:=ry
  cases x with
  | non=>cases rx; exact SeqAt.EqAt.int_none a t'
  | bl b=>cases rx; exact SeqAt.EqAt.int_bool a t' b
  | int b=>obtain ⟨t,rfl⟩:=rx; exact SeqAt.EqAt.int_int a t' b t
  | str b=>obtain ⟨t,rfl⟩:=rx; exact SeqAt.EqAt.int_str a t' b t
  | _=>exact absurd (show false = true from fx) Bool.false_ne_true
 | str a =>
  obtain ⟨t',rfl⟩:=ry
  cases x with
  | non=>cases rx; exact SeqAt.EqAt.str_none a t'
  | bl b=>cases rx; exact SeqAt.EqAt.str_bool a t' b
  | int b=>obtain ⟨t,rfl⟩:=rx; exact SeqAt.EqAt.str_int a t' b t
  | str b=>obtain ⟨t,rfl⟩:=rx; exact SeqAt.EqAt.str_str a t' b t
  | _=>exact absurd (show false = true from fx) Bool.false_ne_true
 | _=>exact absurd (show false = true from fy) Bool.false_ne_true
theorem call_list_of:zbN X (.type "list") (fun xs H Q=>∃ p ys,xs = [.ref p]∧(SqL X.K H p ys ∨ SqT X.K H p ys)∧∀ l,H l = none->Q (.ref l) (upd H l (.lst ys))):=by
 intro pins s σ H xs us Q I r h
 obtain ⟨p,ys,rfl,hq,q⟩:=h
 obtain ⟨u,rfl,rx⟩:=zcZ r
 cases rx
 have fin:∀ (its:List Value),Vals ys its->ys.length ≤ sizeLine->∀ (h':Heap) (c':Nat),(∀ b o',s.heap.get? b = some o'->h'.get? b = some o') ->
   h'.get? s.heap.objs.size = some { cls:=.type "list",dict:=none,data:=.seq its.toArray c',slots:=#[] }->EP X pins σ Q (.ref s.heap.objs.size) { s with heap:=h' }:=fun its r' hz h' c' kp e =>
  ⟨.ref s.heap.objs.size,_,I.laid (t':=s.toks) kp (Nat.le_refl _) (show zaY X.prog X.w _ h' _ (.lst ys) from ⟨hz,its,c',r',e⟩),rfl,q _ (I.hok.fresh (Nat.le_refl _))⟩
 rcases hq with hq | hq
 ·obtain ⟨its,r',pl,hz⟩:=I.list hq
  have hlen:=r'.length
  obtain ⟨o,ho,hc,n,hd⟩:=pl.isList
  exact call_list_seq p (.inl rfl) ho hc hd (fun h' c' kp e=>fin its r' hz h' c' kp e) (by simp only [List.size_toArray] <;> omega)
 ·obtain ⟨its,r',pl,hz⟩:=I.tuple hq
  have hlen:=r'.length
  obtain ⟨o,ho,hc,n,hd⟩:=pl
  exact call_list_seq p (.inr rfl) ho hc hd (fun h' c' kp e=>fin its r' hz h' c' kp e) (by simp only [List.size_toArray] <;> omega)
theorem call_tuple_of:zbN X (.type "tuple") (fun xs H Q=>∃ p ys,xs = [.ref p]∧((SqL X.K H p ys∧∀ l,H l = none->Q (.ref l) (upd H l (.tup ys))) ∨ (SqT X.K H p ys∧Q (.ref p) H))):=by
 intro pins s σ H xs us Q I r h
 obtain ⟨p,ys,rfl,h⟩:=h
 obtain ⟨u,rfl,rx⟩:=zcZ r
 cases rx
 rcases h with ⟨hq,q⟩ | ⟨hq,q⟩
 ·obtain ⟨its,r',pl,hz⟩:=I.list hq
  have hlen:=r'.length
  refine call_tuple_list pl.isList (fun h' kp=>?_) (by simp only [List.size_toArray] <;> omega)
  have I1:Inv X pins σ H { s with heap:=h' }:=I.kept (t':=s.toks) kp
  have I2:Inv X pins σ (upd H h'.objs.size (.tup ys)) { s with heap:=h'.push { cls:=.type "tuple",data:=.seq its.toArray } } :=
   I1.laid (t':=s.toks) (fun b o e=>Heap.get?_push_of_some _ e) (Nat.le_refl _) (show zaY X.prog X.w _ _ _ (.tup ys) from ⟨hz,its,r',IsTup.new _ _⟩)
  exact ⟨.ref h'.objs.size,_,I2,rfl,q _ (I1.hok.fresh (Nat.le_refl _))⟩
 ·obtain ⟨its,r',pl,hz⟩:=I.tuple hq
  exact call_tuple_same pl ⟨.ref p,H,I,rfl,q⟩
noncomputable def tyV (K:PySem.W.Frag) (T:String) (x:V) (H:Hp):Prop:=match x with
 | .str _=>T = "str"
 | .int _=>T = "int"
 | .ref p=>(T = "list"∧∃ xs,SqL K H p xs) ∨ (T = "tuple"∧∃ o,K.lookup p = some o∧o.cls = .type "tuple"∧o.dict = none) ∨
   (T = "dict"∧((∃ kvs,H p = some (.dK kvs)) ∨ ∃ kvs,H p = some (.dT kvs))) ∨ (T = "set"∧∃ S n,H p = some (.set S n))
 | _=>False
theorem zjh {pins:List (Addr × Obj)} {σ:St} {H:Hp} {s:Shared} {T:String} {x:V} {v:Value} (I:Inv X pins σ H s) (r:RelV x v) (ty:tyV X.K T x H) :
  s.TypeIs v T∧∀ a,v = .ref a->∃ ob,s.heap.get? a = some ob∧ob.dict = none:=by
 cases x with
 | str z =>
  obtain ⟨t,rfl⟩:=r
  cases (show T = "str" from ty)
  exact ⟨typeIs_str s z t,fun _ e=>nomatch e⟩
 | int i =>
  obtain ⟨t,rfl⟩:=r
  cases (show T = "int" from ty)
  exact ⟨typeIs_int s i t,fun _ e=>nomatch e⟩
 | ref p =>
  cases r
  rcases ty with ⟨rfl,xs,hq⟩ | ⟨rfl,o,hk,hc,hd⟩ | ⟨rfl,hk⟩ | ⟨rfl,S,n,hk⟩
  ·obtain ⟨its,_,pl,_⟩:=I.list hq
   refine ⟨pl.isList.typeIs,fun a e=>?_⟩
   cases e
   obtain ⟨o,n,e,c,hd,_⟩:=pl
   exact ⟨o,e,hd⟩
  ·refine ⟨⟨o,I.kIn p o hk,hc⟩,fun a e=>?_⟩
   cases e
   exact ⟨o,I.kIn _ o hk,hd⟩
  ·have z:∃ o,s.heap.get? p = some o∧o.ExactDict:=by
    rcases hk with ⟨kvs,hk⟩ | ⟨kvs,hk⟩
    ·obtain ⟨_,_,_,_,o,_,_,e,ex,_⟩:=I.hok p _ hk
     exact ⟨o,e,ex⟩
    ·obtain ⟨_,_,_,_,o,_,_,e,ex,_⟩:=I.hok p _ hk
     exact ⟨o,e,ex⟩
   obtain ⟨o,e,ex⟩:=z
   refine ⟨⟨o,e,ex.1⟩,fun a e2=>?_⟩
   cases e2
   exact ⟨o,e,ex.2.1⟩
  ·obtain ⟨o,_,_,_,e,ex,_⟩:=I.hok p _ hk
   refine ⟨⟨o,e,ex.1⟩,fun a e2=>?_⟩
   cases e2
   exact ⟨o,e,ex.2.1⟩
 | _=>exact False.elim ty
noncomputable def tBM (K:PySem.W.Frag) (T:String) (r:V->List V->Hp->VK->Prop) (to:TE) (t:TA):TE:=fun σ H Q=>to σ H fun x H1=>tyV K T x H1∧t σ H1 fun xs H2=>r x xs H2 Q
variable {o e:Expr} {es:List Expr} {to:TE} {t:TA} {name:Str} {apos cpos:Pos} {T id:String} {r:V->List V->Hp->VK->Prop}
theorem zgj (pa:PlainAttrs T) (slot:Slot T name id) (hty:typeOf (.builtin id) = pure (.type "method_descriptor")) (hm:MtR X id r) (ho:PE X o to) (ha:PA X (e :: es) t)
  (hbase:attributeBase o name X.env (eval o X.env) = eval o X.env:=by rfl)
  (hfew:((backTo cpos (starEach (e :: es) X.env)).all (fun x=>!x.1) && (backToKw cpos (keywordEach [] X.env)).all (fun x=>x.1.isSome)
   && decide ((e :: es).length + ([]:List Keyword).length + (if ([]:List Keyword).isEmpty then 0 else 1) < 30)) = true:=by rfl)
  (hline:(apos.endLine == cpos.line) = true:=by rfl) (hs:starEach (e :: es) X.env = (false,eval e X.env) :: starEach es X.env:=by rfl) (hplain:(backTo cpos (starEach es X.env)).any (·.1) = false:=by rfl) :
  PE X (.Call (.Attribute o name apos) (e :: es) [] cpos) (tBM X.K T r to t):=by
 intro pins s σ H Q I h
 refine wpAny_Call_method_late hbase hfew hline rfl (thn (ho pins s σ H _ I h) fun v s1 zq_=>?_)
 obtain ⟨x,H1,I1,r1,ty,q1⟩:=zq_
 obtain ⟨h1,h2⟩:=zjh I1 r1 ty
 refine ⟨T,id,pa,slot,hty,h1,h2,?_⟩
 have hA:=ha cpos pins s1 σ H1 _ I1 q1
 rw [hs] at hA ⊢
 refine Calls.callWith_builtin (by show (false || (backTo cpos (starEach es X.env)).any (·.1)) = false; rw [hplain] <;> rfl) (Calls.evalArgs_plain ?_)
 exact thn hA fun us s2 ⟨vs,H2,I2,r2,q2⟩=>hm pins s2 σ H2 x vs v us Q I2 r1 r2 q2
/- xs.append(e),list.index on a module's tuple .. are MtR facts of 06m -/
end
end L2
namespace L2
open PySem PySem.Spec PyProof.Rows
noncomputable def MtM (X:Cx) (id:String) (r:V->List V->Hp->VK->Prop):Prop :=
 ∀ (pins:List (Addr × Obj)) (s:Shared) (σ:St) (H:Hp) (x:V) (xs:List V) (v:Value) (us:List Value) (Q:VK),Inv X pins σ H s->RelV x v->Vals xs us->r x xs H Q ->
  wpAny (model X.prog X.w) X.A (call (.builtin id) (v :: us)) (EP X pins σ Q) X.xe s
theorem Vals.one:∀ {x:V} {us:List Value},Vals [x] us->∃ u,us = [u]∧RelV x u
 | _,_,.cons r .nil=>⟨_,rfl,r⟩
theorem Vals.two:∀ {x y:V} {us:List Value},Vals [x,y] us->∃ u v,us = [u,v]∧RelV x u∧RelV y v
:=by
 intro x y us h
 cases h with
 | cons r t=>cases t with
  | cons q t=>cases t; exact ⟨_,_,rfl,r,q⟩
theorem Vals.rep {xs:List V} {us:List Value} (h:Vals xs us):∀ k:Nat,Vals (List.replicate k xs).flatten (List.replicate k us).flatten
 | 0=>.nil
 | k + 1=>by
  rw [List.replicate_succ,List.replicate_succ,List.flatten_cons,List.flatten_cons]
  exact Vals.append h (Vals.rep h k)
theorem zeb (its:List Value):∀ (k:Nat) (acc:List Value),
  List.foldl (fun x1 x2=>x1 ++ x2) acc.toArray (List.replicate k its.toArray) = (acc ++ (List.replicate k its).flatten).toArray
 | 0,acc=>by simp
 | k + 1,acc=>by
  have e:acc.toArray ++ its.toArray = (acc ++ its).toArray:=by simp
  have e2:(acc ++ its) ++ (List.replicate k its).flatten = acc ++ (List.replicate (k + 1) its).flatten:=by
   rw [List.replicate_succ,List.flatten_cons,List.append_assoc]
  rw [← e2,← zeb its k (acc ++ its),← e,List.replicate_succ,List.foldl_cons]
section
variable {X:Cx} {pins:List (Addr × Obj)} {σ:St} {H:Hp} {s:Shared} {l b:Addr} {xs ys zs:List V}
theorem Inv.lset {its its':List Value} {n:Nat} {f:Array Value->Array Value} {t':Nat} (I:Inv X pins σ H s) (hH:H l = some (.lst xs))
  (e:s.heap.get? l = some { cls:=.type "list",data:=.seq its.toArray n }) (hf:f its.toArray = its'.toArray) (hv:Vals ys its') (hz:ys.length ≤ sizeLine) :
  Inv X pins σ (upd H l (.lst ys)) { s with heap:=s.heap.update l (Obj.mapSeq f),toks:=t' }:=by
 have q:=PySem.IsL.update e f
 rw [hf] at q
 refine I.write (x:=l) (e:=l) (by rw [hH]; exact trivial) (.inl rfl) (fun b' u hb hu=>(Heap.get?_update_other s.heap (Obj.mapSeq f) (Ne.symm hb)).trans hu) ⟨_,q⟩ ?_
 exact ⟨hz,its',_,hv,q⟩
theorem Inv.lnew {its:List Value} {t':Nat} (I:Inv X pins σ H s) (hv:Vals ys its) (hz:ys.length ≤ sizeLine) :
  Inv X pins σ (upd H s.heap.objs.size (.lst ys)) { s with heap:=s.heap.push { cls:=.type "list",data:=.seq its.toArray },toks:=t' } :=
 I.laid (fun _ _ q=>Heap.get?_push_of_some _ q) (Nat.le_refl _) ⟨hz,its,0,hv,Heap.get?_push_size _ rfl⟩
theorem Inv.fresh (I:Inv X pins σ H s):H s.heap.objs.size = none:=I.hok.fresh (Nat.le_refl _)
theorem Inv.lstM (I:Inv X pins σ H s) (hH:H l = some (.lst xs)):xs.length ≤ sizeLine∧∃ (its:List Value) (n:Nat),Vals xs its∧xs.length = its.length∧s.heap.get? l = some { cls:=.type "list",data:=.seq its.toArray n }:=by
 obtain ⟨z,its,n,r,e⟩:=I.hok l _ hH
 exact ⟨z,its,n,r,r.length,e⟩
theorem zhx {n:Nat} (h:n ≤ sizeLine):Builtin.List.listTooLong n = false:=by
 unfold Builtin.List.listTooLong
 exact decide_eq_false (by omega)
end
section
variable {X:Cx}
noncomputable def rAppend:V->List V->Hp->VK->Prop:=fun x vs H Q=>∃ l xs y,x = .ref l∧vs = [y]∧H l = some (.lst xs)∧xs.length < sizeLine∧Q .non (upd H l (.lst (xs ++ [y])))
theorem mt_append:MtM X "list.append" rAppend:=by
 intro pins s σ H x vs v us Q I rx rv h
 obtain ⟨l,xs,y,rfl,rfl,hH,hz,q⟩:=h
 cases rx
 obtain ⟨u,rfl,ru⟩:=rv.one
 obtain ⟨z,its,n,r,hl,e⟩:=I.lstM hH
 refine call_meets F.slot_list_append ⟨_,e,rfl⟩ F.entry_list_append (F.args_list_append_2 _ _) (PySem.list_append l its.toArray n u (by rw [List.size_toArray]; omega)) ⟨e,?_⟩
 refine ⟨.non,_,I.lset (its':=its ++ [u]) hH e (by simp) (r.append (.cons ru .nil)) ?_,rfl,q⟩
 rw [List.length_append,List.length_singleton]
 omega
noncomputable def rCat:R2:=fun x y H Q=>∃ l b xs zs,x = .ref l∧y = .ref b∧H l = some (.lst xs)∧H b = some (.lst zs)∧xs.length + zs.length ≤ sizeLine∧∀ p,H p = none->Q (.ref p) (upd H p (.lst (xs ++ zs)))
theorem op_cat:OpR X (binaryOp .Add) rCat:=by
 intro pins s σ H x y v u Q I rx ry h
 obtain ⟨l,b,xs,zs,rfl,rfl,hH,hB,hz,q⟩:=h
 cases rx
 cases ry
 obtain ⟨z,its,n,r,hl,e⟩:=I.lstM hH
 obtain ⟨z2,its2,n2,r2,hl2,e2⟩:=I.lstM hB
 refine PySem.P.add_list e e2 ?_ (by rw [List.size_toArray,List.size_toArray]; omega)
 have ea:its.toArray ++ its2.toArray = (its ++ its2).toArray:=by simp
 rw [ea]
 exact ⟨.ref _,_,I.lnew (t':=s.toks) (r.append r2) (by rw [List.length_append]; omega),rfl,q _ I.fresh⟩
noncomputable def rRep:R2:=fun x y H Q=>∃ l k xs,x = .ref l∧y = .int k∧H l = some (.lst xs)∧-(2 ^ 63) ≤ k∧k < 2 ^ 63∧xs.length * k.toNat ≤ sizeLine ∧
 ∀ p,H p = none->Q (.ref p) (upd H p (.lst (List.replicate k.toNat xs).flatten))
theorem ziw {α:Type} (xs:List α) (k:Nat):(List.replicate k xs).flatten.length = k * xs.length:=by
 induction k with
 | zero=>simp
 | succ k ih=>rw [List.replicate_succ,List.flatten_cons,List.length_append,ih,Nat.succ_mul,Nat.add_comm]
theorem op_rep:OpR X (binaryOp .Mult) rRep:=by
 intro pins s σ H x y v u Q I rx ry h
 obtain ⟨l,k,xs,rfl,rfl,hH,h1,h2,hz,q⟩:=h
 cases rx
 obtain ⟨t,rfl⟩:=ry
 obtain ⟨z,its,n,r,hl,e⟩:=I.lstM hH
 have hlen:its.toArray.size * k.toNat ≤ sizeLine:=by rw [List.size_toArray,← hl]; exact hz
 have hcap:¬ its.toArray.size * k.toNat > (2 ^ 63 - 1) / 8:=by
  have:(sizeLine:Nat) ≤ (2 ^ 63 - 1) / 8:=by decide
  omega
 have hfit:¬ (!Builtin.List.listFitsIndex k) = true:=by
  rw [fitsIndex_both h1 h2]
  exact Bool.false_ne_true
 have hlong:¬ Builtin.List.listTooLong (its.toArray.size * k.toNat) = true:=by
  rw [zhx hlen]
  exact Bool.false_ne_true
 have hnew:List.foldl (fun x1 x2=>x1 ++ x2) #[] (List.replicate (if its.toArray.isEmpty = true then 0 else k.toNat) its.toArray) = (List.replicate k.toNat its).flatten.toArray:=by
  have f0:∀ m:Nat,List.foldl (fun x1 x2=>x1 ++ x2) #[] (List.replicate m its.toArray) = (List.replicate m its).flatten.toArray:=fun m=>by
   have:=zeb its m []
   rw [List.nil_append] at this
   exact this
  rw [f0]
  cases its with
  | nil=>simp
  | cons a r'=>rw [if_neg (by simp)]
 refine wpAny_binaryOp_repeat_ref (T:="list") (U:="int") (by decide) ⟨_,e,rfl⟩ (fun s'=>typeIs_int s' k t) noFill_list_mul F.fills_int_mul F.slot_int_rmul repeat_list F.slot_int_index.lookup
  (call_meets F.slot_int_rmul (typeIs_int s k t) F.entry_int_rmul (F.args_int_rmul_2 _ _) (int___rmul___int_list k t l its.toArray n)
   ⟨e,rfl,⟨_,e,rfl⟩,call_meets F.slot_list_mul ⟨_,e,rfl⟩ F.entry_list_mul (F.args_list_mul_2 _ _) (AutoListH.list___mul___list_int_3 l its.toArray n k t hfit hcap hlong) ⟨e,?_⟩⟩)
 rw [hnew]
 exact ⟨.ref _,_,I.lnew (t':=s.toks) (r.rep k.toNat) (by rw [ziw,Nat.mul_comm]; exact hz),rfl,q _ I.fresh⟩
end
section
variable {prog:Program} {w:World} {A:Around} {E:Value->Shared->Prop} {s:Shared}
end
section
variable {X:Cx}
end
end L2
namespace L2
open PySem PySem.Spec PyProof.Rows
section
variable {κ:Type} [DecidableEq κ]
noncomputable def valV (kvs:List (κ × V)) (k:κ):Option V:=(kvs.find? fun kv=>decide (kv.1 = k)).map (·.2)
noncomputable def putK (kvs:List (κ × V)) (k:κ) (v:V):List (κ × V) :=
 if (kvs.any fun kv=>decide (kv.1 = k)) = true then kvs.map (fun kv=>if kv.1 = k then (kv.1,v) else kv) else kvs ++ [(k,v)]
theorem zaO {p:κ × V} {r:List (κ × V)} {k:κ} (e:p.1 = k):valV (p :: r) k = some p.2:=by simp [valV,List.find?_cons,e]
theorem zaP {p:κ × V} {r:List (κ × V)} {k:κ} (e:¬ p.1 = k):valV (p :: r) k = valV r k:=by simp [valV,List.find?_cons,e]
theorem zbx (k:κ):∀ kvs:List (κ × V),(kvs.any fun kv=>decide (kv.1 = k)) = (valV kvs k).isSome
 | []=>rfl
 | p :: r=>by
  rw [List.any_cons]
  by_cases e:p.1 = k
  ·simp only [zaO e,decide_eq_true e,Bool.true_or,Option.isSome_some]
  ·rw [zaP e,decide_eq_false e,Bool.false_or]; exact zbx k r
theorem zeR (k j:κ) (y:V):∀ kvs:List (κ × V),valV (kvs.map fun kv=>if kv.1 = k then (kv.1,y) else kv) j = (valV kvs j).map fun x=>if j = k then y else x
 | []=>rfl
 | p :: r=>by
  have ih:=zeR k j y r
  rw [List.map_cons]
  by_cases h:p.1 = k
  ·rw [if_pos h]
   by_cases e:p.1 = j
   ·rw [zaO (p:=(p.1,y)) e,zaO e,Option.map_some,if_pos (e.symm.trans h)]
   ·rw [zaP (p:=(p.1,y)) e,zaP e,ih]
  ·rw [if_neg h]
   by_cases e:p.1 = j
   ·rw [zaO (p:=p) e,zaO e,Option.map_some,if_neg (fun z=>h (e.trans z))]
   ·rw [zaP (p:=p) e,zaP e,ih]
theorem zea (k j:κ) (y:V):∀ kvs:List (κ × V),valV kvs k = none->valV (kvs ++ [(k,y)]) j = if j = k then some y else valV kvs j
 | [],_=>by
  by_cases e:k = j
  ·rw [if_pos e.symm]; exact zaO (p:=(k,y)) e
  ·rw [if_neg (fun z=>e z.symm)]; exact zaP (p:=(k,y)) e
 | p :: r,hn=>by
  rw [List.cons_append]
  have hk:¬ p.1 = k:=fun z=>by rw [zaO z] at hn; cases hn
  rw [zaP hk] at hn
  have ih:=zea k j y r hn
  by_cases e:p.1 = j
  ·rw [zaO e,zaO e,if_neg (fun z=>hk (e.trans z))]
  ·rw [zaP e,zaP e,ih]
theorem zfi (kvs:List (κ × V)) (k j:κ) (y:V):valV (putK kvs k y) j = if j = k then some y else valV kvs j:=by
 unfold putK
 by_cases a:(kvs.any fun kv=>decide (kv.1 = k)) = true
 ·rw [if_pos a,zeR]
  rw [zbx] at a
  by_cases e:j = k
  ·obtain ⟨x,hx⟩:=Option.isSome_iff_exists.mp a
   rw [if_pos e,e,hx,Option.map_some,if_pos rfl]
  ·rw [if_neg e]
   cases valV kvs j with
   | none=>rfl
   | some x=>rw [Option.map_some,if_neg e]
 ·rw [if_neg a]
  refine zea k j y kvs ?_
  rw [zbx] at a
  cases q:valV kvs k with
  | none=>rfl
  | some x=>rw [q] at a; exact (a rfl).elim
theorem zaD (kvs:List (κ × V)) (k:κ) (v:V):(putK kvs k v).length ≤ kvs.length + 1:=by
 unfold putK
 split
 ·rw [List.length_map]; omega
 ·rw [List.length_append,List.length_cons,List.length_nil]; omega
theorem zg6 {kvs:List (κ × V)} {k:κ} (v:V) (h:valV kvs k = none):putK kvs k v = kvs ++ [(k,v)]:=by
 unfold putK
 rw [zbx,h]
 exact if_neg (by decide)
theorem RelO.isSome_eq {o:Option V} {u:Option Value} (r:RelO o u):o.isSome = u.isSome:=by
 cases o with
 | none=>cases u with
  | none=>rfl
  | some _=>exact (show False from r).elim
 | some _=>cases u with
  | none=>exact (show False from r).elim
  | some _=>rfl
theorem RelO.getD {o:Option V} {u:Option Value} {d:V} {d':Value} (r:RelO o u) (rd:RelV d d'):RelV (o.getD d) (u.getD d'):=by
 cases o with
 | none=>cases u with
  | none=>exact rd
  | some _=>exact (show False from r).elim
 | some _=>cases u with
  | none=>exact (show False from r).elim
  | some _=>exact r
theorem KV.val {kvs:List (κ × V)} {vs:List (κ × Value)} (r:KV kvs vs) (k:κ):RelO (valV kvs k) (valueAt vs k):=by
 unfold KV at r
 induction r with
 | nil=>exact True.intro
 | @cons p q ps qs h t ih =>
  obtain ⟨h1,h2⟩:=h
  by_cases e:p.1 = k
  ·have e':q.1 = k:=h1.symm.trans e
   have b:valueAt (q :: qs) k = some q.2:=by simp [valueAt,List.find?_cons,e']
   rw [zaO e,b]; exact h2
  ·have e':¬ q.1 = k:=fun z=>e (h1.trans z)
   have b:valueAt (q :: qs) k = valueAt qs k:=by simp [valueAt,List.find?_cons,e']
   rw [zaP e,b]; exact ih
theorem KV.any {kvs:List (κ × V)} {vs:List (κ × Value)} (r:KV kvs vs) (k:κ):(kvs.any fun kv=>decide (kv.1 = k)) = vs.any fun kv=>decide (kv.1 = k):=by
 unfold KV at r
 induction r with
 | nil=>rfl
 | cons h t ih=>rw [List.any_cons,List.any_cons,ih,h.1]
theorem KV.repl {kvs:List (κ × V)} {vs:List (κ × Value)} (r:KV kvs vs) (k:κ) {y:V} {u:Value} (ry:RelV y u) :
  KV (kvs.map fun kv=>if kv.1 = k then (kv.1,y) else kv) (vs.map fun kv=>if kv.1 = k then (kv.1,u) else kv):=by
 unfold KV at r ⊢
 induction r with
 | nil=>exact .nil
 | @cons p q ps qs h t ih =>
  rw [List.map_cons,List.map_cons]
  refine .cons ?_ ih
  obtain ⟨h1,h2⟩:=h
  by_cases e:p.1 = k
  ·rw [if_pos e,if_pos (h1.symm.trans e)]; exact ⟨h1,ry⟩
  ·rw [if_neg e,if_neg (fun z=>e (h1.trans z))]; exact ⟨h1,h2⟩
theorem KV.put {kvs:List (κ × V)} {vs:List (κ × Value)} (r:KV kvs vs) (k:κ) {y:V} {u:Value} (ry:RelV y u):KV (putK kvs k y) (stored vs k u):=by
 unfold putK stored
 rw [r.any k]
 by_cases e:(vs.any fun kv=>decide (kv.1 = k)) = true
 ·rw [if_pos e,if_pos e]; exact r.repl k ry
 ·rw [if_neg e,if_neg e]; exact Paired.snoc r ⟨rfl,ry⟩
theorem KV.length {kvs:List (κ × V)} {vs:List (κ × Value)} (r:KV kvs vs):kvs.length = vs.length:=Paired.length r
end
theorem zei {P:Program} {w:World} {k:Key} {u:Value} (r:RelV (kV k) u):(zae P w).is k u = true:=by
 cases k with
 | inl i=>obtain ⟨t,e⟩:=(show ∃ t,u = Value.int i t from r); subst e; exact zeC P w i t
 | inr x=>obtain ⟨t,e⟩:=(show ∃ t,u = Value.str x t from r); subst e; exact zep P w x t
theorem zdJ {P:Program} {w:World}:∀ {ks:List Key} {us:List Value},Vals (ks.map kV) us->ItemsAre (zae P w) ks us
 | [],_,r=>by rw [List.map_nil] at r; cases r; exact .nil
 | k :: ks,_,r=>by
  rw [List.map_cons] at r
  cases r with
  | cons h t=>exact .cons (zei h) (zdJ t)
abbrev KT (H:Hp):List (List Key × V)->List (List Key × Addr × Value)->Prop:=Paired fun p q=>p.1 = q.1∧H q.2.1 = some (.tup (p.1.map kV))∧RelV p.2 q.2.2
theorem KT.val {H:Hp} {kvs:List (List Key × V)} {xs:List (List Key × Addr × Value)} (r:KT H kvs xs) (k:List Key):RelO (valV kvs k) ((atKey xs k).map (·.2)):=by
 induction r with
 | nil=>exact True.intro
 | @cons p q ps qs h t ih =>
  obtain ⟨h1,_,h2⟩:=h
  by_cases e:p.1 = k
  ·have e':q.1 = k:=h1.symm.trans e
   have b:atKey (q :: qs) k = some q.2:=by simp [atKey,List.find?_cons,e']
   rw [zaO e,b]; exact h2
  ·have e':¬ q.1 = k:=fun z=>e (h1.trans z)
   have b:atKey (q :: qs) k = atKey qs k:=by simp [atKey,List.find?_cons,e']
   rw [zaP e,b]; exact ih
theorem KT.repl {H:Hp} {kvs:List (List Key × V)} {xs:List (List Key × Addr × Value)} (r:KT H kvs xs) (k:List Key) {y:V} {u:Value} (ry:RelV y u) :
  KT H (kvs.map fun kv=>if kv.1 = k then (kv.1,y) else kv) (xs.map (putAt k u)):=by
 induction r with
 | nil=>exact .nil
 | @cons p q ps qs h t ih =>
  rw [List.map_cons,List.map_cons]
  refine .cons ?_ ih
  obtain ⟨h1,h2,h3⟩:=h
  unfold putAt
  by_cases e:p.1 = k
  ·rw [if_pos e,if_pos (h1.symm.trans e)]; exact ⟨h1,h2,ry⟩
  ·rw [if_neg e,if_neg (fun z=>e (h1.trans z))]; exact ⟨h1,h2,h3⟩
theorem KT.put {H:Hp} {kvs:List (List Key × V)} {xs:List (List Key × Addr × Value)} (r:KT H kvs xs) (k:List Key) {b:Addr} {y:V} {u:Value} (hb:H b = some (.tup (k.map kV))) (ry:RelV y u) :
  KT H (putK kvs k y) (storedH xs k b u):=by
 have e:(kvs.any fun kv=>decide (kv.1 = k)) = (atKey xs k).isSome:=by
  rw [zbx,(r.val k).isSome_eq,Option.isSome_map]
 unfold putK storedH
 rw [e]
 by_cases q:(atKey xs k).isSome = true
 ·rw [if_pos q,if_pos q]; exact r.repl k ry
 ·rw [if_neg q,if_neg q]; exact Paired.snoc r ⟨rfl,hb,ry⟩
theorem KT.keeps {H H':Hp} {kvs:List (List Key × V)} {xs:List (List Key × Addr × Value)} (r:KT H kvs xs) (ht:∀ b ys,H b = some (.tup ys)->H' b = some (.tup ys)):KT H' kvs xs :=
 Paired.mapP r fun _ _ z=>⟨z.1,ht _ _ z.2.1,z.2.2⟩
section
variable {P:Program} {w:World} {H:Hp} {h:Heap} {a:Addr}
theorem ziL {u:HO} (ok:HOk P w H h) (e:Rd H a u):zaY P w H h a u:=e.ok ok
theorem zeo {kvs:List (Key × V)} (ok:HOk P w H h) (e:Rd H a (.dK kvs)):kvs.length ≤ sizeLine∧(a == sysModules) = false∧∃ vs,KV kvs vs∧h.DictOf (zae P w) a vs :=
 show zaY P w H h a (.dK kvs) from ziL ok e
theorem ziZ {kvs:List (Key × V)} (ok:HOk P w H h) (e:H a = some (.dK kvs)):kvs.length ≤ sizeLine∧(a == sysModules) = false∧∃ vs,KV kvs vs∧h.DictOf (zae P w) a vs:=zeo ok (.inl e)
theorem zcQ {ks:List Key} (ok:HOk P w H h) (e:H a = some (.tup (ks.map kV))):(tupleKind (zae P w)).is h ks a:=by
 obtain ⟨_,its,r,o,h1,h2,n,h3⟩:=(show zaY P w H h a (.tup (ks.map kV)) from ok a _ e)
 exact ⟨o,its.toArray,n,h1,h2,h3,by simpa using zdJ r⟩
theorem zer {kvs:List (List Key × V)} (ok:HOk P w H h) (e:Rd H a (.dT kvs)):kvs.length ≤ sizeLine∧(a == sysModules) = false ∧
  ∃ xs,KT H kvs xs∧h.DictOfH (tupleKind (zae P w)) a xs:=by
 obtain ⟨z,y,xs,r,o,es,ep,h1,h2,h3,h4,h5⟩:=(show zaY P w H h a (.dT kvs) from ziL ok e)
 refine ⟨z,y,xs,r,o,es,ep,h1,h2,h3,h4,fun x hx=>?_,h5⟩
 have all:∀ {l:List (List Key × V)} {m:List (List Key × Addr × Value)},KT H l m->∀ x ∈ m,(tupleKind (zae P w)).is h x.1 x.2.1:=by
  intro l m q
  induction q with
  | nil=>intro x hx; exact nomatch hx
  | @cons p q ps qs hq t ih =>
   intro x hx
   rcases List.mem_cons.mp hx with e | hx
   ·subst e
    exact zcQ ok (by rw [← hq.1]; exact hq.2.1)
   ·exact ih x hx
 exact all r x hx
theorem dt_of {kvs:List (List Key × V)} (ok:HOk P w H h) (e:H a = some (.dT kvs)):kvs.length ≤ sizeLine∧(a == sysModules) = false ∧
  ∃ xs,KT H kvs xs∧h.DictOfH (tupleKind (zae P w)) a xs:=zer ok (.inl e)
end
noncomputable def DGet (H:Hp) (a:Addr) (y:V) (r:Option V):Prop :=
 (∃ kvs k,Rd H a (.dK kvs)∧y = kV k∧r = valV kvs k) ∨ ∃ kvs k b,Rd H a (.dT kvs)∧y = .ref b∧H b = some (.tup (k.map kV))∧r = valV kvs k
noncomputable def DPut (H:Hp) (a:Addr) (y v:V) (H':Hp):Prop :=
 (∃ kvs k,H a = some (.dK kvs)∧y = kV k∧kvs.length < sizeLine∧H' = upd H a (.dK (putK kvs k v))) ∨
 ∃ kvs k b,H a = some (.dT kvs)∧y = .ref b∧H b = some (.tup (k.map kV))∧kvs.length < sizeLine∧H' = upd H a (.dT (putK kvs k v))
theorem DGet.k {H:Hp} {a:Addr} {kvs:List (Key × V)} {k:Key} (e:H a = some (.dK kvs)):DGet H a (kV k) (valV kvs k):=.inl ⟨kvs,k,.inl e,rfl,rfl⟩
theorem DPut.k {H:Hp} {a:Addr} {kvs:List (Key × V)} {k:Key} {v:V} (e:H a = some (.dK kvs)) (hl:kvs.length < sizeLine):DPut H a (kV k) v (upd H a (.dK (putK kvs k v))):=.inl ⟨kvs,k,e,rfl,hl,rfl⟩
section
variable {X:Cx} {pins:List (Addr × Obj)} {σ:St} {H:Hp} {s:Shared} {a:Addr} {y v:V} {u r:Value} {o:Option V} {A:Around} {E:Value->Shared->Prop}
theorem Inv.big (I:Inv X pins σ H s):sysModules < s.heap.objs.size:=by
 have h:mainGlobals < s.heap.objs.size:=(I.mod.glob.keeps I.bk).lt
 exact Nat.lt_trans (by decide) h
theorem zgo {Q:Value->Shared->Prop} (hu:A.units + 1 < cLine) (I:Inv X pins σ H s) (g:DGet H a y (some v)) (ry:RelV y u) (h:∀ w' s',Inv X pins σ H s'->RelV v w'->Q w' s') :
  wpAny (model X.prog X.w) A (getItem (.ref a) u) Q E s:=by
 rcases g with ⟨kvs,k,e,ey,l⟩ | ⟨kvs,k,b,e,ey,eb,l⟩
 ·subst ey
  obtain ⟨z,hd,vs,rel,dd⟩:=zeo I.hok e
  obtain ⟨w',hw,rw'⟩:=RelO.some_of (v:=v) (o:=valueAt vs k) (by rw [l]; exact rel.val k)
  exact wpAny_getItem_of (zei ry) dd.mapOf hw (h w' _ (I.tok _) rw')
 ·subst ey
  cases (show u = Value.ref b from ry)
  obtain ⟨z,hd,xs,rel,dd⟩:=zer I.hok e
  obtain ⟨w',hw,rw'⟩:=RelO.some_of (v:=v) (o:=(atKey xs k).map (·.2)) (by rw [l]; exact rel.val k)
  obtain ⟨p,hp,hp2⟩:=Option.map_eq_some_iff.mp hw
  refine wpAny_getItem_heap (tupleKind_room_in1 hu) (zcQ I.hok eb) dd hp ?_
  rw [hp2]
  exact h w' _ (I.tok _) rw'
theorem d_in {Q:Value->Shared->Prop} (hu:A.units + 1 < cLine) (I:Inv X pins σ H s) (g:DGet H a y o) (ry:RelV y u) (h:∀ s',Inv X pins σ H s'->Q (.bool o.isSome) s') :
  wpAny (model X.prog X.w) A (compareOp .In u (.ref a)) Q E s:=by
 rcases g with ⟨kvs,k,e,ey,l⟩ | ⟨kvs,k,b,e,ey,eb,l⟩
 ·subst ey
  obtain ⟨z,hd,vs,rel,dd⟩:=zeo I.hok e
  refine wpAny_in_of (zei ry) hd dd.mapOf ?_
  rw [← (rel.val k).isSome_eq,← l]
  exact h _ (I.tok _)
 ·subst ey
  cases (show u = Value.ref b from ry)
  obtain ⟨z,hd,xs,rel,dd⟩:=zer I.hok e
  refine wpAny_in_heap (tupleKind_room_in1 hu) (zcQ I.hok eb) hd dd ?_
  have q:=(rel.val k).isSome_eq
  rw [Option.isSome_map] at q
  rw [← q,← l]
  exact h _ (I.tok _)
theorem zh3 {Q:Value->Shared->Prop} (hu:A.units + 1 < cLine) (I:Inv X pins σ H s) (g:DGet H a y o) (ry:RelV y u) (h:∀ s',Inv X pins σ H s'->Q (.bool (!o.isSome)) s') :
  wpAny (model X.prog X.w) A (compareOp .NotIn u (.ref a)) Q E s:=by
 rcases g with ⟨kvs,k,e,ey,l⟩ | ⟨kvs,k,b,e,ey,eb,l⟩
 ·subst ey
  obtain ⟨z,hd,vs,rel,dd⟩:=zeo I.hok e
  refine wpAny_notIn_of (zei ry) hd dd.mapOf ?_
  rw [← (rel.val k).isSome_eq,← l]
  exact h _ (I.tok _)
 ·subst ey
  cases (show u = Value.ref b from ry)
  obtain ⟨z,hd,xs,rel,dd⟩:=zer I.hok e
  refine wpAny_notIn_heap (tupleKind_room_in1 hu) (zcQ I.hok eb) hd dd ?_
  have q:=(rel.val k).isSome_eq
  rw [Option.isSome_map] at q
  rw [← q,← l]
  exact h _ (I.tok _)
theorem zeE {h':Heap} {t':Nat} {ob:HO} (I:Inv X pins σ H s) (mu:Mut (H a)) (hs:Heap.SameBut a s.heap h') (he:∃ q,h'.get? a = some q) (new:zaY X.prog X.w (upd H a ob) h' a ob) :
  Inv X pins σ (upd H a ob) { s with heap:=h',toks:=t' } :=
 I.write (x:=a) (e:=a) mu (.inl rfl) (fun b q hb z=>(hs.2 b hb).trans z) he new
theorem zhC {P:Program} {w:World} {H':Hp} {h':Heap} {kvs:List (Key × V)} {vs:List (Key × Value)} (z:kvs.length ≤ sizeLine) (hd:(a == sysModules) = false) (rel:KV kvs vs) (dd:h'.DictOf (zae P w) a vs) :
  zaY P w H' h' a (.dK kvs):=⟨z,hd,vs,rel,dd⟩
theorem zf6 {H':Hp} {Q:Unit->Shared->Prop} (hu:A.units + 1 < cLine) (I:Inv X pins σ H s) (g:DPut H a y v H') (ry:RelV y u) (rv:RelV v r) (h:∀ s',Inv X pins σ H' s'->Q () s') :
  wpAny (model X.prog X.w) A (setItem (.ref a) u r) Q E s:=by
 rcases g with ⟨kvs,k,e,ey,l,eH⟩ | ⟨kvs,k,b,e,ey,eb,l,eH⟩
 ·subst ey eH
  obtain ⟨z,hd,vs,rel,dd⟩:=ziZ I.hok e
  have hz:vs.length ≤ sizeLine:=by rw [← rel.length]; exact z
  have hl:(putK kvs k v).length ≤ sizeLine:=by have:=zaD kvs k v; omega
  refine wpAny_setItem_pairs (hsz:=hz) (zei ry) dd fun h' dd' hs=>h _ ?_
  have he:∃ q,h'.get? a = some q:=let ⟨q,_,_,hq,_⟩:=dd'; ⟨q,hq⟩
  exact zeE I (by rw [e]; exact True.intro) hs he (zhC hl hd (rel.put k rv) dd')
 ·subst ey eH
  cases (show u = Value.ref b from ry)
  obtain ⟨z,hd,xs,rel,dd⟩:=dt_of I.hok e
  have hz:xs.length ≤ sizeLine:=by rw [← Paired.length rel]; exact z
  have hl:(putK kvs k v).length ≤ sizeLine:=by have:=zaD kvs k v; omega
  refine wpAny_setItem_heap (hsz:=hz) (tupleKind_room_in1 hu) (zcQ I.hok eb) dd fun h' dd' hs=>h _ ?_
  obtain ⟨q,es,ep,hq,h2,h3,h4,_,h5⟩:=dd'
  refine zeE I (by rw [e]; exact True.intro) hs ⟨q,hq⟩ ⟨hl,hd,_,(rel.put k eb rv).keeps fun c ys ec=>?_,q,es,ep,hq,h2,h3,h4,h5⟩
  rw [zag (zg4 ec e (fun z=>nomatch z))]
  exact ec
end
section
variable {X:Cx} {pins:List (Addr × Obj)} {σ:St} {H:Hp} {s:Shared} {a:Addr} {kvs:List (Key × V)} {k:Key} {u:Value} {A:Around} {E:Value->Shared->Prop}
end
noncomputable def NoSl (i:Expr):Prop:=∀ ov iv,subscripted i false ov iv = operate [ov,iv] (getItem ov iv)
theorem zii {prog:Program} {w:World} {A:Around} {E:Value->Shared->Prop} {s:Shared} {env:Env} {value slice:Expr} {pos:Pos} {T id:String} {Q:Value->Shared->Prop}
  (hl:typeLookup (.type T) "__getitem__" = pure (some (.builtin id))) (hs:NoSl slice)
  (h:wpAny (model prog w) A (eval value env) (fun o s₁=>wpAny (model prog w) A (eval slice env) (fun i s₂=>s₂.TypeIs o T∧wpAny (model prog w) A (getItem o i) Q E s₂) E s₁) E s) :
  wpAny (model prog w) A (eval (.Subscript value slice pos) env) Q E s:=by
 refine Subscript_ (wpAny_mono h (fun o s₁ h₁=>wpAny_mono h₁ (fun i s₂ h₂=>?_) fun _ _ x=>x) fun _ _ x=>x)
 obtain ⟨hT,h₂⟩:=h₂
 unfold subscriptTail
 refine wpAny_bind ?_
 rw [getitemInPython_of_ne hT.not_modules]
 refine wpAny_bind (wpAny_specialOf hT hl ?_)
 have fin:wpAny (model prog w) A (subscripted slice false o i) (fun r s₃=>wpAny (model prog w) A (letTemporaryGo value o r >>= fun _=>pure r) Q E s₃) E s₂:=by
  rw [hs o i]
  exact wpAny_operating (wpAny_mono h₂ (fun r s₃ h₃=>wpAny_bind (wpAny_letTemporaryGo (wpAny_pure h₃))) fun _ _ x=>x)
 first
  | exact wpAny_pure (wpAny_bind fin)
  | exact wpAny_bind (wpAny_pure (wpAny_bind fin))
  | exact wpAny_bind fin
theorem zeu {X:Cx} {pins:List (Addr × Obj)} {σ:St} {H:Hp} {s:Shared} {a:Addr} {y:V} {o:Option V} (I:Inv X pins σ H s) (g:DGet H a y o):s.TypeIs (.ref a) "dict":=by
 rcases g with ⟨kvs,k,e,_,_⟩ | ⟨kvs,k,b,e,_,_,_⟩
 ·obtain ⟨_,_,vs,_,dd⟩:=zeo I.hok e
  exact dd.typeIs
 ·obtain ⟨_,_,xs,_,dd⟩:=zer I.hok e
  exact dd.typeIs
section
variable {X:Cx} {o i e value:Expr} {pos pos' tpos:Pos} {td ty tv:TE}
end
theorem zff {P:Program} {w:World} {H:Hp} (h:Heap) (hb:sysModules < h.objs.size):zaY P w H (h.push { cls:=.type "dict",data:=.dict #[] }) h.objs.size (.dK []) :=
 ⟨Nat.zero_le _,beq_eq_false_iff_ne.mpr (Ne.symm (Nat.ne_of_lt hb)),[],.nil,Heap.DictOf.new h⟩
noncomputable def tDNewK:TE:=fun _ H Q=>∀ p,H p = none->Q (.ref p) (upd H p (.dK []))
section
variable {X:Cx} {pos:Pos}
theorem pe_dnewK:PE X (.Dict [] [] pos) tDNewK:=fun pins s σ H Q I h =>
 wpAny_Dict_empty ⟨.ref s.heap.objs.size,_,I.laid (a:=s.heap.objs.size) (o:=.dK []) (t':=s.toks) (fun _ _ q=>Heap.get?_push_of_some _ q) (Nat.le_refl _) (zff s.heap I.big),rfl,h _ (I.hok.fresh (Nat.le_refl _))⟩
end
noncomputable def tPairs:List (TE × TE)->St->Hp->(List (V × V)->Hp->Prop)->Prop
 | [],_,H,Q=>Q [] H
 | (tk,tv) :: r,σ,H,Q=>tk σ H fun x H1=>tv σ H1 fun y H2=>tPairs r σ H2 fun ps H3=>Q ((x,y) :: ps) H3
abbrev VV:List (V × V)->List (Value × Value)->Prop:=Paired fun p q=>RelV p.1 q.1∧RelV p.2 q.2
noncomputable def PPs (X:Cx) (pos:Pos) (keys:List (Option Expr)) (values:List Expr) (trs:List (TE × TE)):Prop :=
 ∀ (pins:List (Addr × Obj)) (s:Shared) (σ:St) (H:Hp) (Q:List (V × V)->Hp->Prop),Inv X pins σ H s->tPairs trs σ H Q ->
  wpAny (model X.prog X.w) X.A (evalPairs (pairTrees keys values X.env pos)) (fun vs s'=>∃ ps H',Inv X pins σ H' s'∧VV ps vs∧Q ps H') X.xe s
theorem zgk {X:Cx} {pos:Pos}:PPs X pos [] [] []:=fun pins s σ H Q I h=>pairTrees_nil_walk ⟨[],H,I,.nil,h⟩
theorem zfg {X:Cx} {pos:Pos} {k v:Expr} {ks:List (Option Expr)} {vs:List Expr} {tk tv:TE} {trs:List (TE × TE)} (hk:PE X k tk) (hv:PE X v tv) (hr:PPs X pos ks vs trs) :
  PPs X pos (some k :: ks) (v :: vs) ((tk,tv) :: trs):=fun pins s σ H Q I h =>
 pairTrees_cons_walk (thn (hk pins s σ H _ I h) fun u s1 ⟨x,H1,I1,rx,q1⟩=>thn (hv pins s1 σ H1 _ I1 q1) fun w2 s2 ⟨y,H2,I2,ry,q2⟩ =>
  thn (hr pins s2 σ H2 _ I2 q2) fun ws s3 ⟨ps,H3,I3,rel,q3⟩=>⟨(x,y) :: ps,H3,I3,.cons ⟨rx,ry⟩ rel,q3⟩)
noncomputable def zcz (kvs more:List (Key × V)):List (Key × V):=more.foldl (fun acc kv=>putK acc kv.1 kv.2) kvs
theorem KV.merge:∀ {more:List (Key × V)} {rs:List (Key × Value)} {kvs:List (Key × V)} {vs:List (Key × Value)},KV more rs->KV kvs vs->KV (zcz kvs more) (merged vs rs):=by
 intro more rs kvs vs r
 unfold KV at r
 induction r generalizing kvs vs with
 | nil=>intro q; exact q
 | @cons p q ps qs h t ih =>
  intro r0
  have e:KV (putK kvs p.1 p.2) (stored vs q.1 q.2):=by
   have:=r0.put p.1 h.2
   rw [← h.1]; exact this
  exact ih e
theorem length_mergeK:∀ (more kvs:List (Key × V)),(zcz kvs more).length ≤ kvs.length + more.length
 | [],kvs=>by show kvs.length ≤ kvs.length + 0; omega
 | p :: r,kvs=>by
  have h1:=length_mergeK r (putK kvs p.1 p.2)
  have h2:=zaD kvs p.1 p.2
  show (zcz (putK kvs p.1 p.2) r).length ≤ _
  rw [List.length_cons]; omega
theorem zc5 {P:Program} {w:World}:∀ {kvs:List (Key × V)} {ws:List (Value × Value)},VV (kvs.map fun kv=>(kV kv.1,kv.2)) ws->∃ rs,Carries (zae P w) ws rs∧KV kvs rs
 | [],_,r=>by rw [List.map_nil] at r; cases r; exact ⟨[],True.intro,.nil⟩
 | p :: kvs,_,r=>by
  rw [List.map_cons] at r
  cases r with
  | @cons a b as bs h t =>
   obtain ⟨rs,c,q⟩:=zc5 (P:=P) (w:=w) t
   obtain ⟨b1,b2⟩:=b
   exact ⟨(p.1,b2) :: rs,⟨zei h.1,rfl,c⟩,.cons ⟨rfl,h.2⟩ q⟩
noncomputable def zjf (trs:List (TE × TE)):TE:=fun σ H Q=>∀ p,H p = none->tPairs trs σ (upd H p (.dK [])) fun ps H2=>H2 p = some (.dK [])∧∃ kvs:List (Key × V),ps = kvs.map (fun kv=>(kV kv.1,kv.2))∧kvs.length ≤ 15∧Q (.ref p) (upd H2 p (.dK (zcz [] kvs)))
theorem zgp {X:Cx} {pos:Pos} {keys:List (Option Expr)} {values:List Expr} {trs:List (TE × TE)} (h:PPs X pos keys values trs) (hall:keys.all (·.isSome) = true) (hl:keys.length = values.length) (h0:keys ≠ [])
  (h15:keys.length ≤ 15):PE X (.Dict keys values pos) (zjf trs):=by
 intro pins s σ H Q I q
 have hn:=I.hok.fresh (Nat.le_refl s.heap.objs.size)
 have I1:=I.laid (a:=s.heap.objs.size) (o:=.dK []) (h':=s.heap.push { cls:=.type "dict",data:=.dict #[] }) (t':=s.toks) (fun _ _ q=>Heap.get?_push_of_some _ q) (Nat.le_refl _) (zff s.heap I.big)
 refine wpAny_Dict_walk (knd:=zae X.prog X.w) hall hl h0 h15 (thn (h pins _ σ _ _ I1 (q _ hn)) fun ws s2 zq_=>?_)
 obtain ⟨ps,H2,I2,rel,e,kvs,ep,lk,q2⟩:=zq_
 subst ep
 obtain ⟨rs,c,rk⟩:=zc5 (P:=X.prog) (w:=X.w) rel
 obtain ⟨z,hd,vs0,r0,dd⟩:=ziZ I2.hok e
 cases r0
 refine ⟨rs,c,dd,fun h' dd' hs=>⟨.ref s.heap.objs.size,_,?_,rfl,q2⟩⟩
 have hz:(zcz [] kvs).length ≤ sizeLine:=by
  have h1:=length_mergeK kvs []
  rw [List.length_nil] at h1
  rw [sizeLine_eq]; omega
 have he:∃ q,h'.get? s.heap.objs.size = some q:=let ⟨q,_,_,hq,_⟩:=dd'; ⟨q,hq⟩
 exact zeE I2 (by rw [e]; exact True.intro) hs he (zhC hz hd (rk.merge .nil) dd')
structure M2 (X:Cx) (o:Expr) (m:Str) (apos:Pos) (e f:Expr) (cpos:Pos):Prop where
 base:attributeBase o m X.env (eval o X.env) = eval o X.env
 few:((backTo cpos (starEach [e,f] X.env)).all (fun x=>!x.1) && (backToKw cpos (keywordEach [] X.env)).all (fun x=>x.1.isSome)
  && decide (([e,f]:List Expr).length + ([]:List Keyword).length + (if ([]:List Keyword).isEmpty then 0 else 1) < 30)) = true
 line:(apos.endLine == cpos.line) = true
 trees:backTo cpos (starEach [e,f] X.env) = [(false,eval e X.env),(false,eval f X.env)]
noncomputable def IsD (H:Hp) (a:Addr):Prop:=(∃ kvs,Rd H a (.dK kvs)) ∨ ∃ kvs,Rd H a (.dT kvs)
theorem zi5 {X:Cx} {pins:List (Addr × Obj)} {σ:St} {H:Hp} {s:Shared} {a:Addr} (I:Inv X pins σ H s) (d:IsD H a) :
  s.TypeIs (.ref a) "dict"∧(∀ b,Value.ref a = .ref b->∃ ob,s.heap.get? b = some ob∧ob.dict = none)∧(a == sysModules) = false:=by
 rcases d with ⟨kvs,e⟩ | ⟨kvs,e⟩
 ·obtain ⟨_,hd,vs,_,dd⟩:=zeo I.hok e
  refine ⟨dd.typeIs,fun b q=>?_,hd⟩
  cases q
  obtain ⟨ob,_,_,h1,h2,_⟩:=dd
  exact ⟨ob,h1,h2.2.1⟩
 ·obtain ⟨_,hd,xs,_,dd⟩:=zer I.hok e
  refine ⟨dd.typeIs,fun b q=>?_,hd⟩
  cases q
  obtain ⟨ob,_,_,h1,h2,_⟩:=dd
  exact ⟨ob,h1,h2.2.1⟩
section
variable {X:Cx} {pins:List (Addr × Obj)} {σ:St} {H:Hp} {s:Shared} {a:Addr} {y d:V} {u r:Value} {o:Option V} {A:Around} {E:Value->Shared->Prop}
theorem zjp {Q:Value->Shared->Prop} (hu:A.units + 1 < cLine) (I:Inv X pins σ H s) (g:DGet H a y o) (ry:RelV y u) (rd:RelV d r) (h:∀ w' s',Inv X pins σ H s'->RelV (o.getD d) w'->Q w' s') :
  wpAny (model X.prog X.w) A (call (.builtin "dict.get") [.ref a,u,r]) Q E s:=by
 rcases g with ⟨kvs,k,e,ey,l⟩ | ⟨kvs,k,b,e,ey,eb,l⟩
 ·subst ey
  obtain ⟨z,hd,vs,rel,dd⟩:=zeo I.hok e
  refine call_meetsIn PySem.F.slot_dict_get dd.typeIs PySem.F.entry_dict_get (PySem.F.args_dict_get_3 _ _ _) (meets_dict_get_default (zae X.prog X.w) a (zei ry) hd r) ⟨_,dd.mapOf,h _ _ (I.tok _) ?_⟩
  rw [l]
  exact (rel.val k).getD rd
 ·subst ey
  cases (show u = Value.ref b from ry)
  obtain ⟨z,hd,xs,rel,dd⟩:=zer I.hok e
  refine call_meetsIn PySem.F.slot_dict_get dd.typeIs PySem.F.entry_dict_get (PySem.F.args_dict_get_3 _ _ _) (meetsH_dict_get_default (tupleKind (zae X.prog X.w)) a b hd r) ⟨tupleKind_room_in1 hu,k,xs,zcQ I.hok eb,dd,h _ _ (I.tok _) ?_⟩
  rw [l]
  exact (rel.val k).getD rd
end
noncomputable def zfI (td ty tx:TE):TE:=fun σ H Q=>td σ H fun x H1=>∃ a,x = .ref a∧IsD H1 a∧ty σ H1 fun y H2=>tx σ H2 fun z H3=>∃ o,DGet H3 a y o∧Q (o.getD z) H3
section
variable {X:Cx} {o e f:Expr} {apos cpos:Pos} {td ty tx:TE}
theorem zfj (hu:X.A.units + 1 < cLine) (ho:PE X o td) (he:PE X e ty) (hf:PE X f tx) (m:M2 X o "get" apos e f cpos):PE X (.Call (.Attribute o "get" apos) [e,f] [] cpos) (zfI td ty tx):=by
 intro pins s σ H Q I h
 refine wpAny_Call_method m.base m.few m.line PySem.F.plainAttrs_dict PySem.F.slot_dict_get PySem.F.type_dict_get (thn (ho pins s σ H _ I h) fun u s1 zq_=>?_)
 obtain ⟨x,H1,I1,rx,a,ex,d,q1⟩:=zq_
 subst ex
 obtain rfl:u = Value.ref a:=rx
 obtain ⟨t1,t2,_⟩:=zi5 I1 d
 refine ⟨t1,t2,?_⟩
 rw [m.trees]
 refine Calls.callWith_builtin rfl (Calls.evalArgs_plain (Calls.spliced_cons (thn (he pins s1 σ H1 _ I1 q1) fun iv s2 ⟨y,H2,I2,ry,q2⟩ =>
  Calls.spliced_cons (thn (hf pins s2 σ H2 _ I2 q2) fun fv s3 ⟨z,H3,I3,rz,ov,g,q3⟩=>Calls.spliced_nil ?_))))
 exact zjp hu I3 g ry rz fun w' s4 I4 rw'=>⟨_,H3,I4,rw',q3⟩
end
section
variable {X:Cx} {pins:List (Addr × Obj)} {σ:St} {H:Hp} {s:Shared} {a:Addr} {kvs:List (Key × V)} {A:Around} {E:Value->Shared->Prop}
end
section
variable {X:Cx} {pins:List (Addr × Obj)} {σ:St} {H:Hp} {s:Shared} {a:Addr} {y:V} {u:Value} {A:Around} {E:Value->Shared->Prop}
end
end L2
namespace Att
open PySem PySem.W PySem.Calls PyProof.Rows
theorem zcD {P:Params} {h:Heap}:∀ (ns:List Int) (vs:List Value),WellAll P h vs (ns.map WData.int)->IntsAre vs ns:=by
 intro ns
 induction ns with
 | nil =>
  intro vs w
  rw [List.map_nil] at w
  cases w
  exact .nil
 | cons n ns ih =>
  intro vs w
  rw [List.map_cons] at w
  cases w with
  | cons a b =>
   cases a
   exact .cons _ _ (ih _ b)
theorem zfQ {l:OpenLaw} {n:Nat} (hn:l.most = some n) {P:Params} {h:Heap} {args:List WData} {vals:List Value}
  (hpre:l.row.toRowW.claim.pre args = true) (hwl:WellAll P h vals args) :
  ∃ a vs ns,vals = [Value.ref a]∧args = [WData.list (ns.map WData.int)]∧h.get? a = some { cls:=.type "list",data:=.seq vs.toArray }∧IntsAre vs ns∧ns.length ≤ n:=by
 have hsh:WShape.hasAll [] args [.list .int] = true:=(pre_splitW hpre).1
 have hc:l.pre.holds [] { args:=args } = true:=(pre_splitW hpre).2
 obtain ⟨d,r,rfl,h1,h2⟩:=hasAllW_cons hsh
 obtain rfl:=hasAllW_nil h2
 obtain ⟨xs,rfl,h3⟩:=hasW_list h1
 obtain ⟨ns,rfl⟩:=items_int h3
 have hlen:ns.length ≤ n:=by
  unfold OpenLaw.pre at hc
  have h4:(WTm.not (.lt (.lit (.int (n:Int))) (.len (.arg 0)))).holds [] { args:=[.list (ns.map .int)] } = true:=by
   have h4:=(holds_andW hc).1
   rw [hn] at h4
   exact h4
  have h5:=condW_of h4 (w_not (w_lt w_lit (w_len_list (w_arg rfl))))
  rw [List.length_map] at h5
  refine Nat.le_of_not_lt fun q=>?_
  have q':(n:Int) < ((ns.length:Nat):Int):=by omega
  first
   | (rw [decide_eq_true q'] at h5; exact absurd h5 (by decide))
   | (simp at h5; omega)
 cases hwl with
 | cons w1 w2 =>
  cases w2
  cases w1 with
  | list ho hall=>exact ⟨_,_,ns,rfl,rfl,ho,zcD ns _ hall,hlen⟩
theorem zfP (l:OpenLaw) (args:List WData):l.row.toRowW.claim.post args (.bool true) args = true :=
 postW_of (r:=l.row.toRowW) (X:=(true == true))
  (show WShape.has [] (.bool true) .bool = true by first | rfl | decide | simp [WShape.has,WShape.arms,WShape.armsAll])
  (show (WTm.eq .res (.lit (.bool true))).value [] { args:=args,res:=some (.bool true),after:=args } = some (.bool (true == true)) from w_eq_bool (w_res rfl) w_lit) rfl
theorem attach_call {l:OpenLaw} {n:Nat} {q:Program} {loose:List Str} {XP:(Str->Option Value)->Heap->Prop} {YP:World->Heap->Prop} {d:DefRec}
  (hn:l.most = some n) (hdf:d.params.defaults = [])
  (call:∀ (w:World) (s₀ s₁:Shared) (mg mb:Str->Option Value) (fa:Addr) (o:Obj) (pm cd doc:Value) (a:Addr) (vs:List Value) (ns:List Int),
   Ground q loose [] XP w s₀ mg mb s₁.heap->YP w s₁.heap ->
   s₁.heap.get? fa = some o->o.data = .func (docDef d.name d.params d.body d.scope pm cd doc)->s₁.heap.CodeRec cd d.name->mg d.name = some (.ref fa) ->
   s₁.heap.get? a = some { cls:=.type "list",data:=.seq vs.toArray }->IntsAre vs ns->ns.length ≤ n->s₁.gens = #[] ->
   codeAny (model l.prog w) callerA (.call (.ref fa) ⟨[.ref a],[]⟩) (fun r s'=>r = .ok (.ret (.bool true))∧OldK s₁.heap s'.heap∧s'.os = s₁.os∧AllBare s'.gens) s₁) :
  WalkO q loose XP YP l.row.toRowW d [] (fun f vs=>PySem.call f vs):=by
 intro w s₀ s₁ mg mb G Y fa o pm cd doc dV kV ho hd hcd hD hmg hg args vals as hpre hlay hrd hwl hlo
 obtain rfl:dV = .none:=Dflts.none hD hdf
 obtain rfl:kV = .none:=Dflts.noKw hD
 obtain ⟨a,vs,ns,rfl,rfl,hobj,hints,hlen⟩:=zfQ hn hpre hwl
 refine enter_call (codeAny_mono (call w s₀ s₁ mg mb fa o pm cd doc a vs ns G Y ho (fd_plain hd) hcd hmg hobj hints hlen hg) fun r s' hq=>?_)
 obtain ⟨rfl,h2,h3,h4⟩:=hq
 exact ⟨.inl ⟨.bool true,.bool true,[],rfl,fun _=>rfl,.bool true,zfP l _,fun _=>⟨List.Pairwise.nil,fun _ hm=>(nomatch hm)⟩⟩,h2,h3,h4⟩
section
variable {prog:Program} {w:World} {A:Around} {E:Value->Shared->Prop} {s:Shared} {K:Frag}
end
end Att
namespace L2
open PySem PySem.Spec PyProof.Rows
theorem vals_ints:∀ {vs:List Value} {ns:List Int},IntsAre vs ns->Vals (ns.map V.int) vs
 | _,_,.nil=>.nil
 | _,_,.cons n t h=>.cons ⟨t,rfl⟩ (vals_ints h)
noncomputable def Only (H:Hp):Prop:=∀ b,H b = none ∨ ∃ o xs,H b = some (.frz o (.lst xs))
theorem zhi {P:Program} {w:World} {K:PySem.W.Frag} {mg mb:Str->Option Value} {CX:CXT} {k:Nat} {fa a:Addr} {fd:FuncData} {x:Str} {sp:Sp} {s₁:Shared} {vs:List Value} {ns:List Int}
  (KX:K.In s₁.heap) (hns:s₁.heap.Ns mainGlobals mg) (hb:s₁.heap.Ns builtinsNs mb) (hbb:∀ x:Str,x ≠ "__name__"->mb x = bootBuiltins x) (hlim:s₁.heap.NoLimit) (hg:s₁.gens = #[])
  (ha:s₁.heap.get? a = some { cls:=.type "list",data:=.seq vs.toArray }) (hi:IntsAre vs ns) (hl:ns.length ≤ sizeLine) (hr:Room k callerA)
  (F:∀ base:Heap,K.In base->base.Ns mainGlobals mg->FnOk P w K mg base CX k fa fd [x] sp) (hbind:∀ (s:Shared) (u:Value),BindsTo s fd ⟨[u],[]⟩ [(x,u)])
  (hsp:∀ H:Hp,Only H->SqL K H a (ns.map V.int)->sp [.ref a] H (fun v _=>v = .bl true) fun _ _ _=>False)
  (hCX:∀ H e s',CX [] H s₁ (fun _ _ _=>False) e s'->False) :
  codeAny (model P w) callerA (.call (.ref fa) ⟨[.ref a],[]⟩) (fun r s'=>r = .ok (.ret (.bool true))∧OldK s₁.heap s'.heap∧s'.os = s₁.os∧AllBare s'.gens) s₁:=by
 have rv:=vals_ints hi
 have lenV:=hi.length
 have core:∀ H:Hp,Only H->SqL K H a (ns.map V.int)->HOk P w H s₁.heap->(∀ b,H b ≠ none->b = a)->(H a ≠ none->K.lookup a = none) ->
   codeAny (model P w) callerA (.call (.ref fa) ⟨[.ref a],[]⟩) (fun r s'=>r = .ok (.ret (.bool true))∧OldK s₁.heap s'.heap∧s'.os = s₁.os∧AllBare s'.gens) s₁:=by
  intro H hO hS hok hA hK
  have base_of:∀ {b:Addr} {o:Obj},s₁.heap.get? b = some o->H b = none->(hidT s₁.heap H).get? b = some o:=fun e n=>zg2 e n
  have noA:∀ {b:Addr} {o:Obj} {es:Array DictEntry} {ep:Nat},s₁.heap.get? b = some o->o.data = .dict es ep->H b = none:=fun {b o es ep} e d=>by
   cases q:H b with
   | none=>rfl
   | some u =>
    have e':b = a:=hA b (by rw [q]; simp)
    subst e'
    rw [ha] at e; cases e
    have d':Data.seq vs.toArray _ = Data.dict es ep:=d
    cases d'
  have nsK:∀ {b:Addr} {m:Str->Option Value},s₁.heap.Ns b m->(hidT s₁.heap H).Ns b m:=fun {b m} ⟨o,es,ep,e,d,r⟩=>⟨o,es,ep,base_of e (noA e d),d,r⟩
  have hKb:K.In (hidT s₁.heap H):=fun b o e=>base_of (KX b o e) (by
   cases q:H b with
   | none=>rfl
   | some u =>
    have e':b = a:=hA b (by rw [q]; simp)
    subst e'
    rw [hK (by rw [q]; simp)] at e; cases e)
  have hM:Mod K mg (hidT s₁.heap H):=⟨hKb,nsK hns,⟨mb,nsK hb,hbb⟩,let ⟨mc,h1,h2⟩:=hlim; ⟨mc,nsK h1,h2⟩⟩
  have e0:Env0 P w K mg (hidT s₁.heap H) callerA [] s₁ H:=⟨rfl,hM,fun b o e=>zh7 e,Nat.le_of_eq (zgl _ _),trivial,fun b hb=>absurd (show b ∈ ([]:List Addr) from hb) (by simp),hok,.of_eq hg⟩
  refine codeAny_mono ((F _ hKb (nsK hns)).run callerA [] s₁ H ⟨[.ref a],[]⟩ [.ref a] [.ref a] _ _ hr e0 (hbind s₁ (.ref a)) (.cons rfl .nil) (hsp H hO hS)) fun r s' h=>?_
  cases r with
  | error e=>exact (hCX H e s' h).elim
  | ok fl =>
   cases fl with
   | next=>exact False.elim h
   | brk=>exact False.elim h
   | cont=>exact False.elim h
   | ret u =>
    obtain ⟨v,H',os,bare,un,hok',r',q⟩:=h
    have q':v = .bl true:=q
    subst q'
    obtain rfl:u = Value.bool true:=r'
    refine ⟨rfl,OldK.of_keep fun b o e=>?_,os,bare⟩
    cases q:H b with
    | none=>exact un.keep b o e q (by intro z; exact absurd (show b ∈ ([]:List Addr) from z) (by simp)) (by simp)
    | some u =>
     rcases hO b with z | ⟨ob,xs,z⟩
     ·rw [q] at z; cases z
     ·have z2:=un.frzs b ob _ z
      obtain ⟨e1,_⟩:=hok b _ z
      obtain ⟨e2,_⟩:=hok' b _ z2
      rw [e] at e1; cases e1
      exact e2
 cases hk:K.lookup a with
 | some o =>
  have e:=KX a o hk
  rw [ha] at e
  cases e
  refine core (fun _=>none) (fun _=>.inl rfl) (.inr ⟨_,vs.toArray,_,hk,rfl,rfl,rfl,by rw [List.size_toArray,lenV]; exact hl,by simpa using rv⟩) (fun b u z=>by have z':(none:Option HO) = some u:=z; cases z') (fun b z=>absurd rfl z) fun z=>absurd rfl z
 | none =>
  refine core (fun b=>if b = a then some (.frz { cls:=.type "list",data:=.seq vs.toArray } (.lst (ns.map V.int))) else none) (fun b=>?_) (.inl (.inr ⟨{ cls:=.type "list",data:=.seq vs.toArray },if_pos rfl⟩)) (fun b u z=>?_) (fun b z=>?_) fun _=>hk
  ·by_cases hb:b = a
   ·exact .inr ⟨_,_,if_pos hb⟩
   ·exact .inl (if_neg hb)
  ·by_cases hb:b = a
   ·have z':=(if_pos hb).symm.trans z
    cases z'
    subst hb
    exact ⟨ha,by rw [List.length_map]; exact hl,vs,_,rv,ha⟩
   ·have z':=(if_neg hb).symm.trans z
    cases z'
  ·by_cases hb:b = a
   ·exact hb
   ·exact absurd (if_neg hb) z
end L2
namespace L2
open PySem PySem.Spec PyProof.Rows
abbrev KOf {K:PySem.W.Frag} {h:Heap} (_:K.In h):PySem.W.Frag:=K
theorem walk_of {l:PySem.W.OpenLaw} {n k:Nat} {q:Program} {loose:List Str} {XP:(Str->Option Value)->Heap->Prop} {YP:World->Heap->Prop} {d:DefRec} {K:Params->PySem.W.Frag} {CX:World->CXT} {sp:World->Sp} {x:Str}
  (hn:l.most = some n) (hn2:n ≤ sizeLine) (hdf:d.params.defaults = []) (hr:Room k callerA)
  (hY:∀ (w:World) (h:Heap),YP w h->(K w.params).In h)
  (F:∀ (w:World) (mg:Str->Option Value) (fa:Addr) (h:Heap),(K w.params).In h->h.Ns mainGlobals mg->mg d.name = some (.ref fa) ->
   ∃ fd:FuncData,(∀ (s:Shared) (u:Value),BindsTo s fd ⟨[u],[]⟩ [(x,u)]) ∧
    ∀ base:Heap,(K w.params).In base->base.Ns mainGlobals mg->FnOk l.prog w (K w.params) mg base (CX w) k fa fd [x] (sp w))
  (hsp:∀ (w:World) (H:Hp) (a:Addr) (ns:List Int),ns.length ≤ n->Only H->SqL (K w.params) H a (ns.map V.int)->sp w [.ref a] H (fun v _=>v = .bl true) fun _ _ _=>False)
  (hCX:∀ (w:World) (H:Hp) (s:Shared) (e:Value) (s':Shared),CX w [] H s (fun _ _ _=>False) e s'->False) :
  PySem.W.WalkO q loose XP YP l.row.toRowW d [] (fun f vs=>PySem.call f vs):=by
 refine Att.attach_call hn hdf fun w s₀ s₁ mg mb fa o pm cd doc a vs ns G Y ho hd hcd hmg hobj hints hlen hg=>?_
 have KX:=hY w _ Y
 obtain ⟨fd,hb,hF⟩:=F w mg fa _ KX G.T.g hmg
 exact zhi KX G.T.g G.T.b G.T.builtins G.T.nolimit hg hobj hints (Nat.le_trans hlen hn2) hr hF hb (fun H hO hS=>hsp w H a ns hlen hO hS) fun H e s'=>hCX w H s₁ e s'
end L2
namespace L2
open PySem PySem.Spec PyProof.Rows
noncomputable def zbj (s:Stmt) (j:Nat):Stmt:=match s with
 | .ClassDef _ _ _ body _ _ _ _ _ _ _=>body.getD j (.Pass ⟨0,0,0,0⟩)
 | _=>.Pass ⟨0,0,0,0⟩
noncomputable def zdr (s:Stmt):Arguments:=match s with
 | .FunctionDef _ a _ _ _ _ _ _ _ _=>a
 | _=>{ posonlyargs:=[],args:=[],vararg:=none,kwonlyargs:=[],kw_defaults:=[],kwarg:=none,defaults:=[] }
noncomputable def zca (s:Stmt):List Stmt:=match s with
 | .FunctionDef _ _ b _ _ _ _ _ _ _=>b
 | _=>[]
noncomputable def zak (s:Stmt):Scope:=match s with
 | .FunctionDef _ _ _ _ _ _ sc _ _ _=>sc
 | _=>{ kind:=.function,names:=[],isGenerator:=false,isCoroutine:=false }
abbrev E0:XK:=fun _ _ _=>False
structure Fun (K:PySem.W.Frag) (x qual:Str) (st:Stmt) (f:Addr) (fd:FuncData):Prop where
 ex:∃ (oc:Value) (od:Option Addr) (kV doc pm:Value) (an:Option Addr) (cdv ct:Value) (osl:Array (Option Value)),
  fd = PySem.W.fnOf x qual (zdr st) (zca st) (zak st) .none kV doc pm an cdv ct∧K.lookup f = some ⟨oc,od,.func fd,osl⟩∧PySem.W.codeIn K cdv qual = true
 kp:PySem.W.keepIn K (.ref f) = true
section
variable {P:Program} {w:World} {K:PySem.W.Frag} {mg:Str->Option Value} {base:Heap}
theorem Fun.binds {x qual:Str} {st:Stmt} {f:Addr} {fd:FuncData} {ps:List Str} (F:Fun K x qual st f fd)
  (h:∀ (kV doc pm:Value) (an:Option Addr) (cdv ct:Value) (us:List Value),us.length = ps.length->bindArgs (PySem.W.fnOf x qual (zdr st) (zca st) (zak st) .none kV doc pm an cdv ct) ⟨us,[]⟩ = pure (ps.zip us)):zaE K fd ps []:=by
 obtain ⟨oc,od,kV,doc,pm,an,cdv,ct,osl,rfl,lk,hcd⟩:=F.ex
 exact .all (h kV doc pm an cdv ct)
theorem fun_mk {x qual:Str} {st:Stmt} {f:Addr} {oc:Value} {od an:Option Addr} {osl:Array (Option Value)} {kV doc pm cdv ct:Value} (l:K.lookup f = some ⟨oc,od,.func (PySem.W.fnOf x qual (zdr st) (zca st) (zak st) .none kV doc pm an cdv ct),osl⟩)
  (c:PySem.W.codeIn K cdv qual = true) (k:PySem.W.keepIn K (.ref f) = true):Fun K x qual st f (PySem.W.fnOf x qual (zdr st) (zca st) (zak st) .none kV doc pm an cdv ct):=⟨⟨oc,od,kV,doc,pm,an,cdv,ct,osl,rfl,l,c⟩,k⟩
end
theorem zaX {A:Around} {k:Nat} (hr:Room k A):A.units + 1 < cLine:=Nat.lt_of_le_of_lt (Nat.add_le_add_left (by decide:1 ≤ 64) _) hr.units
section
variable {X:Cx}
theorem pv (i:Nat) {x:Str} {pos:Pos} (hN:X.N[i]? = some x:=by rfl) (hv:Vis X.env.scope x:=by first | exact Or.inl rfl | exact Or.inr (Or.inl rfl) | exact Or.inr (Or.inr rfl)) (hd:(x == ("__debug__":Str)) = false:=by decide)
  (hcd:(x == ("__classdict__":Str)) = false:=by decide):PE X (.Name x pos) (tVar i):=zi3 hN hv hd hcd
end
theorem ite2 {c A B:Prop} [Decidable c] (h1:c->A) (h2:¬ c->B):if c then A else B:=by
 by_cases h:c
 ·rw [if_pos h]
  exact h1 h
 ·rw [if_neg h]
  exact h2 h
noncomputable def Same (H H':Hp):Prop:=∀ b o,H b = some o->H' b = some o
theorem Same.refl (H:Hp):Same H H:=fun _ _ h=>h
theorem Same.trans {H H1 H2:Hp} (a:Same H H1) (b:Same H1 H2):Same H H2:=fun c o h=>b c o (a c o h)
theorem Same.free {H H':Hp} (e:Same H H') {l:Addr} (h:H' l = Option.none):H l = Option.none:=by
 cases q:H l with
 | none=>rfl
 | some o =>
  rw [e l o q] at h
  cases h
theorem Same.seq {K:PySem.W.Frag} {H H':Hp} {a:Addr} {xs:List V} (e:Same H H') (h:SqL K H a xs):SqL K H' a xs:=by
 rcases h with (h | ⟨o,h⟩) | h
 ·exact .inl (.inl (e _ _ h))
 ·exact .inl (.inr ⟨o,e _ _ h⟩)
 ·exact .inr h
section
variable {κ:Type} [DecidableEq κ]
end
end L2
set_option Elab.async false
set_option linter.all false
set_option maxRecDepth 100000
namespace L2
open PySem PySem.Spec PyProof.Rows
noncomputable def clOf (env:Env) (names:List (Str × NameKind)) (cs:List (Str × Addr)):List (Str × Addr) :=
 names.foldl (fun cs y=>if y.2 == NameKind.free then (y.1,(env.cells.lookup y.1).getD 0) :: cs else cs) cs
theorem zcU {env:Env}:∀ (names:List (Str × NameKind)) (cs:List (Str × Addr)),(∀ y ∈ names,y.2 = .free->∃ c,env.cells.lookup y.1 = some c) ->
  (forIn names cs fun (p:Str × NameKind) (cs:List (Str × Addr))=>(if (p.2 == NameKind.free) = true then do
   let a ← cellOf env p.1
   pure (ForInStep.yield ((p.1,a) :: cs))
   else pure (ForInStep.yield cs):Sem (ForInStep (List (Str × Addr))))) = pure (clOf env names cs)
 | [],cs,_=>rfl
 | (n,k) :: r,cs,h=>by
  have hr:∀ y ∈ r,y.2 = NameKind.free->∃ c,env.cells.lookup y.1 = some c:=fun y hy=>h y (List.mem_cons_of_mem _ hy)
  rw [List.forIn_cons]
  cases hk:(k == NameKind.free) with
  | true =>
   obtain ⟨c,hc⟩:=h (n,k) List.mem_cons_self (by simpa using hk)
   have e1:cellOf env n = pure c:=by
    have hc':env.cells.lookup n = some c:=hc
    unfold cellOf; rw [hc']
   have e2:=zcU r ((n,c) :: cs) hr
   have e3:clOf env ((n,k) :: r) cs = clOf env r ((n,c) :: cs):=by
    have hc':env.cells.lookup n = some c:=hc
    show List.foldl _ (if (k == NameKind.free) = true then (n,(env.cells.lookup n).getD 0) :: cs else cs) r = _
    rw [hk,hc']; rfl
   rw [e3,← e2]
   simp only [hk,if_true,e1]
   rfl
  | false =>
   have e2:=zcU r cs hr
   have e3:clOf env ((n,k) :: r) cs = clOf env r cs:=by
    show List.foldl _ (if (k == NameKind.free) = true then _ else cs) r = _
    rw [hk]; rfl
   rw [e3,← e2]
   simp only [hk,Bool.false_eq_true,if_false]
   rfl
theorem zbZ {scope:Scope} {env:Env} (h:∀ y ∈ scope.names,y.2 = .free->∃ c,env.cells.lookup y.1 = some c):closureFor scope env = pure (clOf env scope.names []):=by
 have:=zcU scope.names [] h
 unfold closureFor
 simp only [bind_pure]
 exact this
theorem zfb {env:Env}:∀ (names:List (Str × NameKind)) (cs:List (Str × Addr)),(∀ y ∈ names,y.2 = .free->∃ c,env.cells.lookup y.1 = some c)->(∀ x c,cs.lookup x = some c->env.cells.lookup x = some c) ->
  ∀ x c,(clOf env names cs).lookup x = some c->env.cells.lookup x = some c
 | [],cs,_,hc=>hc
 | (n,k) :: r,cs,h,hc=>by
  refine zfb r _ (fun y hy=>h y (List.mem_cons_of_mem _ hy)) ?_
  intro x c e
  dsimp only at e
  split at e
  ·rename_i hk
   obtain ⟨c',hc'⟩:=h (n,k) List.mem_cons_self (by simpa using hk)
   have hc':env.cells.lookup n = some c':=hc'
   rw [List.lookup_cons] at e
   cases hx:(x == n) with
   | true =>
    rw [hx] at e
    have e':(env.cells.lookup n).getD 0 = c:=Option.some.inj e
    have hxn:x = n:=by simpa using hx
    rw [hxn,hc',← e',hc']; rfl
   | false =>
    rw [hx] at e
    exact hc x c e
  ·exact hc x c e
theorem zdt {env:Env} {x:Str}:∀ (names:List (Str × NameKind)) (cs:List (Str × Addr)),((x,NameKind.free) ∈ names ∨ ∃ c,cs.lookup x = some c)->∃ c,(clOf env names cs).lookup x = some c
 | [],cs,h=>by
  rcases h with h | h
  ·simp at h
  ·exact h
 | (n,k) :: r,cs,h=>by
  refine zdt r _ ?_
  rcases h with h | ⟨c,h⟩
  ·rcases List.mem_cons.mp h with e | h
   ·cases e
    refine .inr ⟨(env.cells.lookup x).getD 0,?_⟩
    simp
   ·exact .inl h
  ·refine .inr ?_
   dsimp only
   split
   ·rw [List.lookup_cons]
    cases (x == n) with
    | true=>exact ⟨_,rfl⟩
    | false=>exact ⟨c,h⟩
   ·exact ⟨c,h⟩
theorem zce {env:Env}:∀ {names:List (Str × NameKind)} {x:Str},names.lookup x = some .free ->
  (names.map fun (n,k)=>if (k == NameKind.free && env.scope.kind == .function && env.kindOf n == some .cell) then (n,NameKind.cell) else (n,k)).lookup x = some .cell ∨
  (names.map fun (n,k)=>if (k == NameKind.free && env.scope.kind == .function && env.kindOf n == some .cell) then (n,NameKind.cell) else (n,k)).lookup x = some .free
 | [],_,h=>by simp at h
 | (n,k) :: r,x,h=>by
  have ih:=@zce env r x
  rw [List.map_cons]
  cases hx:x == n with
  | true =>
   simp only [List.lookup_cons,hx] at h
   cases h
   by_cases hc:(NameKind.free == NameKind.free && env.scope.kind == .function && env.kindOf n == some .cell) = true
   ·left
    show List.lookup x ((if (NameKind.free == NameKind.free && env.scope.kind == .function && env.kindOf n == some .cell) = true then (n,NameKind.cell) else (n,NameKind.free)) :: _) = _
    rw [if_pos hc]; simp [List.lookup_cons,hx]
   ·right
    show List.lookup x ((if (NameKind.free == NameKind.free && env.scope.kind == .function && env.kindOf n == some .cell) = true then (n,NameKind.cell) else (n,NameKind.free)) :: _) = _
    rw [if_neg hc]; simp [List.lookup_cons,hx]
  | false =>
   simp only [List.lookup_cons,hx] at h
   have ih:=ih h
   have e:∀ l,List.lookup x ((if (k == NameKind.free && env.scope.kind == .function && env.kindOf n == some .cell) = true then (n,NameKind.cell) else (n,k)) :: l) = List.lookup x l:=fun l=>by
    split <;> simp [List.lookup_cons,hx]
   show List.lookup x ((if (k == NameKind.free && env.scope.kind == .function && env.kindOf n == some .cell) = true then (n,NameKind.cell) else (n,k)) :: _) = _ ∨ List.lookup x ((if (k == NameKind.free && env.scope.kind == .function && env.kindOf n == some .cell) = true then (n,NameKind.cell) else (n,k)) :: _) = _
   rw [e]
   exact ih
theorem zcd {env:Env}:∀ {names:List (Str × NameKind)} {x:Str},
  ((names.map fun (n,k)=>if (k == NameKind.free && env.scope.kind == .function && env.kindOf n == some .cell) then (n,NameKind.cell) else (n,k)).lookup x = some .cell ∨
  (names.map fun (n,k)=>if (k == NameKind.free && env.scope.kind == .function && env.kindOf n == some .cell) then (n,NameKind.cell) else (n,k)).lookup x = some .free) ->
  names.lookup x = some .free ∨ names.lookup x = some .cell
 | [],x,h=>by simp at h
 | (n,k) :: r,x,h=>by
  have ih:=@zcd env r x
  cases hx:x == n with
  | true =>
   rw [List.lookup_cons,hx]
   show some k = _ ∨ some k = _
   have e:∀ l,List.lookup x ((if (k == NameKind.free && env.scope.kind == .function && env.kindOf n == some .cell) = true then (n,NameKind.cell) else (n,k)) :: l) = if (k == NameKind.free && env.scope.kind == .function && env.kindOf n == some .cell) = true then some .cell else some k:=fun l=>by
    split <;> simp [List.lookup_cons,hx]
   rw [List.map_cons] at h
   have h:List.lookup x ((if (k == NameKind.free && env.scope.kind == .function && env.kindOf n == some .cell) = true then (n,NameKind.cell) else (n,k)) :: _) = some .cell ∨ List.lookup x ((if (k == NameKind.free && env.scope.kind == .function && env.kindOf n == some .cell) = true then (n,NameKind.cell) else (n,k)) :: _) = some .free:=h
   rw [e] at h
   by_cases hc:(k == NameKind.free && env.scope.kind == .function && env.kindOf n == some .cell) = true
   ·left
    simp at hc
    rw [hc.1.1]
   ·rw [if_neg hc] at h
    rcases h with h | h
    ·exact .inr h
    ·exact .inl h
  | false =>
   rw [List.lookup_cons,hx]
   have e:∀ l,List.lookup x ((if (k == NameKind.free && env.scope.kind == .function && env.kindOf n == some .cell) = true then (n,NameKind.cell) else (n,k)) :: l) = List.lookup x l:=fun l=>by
    split <;> simp [List.lookup_cons,hx]
   rw [List.map_cons] at h
   have h:List.lookup x ((if (k == NameKind.free && env.scope.kind == .function && env.kindOf n == some .cell) = true then (n,NameKind.cell) else (n,k)) :: _) = some .cell ∨ List.lookup x ((if (k == NameKind.free && env.scope.kind == .function && env.kindOf n == some .cell) = true then (n,NameKind.cell) else (n,k)) :: _) = some .free:=h
   rw [e] at h
   exact ih h
section
variable {prog:Program} {w:World} {A:Around} {E:Value->Shared->Prop} {R:Result->Shared->Prop} {s:Shared}
theorem zef {elt target iter:Expr} {ifs:List Expr} {scope:Scope} {pos:Pos} {it acc:Value} {env:Env} (I:Nat->Shared->Prop)
  (turn:∀ n s,I n s->wpAny (model prog w) A (pyNext it) (fun r s₁=>match r with
   | none=>R (.ok .next) s₁
   | some v=>wpAny (model prog w) A (letOwnedTupleGo target it v) (fun _ s₁'=>wpAny (model prog w) A (assign target env v) (fun _ s₂ =>
     wpAny (model prog w) A (forIn ifs true fun c r=>if r = true then do let ok ← isTrue c env (eval c env); pure (ForInStep.yield ok) else pure (ForInStep.yield r)) (fun ok s₃ =>
      if ok = true then wpAny (model prog w) A (eval elt env) (fun x s₄ =>
       wpAny (model prog w) A (call (.builtin "list.append") [acc,x]) (fun _ s₅=>∃ m,m < n∧I m s₅) (notedBy (model prog w) A env fun e s'=>R (.error e) s') s₄) (notedBy (model prog w) A env fun e s'=>R (.error e) s') s₃
      else ∃ m,m < n∧I m s₃) (notedBy (model prog w) A env fun e s'=>R (.error e) s') s₂) (notedBy (model prog w) A env fun e s'=>R (.error e) s') s₁') (notedBy (model prog w) A env fun e s'=>R (.error e) s') s₁) (notedBy (model prog w) A env fun e s'=>R (.error e) s') s)
  (n:Nat) (h:I n s) :
  codeAny (model prog w) A (.compLoop (.ListComp elt [⟨target,iter,ifs,0⟩] scope pos) 0 it acc env) R s:=by
 refine codeAny_loop rfl I (fun n s hI=>?_) n h
 show wpAny _ A ((compTurn (.ListComp elt [⟨target,iter,ifs,0⟩] scope pos) 0 it acc env).onRaise (fun x=>do noteFrame x env; theTreesLotGoes x)) _ _ s
 refine wpAny_noted ?_
 rw [compTurn_list]
 refine wpAny_bind (wpAny_standAt (wpAny_bind (wpAny_mono (turn n s hI) (fun r s₁ h₁=>?_) fun _ _ h'=>h')))
 cases r with
 | none=>exact wpAny_pure h₁
 | some v =>
  refine wpAny_bind (wpAny_mono h₁ (fun _ s₁' h₁'=>?_) fun _ _ h'=>h')
  refine wpAny_bind (wpAny_mono h₁' (fun _ s₂ h₂=>wpAny_bind (wpAny_mono h₂ (fun ok s₃ h₃=>?_) fun _ _ h'=>h')) fun _ _ h'=>h')
  cases ok with
  | false=>exact wpAny_pure ⟨rfl,h₃⟩
  | true =>
   exact wpAny_bind (wpAny_bind (wpAny_mono h₃ (fun x s₄ h₄=>wpAny_bind (wpAny_mono h₄ (fun _ s₅ h₅=>wpAny_pure (wpAny_pure ⟨rfl,h₅⟩)) fun _ _ h'=>h')) fun _ _ h'=>h'))
end
noncomputable def za9 (X:Cx) (scope:Scope) (N':List Str) (C:Addr) (ex:List Addr) (s:Shared) (H:Hp):Cx :=
 { X with N:=N',s₀:=s,H₀:=H,env:=compEnvC scope (clOf X.env scope.names []) C X.env,outer:=X.stack,stack:=X.stack,ex:=ex,fn:=fun _=>false,pn:=[],xe:=fun _ _=>False }
noncomputable def ziP (N N':List Str) (cap:List (Option Nat)) (names:List (Str × NameKind)):Bool :=
 (N'.zip cap).all fun p=>match p.2 with
  | none=>true
  | some j=>N[j]? == some p.1 && names.lookup p.1 == some .free
structure CompOk (X:Cx) (scope:Scope) (N':List Str) (cap:List (Option Nat)):Prop where
 kind:scope.kind = .function
 nocell:∀ y ∈ scope.names,y.2 ≠ .cell
 names:∀ y ∈ scope.names,y.2 = .local->scope.names.lookup y.1 = some .local
 freeB:(scope.names.all fun y=>y.2 != .free || X.env.scope.names.lookup y.1 == some .cell || X.env.scope.names.lookup y.1 == some .free) = true
 len:cap.length = N'.length
 cap:ziP X.N N' cap scope.names = true
theorem CompOk.free {X:Cx} {scope:Scope} {N':List Str} {cap:List (Option Nat)} (c:CompOk X scope N' cap):∀ y ∈ scope.names,y.2 = .free->(X.env.scope.names.lookup y.1 = some .cell ∨ X.env.scope.names.lookup y.1 = some .free):=fun y hy hf=>by
 have h:=List.all_eq_true.mp c.freeB y hy
 rw [hf] at h
 simpa using h
noncomputable def zaT (cap:List (Option Nat)) (σ:St):St:=cap.map fun o=>match o with
 | none=>none
 | some j=>(σ[j]?).join
theorem zgI {N N':List Str} {cap:List (Option Nat)} {names:List (Str × NameKind)} (h:ziP N N' cap names = true) {i:Nat} {x:Str} {j:Nat} (h1:N'[i]? = some x) (h2:cap[i]? = some (some j)) :
  N[j]? = some x∧names.lookup x = some .free:=by
 have hm:(x,some j) ∈ N'.zip cap:=by
  refine List.mem_of_getElem? (i:=i) ?_
  rw [List.getElem?_zip_eq_some]
  exact ⟨h1,h2⟩
 have:=List.all_eq_true.mp h _ hm
 simpa using this
section
variable {X:Cx} {pins:List (Addr × Obj)} {σ:St} {H:Hp} {s:Shared} {scope:Scope} {N':List Str} {cap:List (Option Nat)}
theorem CompOk.clos (c:CompOk X scope N' cap) (I:Inv X pins σ H s):∀ y ∈ scope.names,y.2 = .free->∃ a,X.env.cells.lookup y.1 = some a:=fun y hy hf=>I.ok.has y.1 (c.free y hy hf)
theorem zfr (c:CompOk X scope N' cap) (I:Inv X pins σ H s) {fp:List Addr} (hf:∀ b ∈ fp,FpOk X pins H b) (ho:∀ b ∈ fp,∃ o,s.heap.get? b = some o) {h₁:Heap} {t:Nat} (hns:h₁.Ns s.heap.objs.size (fun _=>none))
  (hsb:∀ b o,s.heap.get? b = some o->h₁.get? b = some o):Inv (za9 X scope N' s.heap.objs.size fp s H) [] (zaT cap σ) H { s with heap:=h₁,toks:=t }:=by
 have hcl:=c.clos I
 have sub:=zfb (env:=X.env) scope.names [] hcl (fun x c e=>by simp at e)
 have CI:∀ x a,(clOf X.env scope.names []).lookup x = some a->X.env.cells.lookup x = some a:=sub
 have cz:∀ x a,(clOf X.env scope.names []).lookup x = some a->a < s.heap.objs.size:=fun x a e=>by
  obtain ⟨v,o,q,_⟩:=I.cell x a (CI x a e)
  exact Heap.lt_size q
 have fz:∀ b ∈ fp,b ≠ s.heap.objs.size->True:=fun _ _ _=>trivial
 refine ⟨⟨I.ok.mod,c.kind,I.ok.glob,I.ok.blt,Nat.le_refl _,fun x y a h1 h2=>I.ok.inj x y a (CI x a h1) (CI y a h2),fun x hx=>?_,fun x a h=>(by cases h),I.ok.hd,I.ok.frames,.inl rfl,fun b hb=>?_,I.bs,Nat.le_trans I.ok.bsz I.sz,fun b o e hb=>?_,fun b hb=>?_,I.stack,I.stkFree⟩,
  rfl,I.bare,Un.kept hsb,⟨_,hns,fun i x v h1 h2 h3=>?_⟩,fun x a e=>?_,I.hok.fresh (Nat.le_refl _),fun x a e=>I.freeC x a (CI x a e),fun p hp=>by simp [za9] at hp,I.hok.kept hsb,?_⟩
 ·have hx:(relabel scope X.env).names.lookup x = some .cell ∨ (relabel scope X.env).names.lookup x = some .free:=hx
  rcases zcd hx with h | h
  ·exact zdt (env:=X.env) scope.names [] (.inl (PySem.mem_of_lookup h))
  ·exact absurd rfl (c.nocell _ (PySem.mem_of_lookup h))
 ·obtain ⟨o,e⟩:=ho b hb
  exact ⟨Nat.ne_of_lt (Heap.lt_size e),fun x a e=>(hf b hb).2.2.2.2.1 x a (CI x a e)⟩
 ·rcases (hf b hb).2.2.2.1 with z | z
  ·exact I.ok.noex b o e z
  ·exact absurd (Nat.lt_of_lt_of_le (Heap.lt_size e) (Nat.le_trans I.ok.bsz z)) (Nat.lt_irrefl _)
 ·intro z
  rcases List.mem_cons.mp (I.stkSub b z) with q | q
  ·exact (hf b hb).2.1 q
  ·exact (hf b hb).2.2.1 q
 ·have hi:i < cap.length:=by
   unfold zaT at h2
   have:=(List.getElem?_eq_some_iff.mp h2).1
   simpa using this
  obtain ⟨j,hj,hv⟩:∃ j,cap[i]? = some (some j)∧σ[j]? = some (some v):=by
   unfold zaT at h2
   rw [List.getElem?_map] at h2
   cases e:cap[i]? with
   | none=>rw [e] at h2; cases h2
   | some o =>
    rw [e] at h2
    cases o with
    | none=>cases h2
    | some j =>
     refine ⟨j,rfl,?_⟩
     have h2:(σ[j]?).join = some v:=Option.some.inj h2
     cases q:σ[j]? with
     | none=>rw [q] at h2; cases h2
     | some y=>rw [q] at h2; cases y with
      | none=>cases h2
      | some z=>exact congrArg some h2
  obtain ⟨hN,hfree⟩:=zgI c.cap h1 hj
  have hk:=c.free (x,.free) (PySem.mem_of_lookup hfree) rfl
  obtain ⟨m,hm,hl⟩:=I.loc
  obtain ⟨u,ru,l⟩:=hl j x v hN hv (hk.elim (fun z=>.inr (.inl z)) fun z=>.inr (.inr z))
  refine ⟨u,ru,.inr ⟨zce hfree,?_⟩⟩
  rcases l with ⟨k,_⟩ | ⟨_,a,ea,ca⟩
  ·have k:X.env.scope.names.lookup x = some .local:=k
   rcases hk with z | z <;> · rw [z] at k; cases k
  ·obtain ⟨a',ea'⟩:=zdt (env:=X.env) (x:=x) scope.names [] (.inl (PySem.mem_of_lookup hfree))
   have:=CI x a' ea'
   rw [ea] at this; cases this
   obtain ⟨o,q,d⟩:=ca
   exact ⟨a,ea',o,hsb a o q,d⟩
 ·obtain ⟨v,o,q,d⟩:=I.cell x a (CI x a e)
  exact ⟨v,o,hsb a o q,d⟩
 ·unfold zaT
  rw [List.length_map]
  exact c.len
end
noncomputable def PIfs (Y:Cx) (ifs:List Expr) (t:TT):Prop :=
 ∀ (pins:List (Addr × Obj)) (s:Shared) (σ:St) (H:Hp) (Q:Bool->Hp->Prop) (E:Value->Shared->Prop),Inv Y pins σ H s->t σ H Q ->
  wpAny (model Y.prog Y.w) Y.A (forIn ifs true fun c r=>if r = true then do let ok ← isTrue c Y.env (eval c Y.env); pure (ForInStep.yield ok) else pure (ForInStep.yield r)) (TP Y pins σ Q) E s
noncomputable def tTrue:TT:=fun _ H Q=>Q true H
theorem zby {Y:Cx}:PIfs Y [] tTrue:=fun pins s σ H Q E I h=>wpAny_tests_nil ⟨H,I,h⟩
theorem zds {Y:Cx} {c:Expr} {t:TT} (h:PT Y.nox c t):PIfs Y [c] t:=fun pins s σ H Q E I hw =>
 wpAny_tests_one (wpAny_mono (h pins s σ H Q (I.wish _) hw) (fun _ _ ⟨H',I',q⟩=>⟨H',I'.unwish,q⟩) fun _ _ z=>False.elim z)
noncomputable def GKp (own:Nat->Bool) (g:TG):Prop:=∀ v σ H Q,g v σ H Q->g v σ H fun σ' H'=>(σ'.length = σ.length∧∀ i,own i = false->σ'[i]? = σ[i]?)∧Q σ' H'
theorem za3 {own:Nat->Bool} {j:Nat} (h:own j = true:=by rfl):GKp own (zbV j):=fun v σ H Q q =>
 ⟨⟨List.length_set ..,fun i hi=>List.getElem?_set_ne (fun e=>by rw [e,hi] at h; cases h)⟩,q⟩
noncomputable def zhm (cap:List (Option Nat)) (i:Nat):Bool:=cap[i]? == some none
noncomputable def zcx (cap:List (Option Nat)) (wi:TI) (g:TG) (tt:TT) (te:TE):TE:=fun σ H Q=>wi σ H fun J H1=>∀ D,H1 D = none ->
 ∃ W:Nat->Nat->List V->Hp->Prop,(∃ m,W 0 m [] (upd H1 D (.lst [])))∧∀ i m ys H2,W i m ys H2->H2 D = some (.lst ys) ∧
  ((J.stop i H2∧Q (.ref D) H2) ∨ (J.go i H2∧ys.length < sizeLine∧∃ N:List V->Hp->Prop,(∀ ys' H',N ys' H'->∃ m',m' < m∧W (i + 1) m' ys' H')∧∀ x H3,J.yld i H2 x H3->g x (zaT cap σ) H3 fun σ4 H4=>tt σ4 H4 fun b H5 =>
   if b = true then te σ4 H5 fun y H6=>H6 D = some (.lst ys)∧N (ys ++ [y]) (upd H6 D (.lst (ys ++ [y]))) else N ys H5))
section
variable {X:Cx} {pins:List (Addr × Obj)} {σ:St} {H:Hp} {s:Shared} {scope:Scope} {N':List Str} {cap:List (Option Nat)}
theorem zem {tg elt iter:Expr} {ifs:List Expr} {pos:Pos} {g:TG} {tt:TT} {te:TE} {it:Addr} {fp:List Addr} {tn:Nat->Heap->Prop} {J:It} {RR:Value->Addr->Result->Shared->Prop} {Q:VK} {E:Value->Shared->Prop}
  (c:CompOk X scope N' cap) (hc:X.calm = true) (I:Inv X pins σ H s) (T:Turn X.prog X.w X.K tg J fp it tn) (st:tn 0 s.heap) (hf:∀ b ∈ fp,FpOk X pins H b)
  (hg:∀ C ex s H,PG (za9 X scope N' C ex s H) tg g) (hk:GKp (zhm cap) g) (hi:∀ C ex s H,PIfs (za9 X scope N' C ex s H) ifs tt) (he:∀ C ex s H,PE (za9 X scope N' C ex s H) elt te)
  (h:∀ D,H D = none ->
   ∃ W:Nat->Nat->List V->Hp->Prop,(∃ m,W 0 m [] (upd H D (.lst [])))∧∀ i m ys H2,W i m ys H2->H2 D = some (.lst ys) ∧
    ((J.stop i H2∧Q (.ref D) H2) ∨ (J.go i H2∧ys.length < sizeLine∧∃ N:List V->Hp->Prop,(∀ ys' H',N ys' H'->∃ m',m' < m∧W (i + 1) m' ys' H')∧∀ x H3,J.yld i H2 x H3->g x (zaT cap σ) H3 fun σ4 H4=>tt σ4 H4 fun b H5 =>
     if b = true then te σ4 H5 fun y H6=>H6 D = some (.lst ys)∧N (ys ++ [y]) (upd H6 D (.lst (ys ++ [y]))) else N ys H5)))
  (hRR:∀ D C H' s',Inv X pins σ H' s'->FpOk X pins H' C->(∃ m,s'.heap.Ns C m)->Q (.ref D) H'->RR (.ref D) C (.ok .next) s') :
  wpAny (model X.prog X.w) X.A (newList []) (fun acc s₃=>wpAny (model X.prog X.w) X.A (newFunctionEnv scope X.env.globals (clOf X.env scope.names []) [] X.env.qual none .none (some X.env)) (fun cenv s₄ =>
   codeAny (model X.prog X.w) X.A (.compStart (.ListComp elt [⟨tg,iter,ifs,0⟩] scope pos) 0 (.ref it) acc { cenv with scope:=relabel scope X.env }) (RR acc cenv.locals) s₄) E s₃) E s:=by
 refine wpAny_newObj_type (wpAny_newFunctionEnv c.nocell (by intro y hy; simp at hy) (fun h₁ hns₁ hsb₁=>?_) c.kind)
 dsimp only at hns₁ hsb₁ ⊢
 have hD:H s.heap.objs.size = none:=I.hok.fresh (Nat.le_refl _)
 have I1:Inv X pins σ (upd H s.heap.objs.size (.lst [])) { s with heap:=s.heap.push { cls:=.type "list",dict:=none,data:=.seq ([]:List Value).toArray } } :=
  I.laid (t':=s.toks) (fun b u e=>Heap.get?_push_of_some _ e) (Nat.le_refl _) ⟨Nat.zero_le _,[],0,.nil,Heap.get?_push_size _ rfl⟩
 have ob:∀ b ∈ fp,∃ o,s.heap.get? b = some o∧∀ v,o.data ≠ .cell v:=T.obj 0 _ st
 have hf1:∀ b ∈ fp,FpOk X pins (upd H s.heap.objs.size (.lst [])) b:=fun b hb=>by
  obtain ⟨o,e,_⟩:=ob b hb
  have:b ≠ s.heap.objs.size:=Nat.ne_of_lt (Heap.lt_size e)
  exact ⟨by rw [zag this]; exact (hf b hb).1,(hf b hb).2⟩
 generalize hs1:({ s with heap:=s.heap.push { cls:=.type "list",dict:=none,data:=.seq ([]:List Value).toArray } }:Shared) = s1 at I1
 have hh:s.heap.push { cls:=.type "list",dict:=none,data:=.seq ([]:List Value).toArray } = s1.heap:=by rw [← hs1]
 have old1:∀ b o,s.heap.get? b = some o->s1.heap.get? b = some o:=fun b o e=>by rw [← hh]; exact Heap.get?_push_of_some _ e
 rw [hh] at hns₁ hsb₁ ⊢
 have old2:∀ b o,s1.heap.get? b = some o->h₁.get? b = some o:=fun b o e=>hsb₁.extBut b o (Nat.ne_of_lt (Heap.lt_size e)) (Heap.get?_push_of_some _ e)
 have J0:Inv (za9 X scope N' s1.heap.objs.size fp s1 (upd H s.heap.objs.size (.lst []))) [] (zaT cap σ) (upd H s.heap.objs.size (.lst [])) { s1 with heap:=h₁,toks:=s.toks + ([]:List (Str × Value)).length } :=
  zfr c I1 hf1 (fun b hb=>(ob b hb).imp fun o e=>old1 b o e.1) hns₁ old2
 have es4:({ heap:=h₁,gens:=s.gens,drawn:=s.drawn,toks:=s.toks + ([]:List (Str × Value)).length,os:=s.os }:Shared) = { s1 with heap:=h₁,toks:=s.toks + ([]:List (Str × Value)).length }:=by rw [← hs1]
 have st4:tn 0 ({ s1 with heap:=h₁,toks:=s.toks + ([]:List (Str × Value)).length }:Shared).heap:=T.keep 0 _ _ st fun b hb o e=>old2 b o (old1 b o e)
 rw [es4]
 generalize ({ s1 with heap:=h₁,toks:=s.toks + ([]:List (Str × Value)).length }:Shared) = s4 at J0 st4 ⊢
 obtain ⟨W,⟨m0,w0⟩,step⟩:=h _ hD
 generalize hY:za9 X scope N' s1.heap.objs.size fp s1 (upd H s.heap.objs.size (.lst [])) = Y at J0
 have stat:∀ {H':Hp},(∀ b ∈ fp,H' b = none)->∀ b ∈ fp,FpOk Y [] H' b:=fun hn b hb=>by
  obtain ⟨o,e,_⟩:=ob b hb
  have e1:=old1 b o e
  subst hY
  refine ⟨hn b hb,Nat.ne_of_lt (Heap.lt_size e1),fun z=>?_,.inl hb,fun x a q=>(J0.ok.exf b hb).2 x a q,fun p hp=>by simp [za9] at hp⟩
  exact J0.ok.exfs b hb z
 have loop:codeAny (model X.prog X.w) X.A (.compLoop (.ListComp elt [⟨tg,iter,ifs,0⟩] scope pos) 0 (.ref it) (.ref s.heap.objs.size) (compEnvC scope (clOf X.env scope.names []) s1.heap.objs.size X.env)) (RR (.ref s.heap.objs.size) s1.heap.objs.size) s4:=by
  refine zef (fun n s'=>∃ i ys H',Inv Y [] (zaT cap σ) H' s'∧tn i s'.heap∧(∀ b ∈ fp,H' b = none)∧W i n ys H') ?_ m0 ⟨0,[],_,J0,st4,fun b hb=>(hf1 b hb).1,w0⟩
  rintro n s3 ⟨i,ys,H3,I3,st3,fr3,w3⟩
  obtain ⟨hDl,alt⟩:=step i n ys H3 w3
  rcases alt with ⟨stop,q⟩ | ⟨go,hlen,NN,hNN,stp⟩
  ·have:=T.done Y (by rw [← hY]; rfl) (by rw [← hY]; rfl) (by rw [← hY]; rfl) (by rw [← hY]; exact hc) i [] s3 (zaT cap σ) H3 (notedBy (model X.prog X.w) X.A (compEnvC scope (clOf X.env scope.names []) s1.heap.objs.size X.env) fun e s'=>RR (.ref s.heap.objs.size) s1.heap.objs.size (.error e) s') I3 (stat fr3) st3 stop
   subst hY
   refine thn this fun r s5 zq_=>?_
   obtain ⟨hr,I5⟩:=zq_
   subst hr
   refine hRR _ _ H3 s5 (I1.call' I5.os I5.base I5.hok I5.bare fun b hb=>?_) (I1.fpOk (Nat.le_refl _) I5.free) (I5.loc.imp fun m z=>z.1) q
   obtain ⟨_,f1,f2,f3,f4,f5⟩:=hf1 b hb
   exact ⟨f3,f1,f4,f5⟩
  ·have:=T.item Y (by rw [← hY]; rfl) (by rw [← hY]; rfl) (by rw [← hY]; rfl) (by rw [← hY]; exact hc) i [] s3 (zaT cap σ) H3 (notedBy (model X.prog X.w) X.A (compEnvC scope (clOf X.env scope.names []) s1.heap.objs.size X.env) fun e s'=>RR (.ref s.heap.objs.size) s1.heap.objs.size (.error e) s') I3 (stat fr3) st3 go
   have hgY:=hg s1.heap.objs.size fp s1 (upd H s.heap.objs.size (.lst []))
   have hiY:=hi s1.heap.objs.size fp s1 (upd H s.heap.objs.size (.lst []))
   have heY:=he s1.heap.objs.size fp s1 (upd H s.heap.objs.size (.lst []))
   rw [hY] at hgY hiY heY
   have nox:∀ {P:Value->Shared->Prop} e s',Y.xe e s'->P e s':=fun e s' z=>by subst hY; exact False.elim z
   have eA:Y.A = X.A:=by rw [← hY]; rfl
   have eP:Y.prog = X.prog:=by rw [← hY]; rfl
   have eW:Y.w = X.w:=by rw [← hY]; rfl
   have eE:Y.env = compEnvC scope (clOf X.env scope.names []) s1.heap.objs.size X.env:=by rw [← hY]; rfl
   rw [← eA,← eP,← eW,← eE] at this ⊢
   refine thn this fun r s5 zq_=>?_
   obtain ⟨u,hr,h5⟩:=zq_
   subst hr
   refine thn h5 fun _ s6 zq_=>?_
   obtain ⟨x,H6,I6,rx,y6,st6,fr6⟩:=zq_
   have I6':=I6.pinned (stat fr6) (T.obj _ _ st6)
   refine wpAny_mono (hgY _ s6 (zaT cap σ) H6 x u _ I6' rx (hk _ _ _ _ (stp x H6 y6))) (fun _ s7 zq_=>?_) nox
   obtain ⟨σ7,H7,I7,⟨k1,k2⟩,q7⟩:=zq_
   refine thn (hiY _ s7 σ7 H7 _ _ I7 q7) fun ok s8 zq_=>?_
   obtain ⟨H8,I8,q8⟩:=zq_
   have again:∀ {H9:Hp} {s9:Shared} {σ9:St} {ys':List V},Inv Y ([] ++ zd7 fp s6.heap) σ9 H9 s9->σ9.length = (zaT cap σ).length->(∀ (i:Nat) v,(zaT cap σ)[i]? = some (some v)->σ9[i]? = some (some v))->(∃ m',m' < n∧W (i + 1) m' ys' H9)->∃ m,m < n∧∃ i ys H',Inv Y [] (zaT cap σ) H' s9∧tn i s9.heap∧(∀ b ∈ fp,H' b = none)∧W i m ys H':=by
    rintro H9 s9 σ9 ys' I9 hl hw ⟨m',hm,w9⟩
    refine ⟨m',hm,i + 1,ys',H9,I9.unpinned.weak hl.symm hw,T.keep _ _ _ st6 fun b hb o e=>(I9.pin (b,o) (List.mem_append_right _ (List.mem_append_right _ (zbD hb e)))).1,fun b hb=>?_,w9⟩
    obtain ⟨o,e,d⟩:=T.obj _ _ st6 b hb
    exact (I9.pin (b,o) (List.mem_append_right _ (List.mem_append_right _ (zbD hb e)))).2.1
   have kw:∀ (i:Nat) v,(zaT cap σ)[i]? = some (some v)->σ7[i]? = some (some v):=fun i v e=>by
    rw [k2 i ?_]
    ·exact e
    ·unfold zhm
     cases q:cap[i]? with
     | none=>rfl
     | some o =>
      cases o with
      | none =>
       unfold zaT at e
       rw [List.getElem?_map,q] at e
       cases e
      | some j=>rfl
   cases ok with
   | false =>
    rw [if_neg Bool.false_ne_true] at q8 ⊢
    exact again I8 k1 kw (hNN _ _ q8)
   | true =>
    rw [if_pos rfl] at q8 ⊢
    refine wpAny_mono (heY _ s8 σ7 H8 _ I8 q8) (fun u9 s9 zq_=>?_) nox
    obtain ⟨y,H9,I9,ry,hD9,q9⟩:=zq_
    refine wpAny_mono (mt_append (X:=Y) _ s9 σ7 H9 (.ref s.heap.objs.size) [y] (.ref s.heap.objs.size) [u9] (fun _ H10=>NN (ys ++ [y]) H10) I9 rfl (.cons ry .nil) ⟨_,ys,y,rfl,rfl,hD9,hlen,q9⟩) (fun _ s10 zq_=>?_) nox
    obtain ⟨_,H10,I10,_,q10⟩:=zq_
    exact again I10 k1 kw (hNN _ _ q10)
 exact codeAny_compStart_list loop (T.self X.A 0 _ _ _ st4 loop)
theorem zd2 {C:Addr} {H':Hp} {s':Shared} (I':Inv X pins σ H' s') (fC:FpOk X pins H' C) {h':Heap} (hs':Heap.SameBut C s'.heap h'):Inv X pins σ H' { s' with heap:=h' }:=by
 obtain ⟨f0,f1,f2,f3,f4,f5⟩:=fC
 exact I'.turned (t':=s'.toks) (fun b o hb e=>hs'.extBut b o hb e) f0 f1 f3 f4 f5
theorem zbr {tg elt iter:Expr} {ifs:List Expr} {pos:Pos} {wi:TI} {g:TG} {tt:TT} {te:TE} (c:CompOk X scope N' cap) (hc:X.calm = true) (hit:PI X tg iter wi)
  (hg:∀ C ex s H,PG (za9 X scope N' C ex s H) tg g) (hk:GKp (zhm cap) g) (hi:∀ C ex s H,PIfs (za9 X scope N' C ex s H) ifs tt) (he:∀ C ex s H,PE (za9 X scope N' C ex s H) elt te)
  (hs:∀ x,foldedSetIterable iter X.env x = pure x:=by intro _; rfl):PE X (.ListComp elt [⟨tg,iter,ifs,0⟩] scope pos) (zcx cap wi g tt te):=by
 intro pins s σ H Q I h
 rw [eval_ListComp]
 refine wpAny_comprehension_free (use:=none) rfl hs (zbZ (c.clos I)) c.kind c.names (thn (hit pins s σ H _ I h) fun v s1 h1=>thn h1 fun itv s2 h2=>?_)
 obtain ⟨it,fp,tn,J,H2,e,I2,T,st2,f2,q⟩:=h2
 subst e
 refine zem c hc I2 T st2 f2 hg hk hi he q fun D C H' s' I' fC hn hq=>?_
 obtain ⟨m,hn⟩:=hn
 exact ⟨m,hn,fun h' hs'=>⟨.ref D,H',zd2 I' fC hs',rfl,hq⟩⟩
theorem zhQ {i:Nat} {x:Str} {px spos:Pos} {tg elt iter:Expr} {ifs:List Expr} {pos:Pos} {wi:TI} {g:TG} {tt:TT} {te:TE} (hN:X.N.Nodup) (hx0:X.N[i]? = some x) (hx:Loc X.env.scope x)
  (c:CompOk X scope N' cap) (hc:X.calm = true) (hit:PI X tg iter wi)
  (hg:∀ C ex s H,PG (za9 X scope N' C ex s H) tg g) (hk:GKp (zhm cap) g) (hi:∀ C ex s H,PIfs (za9 X scope N' C ex s H) ifs tt) (he:∀ C ex s H,PE (za9 X scope N' C ex s H) elt te)
  (hsw:swapsWith (.ListComp elt [⟨tg,iter,ifs,0⟩] scope pos) (some (.Name x px)) spos.line X.env = pure true:=by rfl)
  (hs:∀ x,foldedSetIterable iter X.env x = pure x:=by intro _; rfl) (hf:X.fn x = true ∨ X.env.scope.names.lookup x = some .local:=by first | exact .inl rfl | exact .inr rfl | assumption):PS X (.Assign [.Name x px] (.ListComp elt [⟨tg,iter,ifs,0⟩] scope pos) spos) (tAsg (zcx cap wi g tt te) (zbV i)):=by
 intro pins s σ H D0 I h
 rw [exec_Assign_Name_used _ _ _ _ hsw]
 refine wpAny_bind (wpAny_standAt (wpAny_bind ?_))
 show wpAny _ X.A (do let _ ← comprehension (.ListComp elt [⟨tg,iter,ifs,0⟩] scope pos) scope X.env _ (newList []) false (eval iter X.env) (some (assign (.Name x px) X.env))) _ _ s
 refine wpAny_bind (wpAny_mono (wpAny_comprehension_free (use:=some (assign (.Name x px) X.env)) (Q:=fun _ s'=>SP X pins D0 .next s') rfl hs (zbZ (c.clos I)) c.kind c.names
  (thn (hit pins s σ H _ I h) fun v s1 h1=>thn h1 fun itv s2 h2=>?_)) (fun _ s' hq=>wpAny_pure (wpAny_pure hq)) fun _ _ e=>e)
 obtain ⟨it,fp,tn,J,H2,e,I2,T,st2,f2,q⟩:=h2
 subst e
 refine zem (Q:=fun v H1=>zbV i v σ H1 D0.nx) c hc I2 T st2 f2 hg hk hi he q fun D C H' s' I' fC hn hq=>?_
 obtain ⟨m,hn⟩:=hn
 refine wpAny_assign_Name (zdP (v:=.ref D) I' hN hx0 hx rfl (fun s'' I'' zq_=>?_) hf)
 obtain ⟨a,sb,ha⟩:=zq_
 have hne:C ≠ a:=by
  rcases ha with z | z
  ·rw [z]; exact fC.2.1
  ·exact fun e=>fC.2.2.2.2.1 x a z e.symm
 exact ⟨m,hn.sameBut sb hne,fun h' hs'=>⟨σ.set i (some (.ref D)),H',zd2 I'' fC hs',hq⟩⟩
end
theorem zdM {K:PySem.W.Frag} {a D:Addr} {xs:List V} {g:TG} {tt:TT} {te:TE} {σ0:St} {H1:Hp} {R:Hp->Prop} (Pv:Nat->List V->Hp->Prop) (h0:Pv 0 [] (upd H1 D (.lst [])))
  (hl:∀ i ys H,i ≤ xs.length->Pv i ys H->SqL K H a xs∧H D = some (.lst ys)∧ys.length ≤ i) (hz:xs.length ≤ sizeLine)
  (hs:∀ i x ys H,xs[i]? = some x->Pv i ys H->g x σ0 H fun σ4 H4=>tt σ4 H4 fun b H5=>if b = true then te σ4 H5 fun y H6=>H6 D = some (.lst ys)∧Pv (i + 1) (ys ++ [y]) (upd H6 D (.lst (ys ++ [y]))) else Pv (i + 1) ys H5)
  (hd:∀ ys H,Pv xs.length ys H->R H) :
  ∃ W:Nat->Nat->List V->Hp->Prop,(∃ m,W 0 m [] (upd H1 D (.lst [])))∧∀ i m ys H2,W i m ys H2->H2 D = some (.lst ys) ∧
   (((Itl K a).stop i H2∧R H2) ∨ ((Itl K a).go i H2∧ys.length < sizeLine∧∃ N:List V->Hp->Prop,(∀ ys' H',N ys' H'->∃ m',m' < m∧W (i + 1) m' ys' H')∧∀ x H3,(Itl K a).yld i H2 x H3->g x σ0 H3 fun σ4 H4=>tt σ4 H4 fun b H5 =>
    if b = true then te σ4 H5 fun y H6=>H6 D = some (.lst ys)∧N (ys ++ [y]) (upd H6 D (.lst (ys ++ [y]))) else N ys H5)):=by
 refine ⟨fun i m ys H=>m = xs.length - i∧i ≤ xs.length∧Pv i ys H,⟨xs.length,by simp,Nat.zero_le _,h0⟩,?_⟩
 rintro i m ys H2 ⟨rfl,hi,p⟩
 obtain ⟨q,hD,hly⟩:=hl i ys H2 hi p
 refine ⟨hD,?_⟩
 by_cases hlt:i < xs.length
 ·refine .inr ⟨⟨xs,xs[i],q,by simp [hlt]⟩,by omega,Pv (i + 1),fun ys' H' p'=>⟨xs.length - (i + 1),by omega,rfl,hlt,p'⟩,fun x H3 y=>?_⟩
  obtain ⟨e,y⟩:=y
  subst e
  exact hs i x ys _ (y xs q) p
 ·have e:i = xs.length:=by omega
  subst e
  exact .inl ⟨⟨xs,q,Nat.le_refl _⟩,hd ys H2 p⟩
theorem zha {K:PySem.W.Frag} {a D:Addr} {xs:List V} {g:TG} {tt:TT} {te:TE} {σ0:St} {H1:Hp} {R:Hp->Prop} (Pv:Nat->List V->Hp->Prop) (h0:Pv 0 [] (upd H1 D (.lst [])))
  (hl:∀ i ys H,i ≤ xs.length->Pv i ys H->SqT K H a xs∧H D = some (.lst ys)∧ys.length ≤ i) (hz:xs.length ≤ sizeLine)
  (hs:∀ i x ys H,xs[i]? = some x->Pv i ys H->g x σ0 H fun σ4 H4=>tt σ4 H4 fun b H5=>if b = true then te σ4 H5 fun y H6=>H6 D = some (.lst ys)∧Pv (i + 1) (ys ++ [y]) (upd H6 D (.lst (ys ++ [y]))) else Pv (i + 1) ys H5)
  (hd:∀ ys H,Pv xs.length ys H->R H) :
  ∃ W:Nat->Nat->List V->Hp->Prop,(∃ m,W 0 m [] (upd H1 D (.lst [])))∧∀ i m ys H2,W i m ys H2->H2 D = some (.lst ys) ∧
   (((Itt K a).stop i H2∧R H2) ∨ ((Itt K a).go i H2∧ys.length < sizeLine∧∃ N:List V->Hp->Prop,(∀ ys' H',N ys' H'->∃ m',m' < m∧W (i + 1) m' ys' H')∧∀ x H3,(Itt K a).yld i H2 x H3->g x σ0 H3 fun σ4 H4=>tt σ4 H4 fun b H5 =>
    if b = true then te σ4 H5 fun y H6=>H6 D = some (.lst ys)∧N (ys ++ [y]) (upd H6 D (.lst (ys ++ [y]))) else N ys H5)):=by
 refine ⟨fun i m ys H=>m = xs.length - i∧i ≤ xs.length∧Pv i ys H,⟨xs.length,by simp,Nat.zero_le _,h0⟩,?_⟩
 rintro i m ys H2 ⟨rfl,hi,p⟩
 obtain ⟨q,hD,hly⟩:=hl i ys H2 hi p
 refine ⟨hD,?_⟩
 by_cases hlt:i < xs.length
 ·refine .inr ⟨⟨xs,xs[i],q,by simp [hlt]⟩,by omega,Pv (i + 1),fun ys' H' p'=>⟨xs.length - (i + 1),by omega,rfl,hlt,p'⟩,fun x H3 y=>?_⟩
  obtain ⟨e,y⟩:=y
  subst e
  exact hs i x ys _ (y xs q) p
 ·have e:i = xs.length:=by omega
  subst e
  exact .inl ⟨⟨xs,q,Nat.le_refl _⟩,hd ys H2 p⟩
theorem zdb {lo:Int} {n:Nat} {D:Addr} {g:TG} {tt:TT} {te:TE} {σ0:St} {H1:Hp} {R:Hp->Prop} (Pv:Nat->List V->Hp->Prop) (h0:Pv 0 [] (upd H1 D (.lst [])))
  (hl:∀ i ys H,i ≤ n->Pv i ys H->H D = some (.lst ys)∧ys.length ≤ i) (hz:n ≤ sizeLine)
  (hs:∀ i ys H,i < n->Pv i ys H->g (.int (lo + i)) σ0 H fun σ4 H4=>tt σ4 H4 fun b H5=>if b = true then te σ4 H5 fun y H6=>H6 D = some (.lst ys)∧Pv (i + 1) (ys ++ [y]) (upd H6 D (.lst (ys ++ [y]))) else Pv (i + 1) ys H5)
  (hd:∀ ys H,Pv n ys H->R H) :
  ∃ W:Nat->Nat->List V->Hp->Prop,(∃ m,W 0 m [] (upd H1 D (.lst [])))∧∀ i m ys H2,W i m ys H2->H2 D = some (.lst ys) ∧
   (((Itr lo n).stop i H2∧R H2) ∨ ((Itr lo n).go i H2∧ys.length < sizeLine∧∃ N:List V->Hp->Prop,(∀ ys' H',N ys' H'->∃ m',m' < m∧W (i + 1) m' ys' H')∧∀ x H3,(Itr lo n).yld i H2 x H3->g x σ0 H3 fun σ4 H4=>tt σ4 H4 fun b H5 =>
    if b = true then te σ4 H5 fun y H6=>H6 D = some (.lst ys)∧N (ys ++ [y]) (upd H6 D (.lst (ys ++ [y]))) else N ys H5)):=by
 refine ⟨fun i m ys H=>m = n - i∧i ≤ n∧Pv i ys H,⟨n,by simp,Nat.zero_le _,h0⟩,?_⟩
 rintro i m ys H2 ⟨rfl,hi,p⟩
 obtain ⟨hD,hly⟩:=hl i ys H2 hi p
 refine ⟨hD,?_⟩
 by_cases hlt:i < n
 ·refine .inr ⟨hlt,by omega,Pv (i + 1),fun ys' H' p'=>⟨n - (i + 1),by omega,rfl,hlt,p'⟩,fun x H3 y=>?_⟩
  obtain ⟨e,y⟩:=y
  subst e y
  exact hs i ys _ hlt p
 ·have e:i = n:=by omega
  subst e
  exact .inl ⟨Nat.le_refl _,hd ys H2 p⟩
end L2
set_option Elab.async false
set_option linter.all false
set_option maxRecDepth 100000
namespace L2
open PySem PySem.Spec PyProof.Rows
noncomputable def zhw (i j:Int):Prop:=0 < j∧j ≤ 10 ^ 70
section
variable {X:Cx}
theorem op_fdivB:OpR X (binaryOp .FloorDiv) (rI zhw fun i j=>.int (i / j)):=opI fun i j _ _ _ _ _ hc q=>by
 have h1:(0:Int) < j:=hc.1
 have h2:j ≤ 10 ^ 70:=hc.2
 refine floordiv_int (by omega) ?_ (.inl (PyProof.noPylong_of_log2 ?_))
 ·rw [Int.fdiv_eq_ediv_of_nonneg _ (by omega)]
  exact q
 ·have h3:j.natAbs < 2 ^ 300:=by
   have:(j.natAbs:Int) = j:=by omega
   have h4:(10:Int) ^ 70 < 2 ^ 300:=by decide
   omega
  have h5:j.natAbs.log2 < 300:=(Nat.log2_lt (by omega)).mpr h3
  omega
theorem call_isinst:zbN X (.builtin "isinstance") (fun xs H Q=>∃ x n t b,xs = [x,.ty n]∧TyOf X.K H x t∧PySem.W.kitOne X.K t (.type n) = some b∧Q (.bl b) H):=by
 intro pins s σ H xs us Q I r h
 obtain ⟨x,n,t,b,rfl,ty,e,q⟩:=h
 obtain ⟨u,v,rfl,ru,rv⟩:=Vals.two r
 cases rv
 exact zfH I ru ty e fun tk=>⟨.bl b,H,I.tok _,rfl,q⟩
end
noncomputable def eqVs (xs ys:List V):Bool:=xs.length == ys.length && (xs.zip ys).all fun p=>eqV p.1 p.2
theorem range_all_zip:∀ (xs ys:List V),xs.length = ys.length->((List.range xs.length).all fun j=>eqV (xs.getD j .non) (ys.getD j .non)) = (xs.zip ys).all fun p=>eqV p.1 p.2
 | [],[],_=>rfl
 | x :: xs,y :: ys,h=>by
  have ih:=range_all_zip xs ys (by simpa using h)
  rw [List.length_cons,List.range_succ_eq_map,List.all_cons,List.all_map,List.zip_cons_cons,List.all_cons,← ih]
  rfl
 | [],_ :: _,h=>by simp at h
 | _ :: _,[],h=>by simp at h
theorem range_all_zip':∀ (xs ys:List V),((List.range (min xs.length ys.length)).all fun j=>eqV (xs.getD j .non) (ys.getD j .non)) = (xs.zip ys).all fun p=>eqV p.1 p.2
 | [],ys=>by simp
 | x :: xs,[]=>by simp
 | x :: xs,y :: ys=>by
  have ih:=range_all_zip' xs ys
  rw [List.length_cons,List.length_cons,Nat.succ_min_succ,Nat.succ_eq_add_one,List.range_succ_eq_map,List.all_cons,List.all_map,List.zip_cons_cons,List.all_cons,← ih]
  rfl
noncomputable def rEqD (K:PySem.W.Frag) (neg:Bool):R2:=fun x y H Q=>∃ l b xs ys,x = .ref l∧y = .ref b∧((SqL K H l xs∧SqL K H b ys) ∨ (SqT K H l xs∧SqT K H b ys))∧xs.all flatV = true∧ys.all flatV = true ∧
 Q (.bl (if neg then !eqVs xs ys else eqVs xs ys)) H
section
variable {X:Cx}
theorem zbC {A:Around} {s:Shared} {xs ys:List V} {us ws:List Value} (r:Vals xs us) (q:Vals ys ws) (fx:xs.all flatV = true) (fy:ys.all flatV = true) :
  ∀ j (h1:j < us.toArray.size) (h2:j < ws.toArray.size),SeqAt.EqAt A s us.toArray[j] ws.toArray[j] (eqV (xs.getD j .non) (ys.getD j .non)):=by
 intro j h1 h2
 have l1:=r.length
 have l2:=q.length
 simp only [List.size_toArray] at h1 h2
 have hx:xs[j]? = some xs[j]:=List.getElem?_eq_getElem (by omega)
 have hy:ys[j]? = some ys[j]:=List.getElem?_eq_getElem (by omega)
 obtain ⟨u,eu,ru⟩:=r.get hx
 obtain ⟨v,ev,rv⟩:=q.get hy
 have e1:us.toArray[j] = u:=by
  have:=(List.getElem?_eq_some_iff.mp eu).2
  simpa using this
 have e2:ws.toArray[j] = v:=by
  have:=(List.getElem?_eq_some_iff.mp ev).2
  simpa using this
 have e3:xs.getD j .non = xs[j]:=by rw [List.getD_eq_getElem?_getD,hx]; rfl
 have e4:ys.getD j .non = ys[j]:=by rw [List.getD_eq_getElem?_getD,hy]; rfl
 rw [e1,e2,e3,e4]
 exact ziY ru rv (List.all_eq_true.mp fx _ (List.getElem_mem _)) (List.all_eq_true.mp fy _ (List.getElem_mem _))
theorem zjb (hu:X.A.units + 1 < cLine):OpR X (compareOp .Eq) (rEqD X.K false):=by
 intro pins s σ H x y v u Q I rx ry h
 obtain ⟨l,b,xs,ys,rfl,rfl,hq,fx,fy,q⟩:=h
 cases rx
 cases ry
 rcases hq with ⟨h1,h2⟩ | ⟨h1,h2⟩
 ·obtain ⟨us,r1,p1,z1⟩:=I.list h1
  obtain ⟨ws,r2,p2,z2⟩:=I.list h2
  have l1:=r1.length
  have l2:=r2.length
  by_cases hl:xs.length = ys.length
  ·refine SeqAt.eq_listAt p1.isList p2.isList (by simp; omega) (by omega) (zbC r1 r2 fx fy) ⟨.bl _,H,I,rfl,?_⟩
   have e:(List.range us.toArray.size).all (fun j=>eqV (xs.getD j .non) (ys.getD j .non)) = eqVs xs ys:=by
    unfold eqVs
    rw [List.size_toArray,← l1,range_all_zip xs ys hl,hl]
    simp
   rw [e]
   exact q
  ·refine SeqAt.eq_list_lengthsAt p1.isList p2.isList (by simp; omega) (by omega) ⟨.bl _,H,I,rfl,?_⟩
   have e:eqVs xs ys = false:=by unfold eqVs; simp [hl]
   rw [← e]
   exact q
 ·obtain ⟨us,r1,p1,z1⟩:=I.tuple h1
  obtain ⟨ws,r2,p2,z2⟩:=I.tuple h2
  have l1:=r1.length
  have l2:=r2.length
  refine SeqAt.eq_tupleAt p1 p2 (by omega) (zbC r1 r2 fx fy) ⟨.bl _,H,I,rfl,?_⟩
  have e:((List.range (min us.toArray.size ws.toArray.size)).all (fun j=>eqV (xs.getD j .non) (ys.getD j .non)) && us.toArray.size == ws.toArray.size) = eqVs xs ys:=by
   unfold eqVs
   rw [List.size_toArray,List.size_toArray,← l1,← l2,range_all_zip' xs ys,Bool.and_comm]
  rw [e]
  exact q
theorem ziR (hu:X.A.units + 1 < cLine):OpR X (compareOp .NotEq) (rEqD X.K true):=by
 intro pins s σ H x y v u Q I rx ry h
 obtain ⟨l,b,xs,ys,rfl,rfl,hq,fx,fy,q⟩:=h
 cases rx
 cases ry
 rcases hq with ⟨h1,h2⟩ | ⟨h1,h2⟩
 ·obtain ⟨us,r1,p1,z1⟩:=I.list h1
  obtain ⟨ws,r2,p2,z2⟩:=I.list h2
  have l1:=r1.length
  have l2:=r2.length
  by_cases hl:xs.length = ys.length
  ·refine SeqAt.RcNeAt.lists p1.isList p2.isList (by simp; omega) (by omega) (zbC r1 r2 fx fy) _ _ _ _ ⟨.bl _,H,I,rfl,?_⟩
   have e:(List.range us.toArray.size).all (fun j=>eqV (xs.getD j .non) (ys.getD j .non)) = eqVs xs ys:=by
    unfold eqVs
    rw [List.size_toArray,← l1,range_all_zip xs ys hl,hl]
    simp
   rw [e]
   exact q
  ·refine SeqAt.RcNeAt.lists_lengths p1.isList p2.isList (by simp; omega) (by omega) _ _ _ _ ⟨.bl _,H,I,rfl,?_⟩
   have e:eqVs xs ys = false:=by unfold eqVs; simp [hl]
   have q:Q (.bl (!eqVs xs ys)) H:=q
   rw [e] at q
   exact q
 ·obtain ⟨us,r1,p1,z1⟩:=I.tuple h1
  obtain ⟨ws,r2,p2,z2⟩:=I.tuple h2
  have l1:=r1.length
  have l2:=r2.length
  refine SeqAt.RcNeAt.tuples p1 p2 (by omega) (zbC r1 r2 fx fy) _ _ _ _ ⟨.bl _,H,I,rfl,?_⟩
  have e:((List.range (min us.toArray.size ws.toArray.size)).all (fun j=>eqV (xs.getD j .non) (ys.getD j .non)) && us.toArray.size == ws.toArray.size) = eqVs xs ys:=by
   unfold eqVs
   rw [List.size_toArray,List.size_toArray,← l1,← l2,range_all_zip' xs ys,Bool.and_comm]
  rw [e]
  exact q
end
noncomputable def seqV (H:Hp) (p:Addr):Option (List V):=match H p with
 | some (.lst xs)=>some xs
 | some (.tup xs)=>some xs
 | some (.frz _ (.lst xs))=>some xs
 | _=>none
theorem zde {K:PySem.W.Frag} {H:Hp} {p:Addr} {xs:List V} (h:seqV H p = some xs):SqL K H p xs ∨ SqT K H p xs:=by
 unfold seqV at h
 split at h
 ·rename_i e; cases h; exact .inl (.of e)
 ·rename_i e; cases h; exact .inr (.of e)
 ·rename_i o ys e; cases h; exact .inl (.inl (.inr ⟨o,e⟩))
 ·cases h
noncomputable def rIxF:R2:=fun x y H Q=>∃ p i xs v,x = .ref p∧y = .int i∧seqV H p = some xs∧atI xs i = some v∧Q v H
noncomputable def tyF (x:V) (H:Hp):Option String:=match x with
 | .non=>some "NoneType"
 | .bl _=>some "bool"
 | .int _=>some "int"
 | .str _=>some "str"
 | .ref a=>match H a with
  | some (.lst _)=>some "list"
  | some (.frz _ (.lst _))=>some "list"
  | some (.tup _)=>some "tuple"
  | some (.dK _)=>some "dict"
  | some (.dT _)=>some "dict"
  | _=>none
 | _=>none
noncomputable def isTy (t n:String):Bool:=t == n || (t == "bool" && n == "int")
theorem ziM {K:PySem.W.Frag} {x:V} {H:Hp} {t:String} (h:tyF x H = some t):TyOf K H x (.type t)∧(t = "NoneType" ∨ t = "bool" ∨ t = "int" ∨ t = "str" ∨ t = "list" ∨ t = "tuple" ∨ t = "dict"):=by
 unfold tyF at h
 split at h
 ·cases h; exact ⟨.non,by simp⟩
 ·cases h; exact ⟨.bl _,by simp⟩
 ·cases h; exact ⟨.int _,by simp⟩
 ·cases h; exact ⟨.str _,by simp⟩
 ·split at h
  ·rename_i e; cases h; exact ⟨.lst e,by simp⟩
  ·rename_i e; cases h; exact ⟨.frz e,by simp⟩
  ·rename_i e; cases h; exact ⟨.tup e,by simp⟩
  ·rename_i e; cases h; exact ⟨.dK e,by simp⟩
  ·rename_i e; cases h; exact ⟨.dT e,by simp⟩
  ·cases h
 ·cases h
theorem zgd {K:PySem.W.Frag} {t n:String} (h:t = "NoneType" ∨ t = "bool" ∨ t = "int" ∨ t = "str" ∨ t = "list" ∨ t = "tuple" ∨ t = "dict") (hn:n = "bool" ∨ n = "int" ∨ n = "str" ∨ n = "list" ∨ n = "tuple" ∨ n = "dict") :
  PySem.W.kitOne K (.type t) (.type n) = some (isTy t n):=by
 rcases h with rfl | rfl | rfl | rfl | rfl | rfl | rfl <;> rcases hn with rfl | rfl | rfl | rfl | rfl | rfl <;> rfl
noncomputable def lenF (x:V) (H:Hp):Option Nat:=match x with
 | .str y=>if y.length ≤ sizeLine then some y.length else none
 | .ref p=>match H p with
  | some (.lst xs)=>some xs.length
  | some (.tup xs)=>some xs.length
  | some (.frz _ (.lst xs))=>some xs.length
  | _=>none
 | _=>none
theorem zij {K:PySem.W.Frag} {x:V} {H:Hp} {n:Nat} (h:lenF x H = some n):LenV K x H n:=by
 unfold lenF at h
 split at h
 ·split at h
  ·rename_i z; cases h; exact ⟨z,rfl⟩
  ·cases h
 ·split at h
  ·rename_i e; cases h; exact .inl ⟨_,.of e,rfl⟩
  ·rename_i e; cases h; exact .inr ⟨_,.of e,rfl⟩
  ·rename_i o xs e; cases h; exact .inl ⟨_,.inl (.inr ⟨o,e⟩),rfl⟩
  ·cases h
 ·cases h
noncomputable def zc2 (H:Hp) (p:Addr):Option Bool:=match H p with
 | some (.lst _)=>some true
 | some (.frz _ (.lst _))=>some true
 | some (.tup _)=>some false
 | _=>none
theorem zbK {K:PySem.W.Frag} {H:Hp} {p:Addr} {xs:List V} (h:seqV H p = some xs) (k:zc2 H p = some true):SqL K H p xs:=by
 rcases zde (K:=K) h with q | q
 ·exact q
 ·unfold seqV at h
  unfold zc2 at k
  split at h
  ·rename_i e; cases h; exact .of e
  ·rename_i e; rw [e] at k; cases k
  ·rename_i o ys e; cases h; exact .inl (.inr ⟨o,e⟩)
  ·cases h
theorem zgM {K:PySem.W.Frag} {H:Hp} {p:Addr} {xs:List V} (h:seqV H p = some xs) (k:zc2 H p = some false):SqT K H p xs:=by
 unfold seqV at h
 unfold zc2 at k
 split at h
 ·rename_i e; rw [e] at k; cases k
 ·rename_i e; cases h; exact .of e
 ·rename_i o ys e; rw [e] at k; cases k
 ·cases h
noncomputable def rEqF (neg:Bool):R2:=fun x y H Q=>∃ l b k xs ys,x = .ref l∧y = .ref b∧seqV H l = some xs∧seqV H b = some ys∧zc2 H l = some k∧zc2 H b = some k∧xs.all flatV = true∧ys.all flatV = true ∧
 Q (.bl (if neg then !eqVs xs ys else eqVs xs ys)) H
theorem zhI {K:PySem.W.Frag} {neg:Bool} {x y:V} {H:Hp} {Q:VK} (h:rEqF neg x y H Q):rEqD K neg x y H Q:=by
 obtain ⟨l,b,k,xs,ys,e1,e2,h1,h2,k1,k2,r⟩:=h
 cases k with
 | true=>exact ⟨l,b,xs,ys,e1,e2,.inl ⟨zbK h1 k1,zbK h2 k2⟩,r⟩
 | false=>exact ⟨l,b,xs,ys,e1,e2,.inr ⟨zgM h1 k1,zgM h2 k2⟩,r⟩
section
variable {X:Cx}
theorem ix_F:IxR X rIxF:=by
 intro value slice pins s σ H x y v u Q I rx ry h hs
 obtain ⟨p,i,xs,z,e1,e2,hq,he,q⟩:=h
 rcases zde (K:=X.K) hq with g | g
 ·exact ix_list value slice pins s σ H x y v u Q I rx ry ⟨p,xs,i,z,e1,e2,g,he,q⟩ hs
 ·exact ix_tup value slice pins s σ H x y v u Q I rx ry ⟨p,xs,i,z,e1,e2,g,he,q⟩ hs
theorem call_isF:zbN X (.builtin "isinstance") (fun xs H Q=>∃ x n t,xs = [x,.ty n]∧tyF x H = some t∧(n = "bool" ∨ n = "int" ∨ n = "str" ∨ n = "list" ∨ n = "tuple" ∨ n = "dict")∧Q (.bl (isTy t n)) H):=by
 intro pins s σ H xs us Q I r h
 obtain ⟨x,n,t,e,ht,hn,q⟩:=h
 obtain ⟨ty,h7⟩:=ziM (K:=X.K) ht
 exact call_isinst pins s σ H xs us Q I r ⟨x,n,_,_,e,ty,zgd h7 hn,q⟩
theorem call_lenF:zbN X (.builtin "len") (fun xs H Q=>∃ x n,xs = [x]∧lenF x H = some n∧Q (.int n) H):=by
 intro pins s σ H xs us Q I r h
 obtain ⟨x,n,e,hl,q⟩:=h
 exact call_len pins s σ H xs us Q I r ⟨x,n,e,zij hl,q⟩
theorem zji (hu:X.A.units + 1 < cLine):OpR X (compareOp .Eq) (rEqF false):=fun pins s σ H x y v u Q I rx ry h=>zjb hu pins s σ H x y v u Q I rx ry (zhI h)
theorem zjr (hu:X.A.units + 1 < cLine):OpR X (compareOp .NotEq) (rEqF true):=fun pins s σ H x y v u Q I rx ry h=>ziR hu pins s σ H x y v u Q I rx ry (zhI h)
end
theorem ze2 {i j:Int}:scal (.int i) (.int j) = true:=rfl
theorem zgi {i j:Bool}:scal (.bl i) (.bl j) = true:=rfl
theorem zfk {i j:Str}:scal (.str i) (.str j) = true:=rfl
theorem zdu {α:Type} {x:α} {r:List α}:atI (x :: r) 0 = some x:=zaU (j:=0) rfl
theorem zgK {α:Type} {x y:α} {r:List α}:atI (x :: y :: r) 1 = some y:=zaU (j:=1) rfl
theorem zix {α:Type} {x y z:α} {r:List α}:atI (x :: y :: z :: r) 2 = some z:=zaU (j:=2) rfl
theorem ziQ {α:Type} {x y z w:α} {r:List α}:atI (x :: y :: z :: w :: r) 3 = some w:=zaU (j:=3) rfl
theorem ziO {α:Type} {x y z w v:α} {r:List α}:atI (x :: y :: z :: w :: v :: r) 4 = some v:=zaU (j:=4) rfl
theorem isTys:isTy "NoneType" "bool" = false∧isTy "NoneType" "int" = false∧isTy "NoneType" "str" = false∧isTy "NoneType" "list" = false∧isTy "NoneType" "tuple" = false∧isTy "NoneType" "dict" = false∧isTy "bool" "bool" = true∧isTy "bool" "int" = true∧isTy "bool" "str" = false∧isTy "bool" "list" = false∧isTy "bool" "tuple" = false∧isTy "bool" "dict" = false∧isTy "int" "bool" = false∧isTy "int" "int" = true∧isTy "int" "str" = false∧isTy "int" "list" = false∧isTy "int" "tuple" = false∧isTy "int" "dict" = false∧isTy "str" "bool" = false∧isTy "str" "int" = false∧isTy "str" "str" = true∧isTy "str" "list" = false∧isTy "str" "tuple" = false∧isTy "str" "dict" = false∧isTy "list" "bool" = false∧isTy "list" "int" = false∧isTy "list" "str" = false∧isTy "list" "list" = true∧isTy "list" "tuple" = false∧isTy "list" "dict" = false∧isTy "tuple" "bool" = false∧isTy "tuple" "int" = false∧isTy "tuple" "str" = false∧isTy "tuple" "list" = false∧isTy "tuple" "tuple" = true∧isTy "tuple" "dict" = false∧isTy "dict" "bool" = false∧isTy "dict" "int" = false∧isTy "dict" "str" = false∧isTy "dict" "list" = false∧isTy "dict" "tuple" = false∧isTy "dict" "dict" = true:=by decide
noncomputable def tyO:Option HO->Option String
 | some (.lst _)=>some "list"
 | some (.frz _ (.lst _))=>some "list"
 | some (.tup _)=>some "tuple"
 | some (.dK _)=>some "dict"
 | some (.dT _)=>some "dict"
 | _=>none
noncomputable def lenO:Option HO->Option Nat
 | some (.lst xs)=>some xs.length
 | some (.tup xs)=>some xs.length
 | some (.frz _ (.lst xs))=>some xs.length
 | _=>none
noncomputable def seqO:Option HO->Option (List V)
 | some (.lst xs)=>some xs
 | some (.tup xs)=>some xs
 | some (.frz _ (.lst xs))=>some xs
 | _=>none
noncomputable def kindO:Option HO->Option Bool
 | some (.lst _)=>some true
 | some (.frz _ (.lst _))=>some true
 | some (.tup _)=>some false
 | _=>none
theorem zfX {a:Addr} {H:Hp}:tyF (.ref a) H = tyO (H a):=rfl
theorem zfJ {i:Int} {H:Hp}:tyF (.int i) H = some "int":=rfl
theorem zhP {i:Bool} {H:Hp}:tyF (.bl i) H = some "bool":=rfl
theorem zge {i:Str} {H:Hp}:tyF (.str i) H = some "str":=rfl
theorem zgu {H:Hp}:tyF .non H = some "NoneType":=rfl
theorem zdx {a:Addr} {H:Hp}:lenF (.ref a) H = lenO (H a):=rfl
theorem zgn {a:Addr} {H:Hp}:seqV H a = seqO (H a):=rfl
theorem ze5 {a:Addr} {H:Hp}:zc2 H a = kindO (H a):=rfl
theorem zfF {xs:List V}:tyO (some (.lst xs)) = some "list":=rfl
theorem zgw {o:Obj} {xs:List V}:tyO (some (.frz o (.lst xs))) = some "list":=rfl
theorem zfK {xs:List V}:tyO (some (.tup xs)) = some "tuple":=rfl
theorem zhA {xs}:tyO (some (.dK xs)) = some "dict":=rfl
theorem zbl {xs:List V}:lenO (some (.lst xs)) = some xs.length:=rfl
theorem zeW {o:Obj} {xs:List V}:lenO (some (.frz o (.lst xs))) = some xs.length:=rfl
theorem zfc {xs:List V}:lenO (some (.tup xs)) = some xs.length:=rfl
theorem zfd {xs:List V}:seqO (some (.lst xs)) = some xs:=rfl
theorem zfa {o:Obj} {xs:List V}:seqO (some (.frz o (.lst xs))) = some xs:=rfl
theorem ze4 {xs:List V}:seqO (some (.tup xs)) = some xs:=rfl
theorem zd1 {xs:List V}:kindO (some (.lst xs)) = some true:=rfl
theorem zeh {o:Obj} {xs:List V}:kindO (some (.frz o (.lst xs))) = some true:=rfl
theorem zec {xs:List V}:kindO (some (.tup xs)) = some false:=rfl
theorem zan {H:Hp} {p q:Addr} {o u:HO} (hq:H q = some o) (hp:H p = none):upd H p u q = some o:=by rw [zag (zah hq hp)]; exact hq
theorem Same.laid {H:Hp} {p:Addr} {u:HO} (hp:H p = none):Same H (upd H p u):=fun _ _ h=>zan h hp
theorem Same.step {H H1:Hp} {p:Addr} {u:HO} (s:Same H H1) (hp:H1 p = none):Same H (upd H1 p u):=s.trans (.laid hp)
theorem zaG {α:Type} {f:α->V} {l:List α} {i:Nat} {x:V} (h:(l.map f)[i]? = some x):∃ z,l[i]? = some z∧x = f z:=by
 rw [List.getElem?_map] at h
 cases e:l[i]? with
 | none=>rw [e] at h; cases h
 | some z=>rw [e] at h; exact ⟨z,rfl,(Option.some.inj h).symm⟩
end L2
set_option Elab.async false
set_option linter.all false
set_option maxRecDepth 100000
namespace L2
open PySem PySem.Spec PyProof.Rows
theorem owner_lr:Manifest.owners.lookup (String.ofList ['r','o','t','a','r','e','t','i','_','e','g','n','a','r','g','n','o','l'].reverse) = some Manifest.sig_longrange_iterator:=by kernel_rfl
theorem slot_lr_next:Slot "longrange_iterator" "__next__" "longrange_iterator.__next__" :=
 .of (owner:="longrange_iterator") (n:="__next__") (by rw [typeLookup_type,builtinLookup_eq_fast]; kernel_rfl) (by decide +kernel) (by decide +kernel) (by decide +kernel)
  (by first | exact .inl (by decide +kernel) | exact .inr (by decide +kernel)) (by rw [isSubtype_type]; kernel_rfl)
theorem slot_lr_iter:Slot "longrange_iterator" "__iter__" "longrange_iterator.__iter__" :=
 .of (owner:="longrange_iterator") (n:="__iter__") (by rw [typeLookup_type,builtinLookup_eq_fast]; kernel_rfl) (by decide +kernel) (by decide +kernel) (by decide +kernel)
  (by first | exact .inl (by decide +kernel) | exact .inr (by decide +kernel)) (by rw [isSubtype_type]; kernel_rfl)
theorem entry_lr_next:entryFor table "longrange_iterator.__next__" = some Builtin.«longrange_iterator.__next__»:=entryFor_of_tree (by kernel_rfl)
theorem entry_lr_iter:entryFor table "longrange_iterator.__iter__" = some Builtin.«dict_keyiterator.__iter__» :=
 entryFor_alias (id':="dict_keyiterator.__iter__") (by kernel_rfl) (by first | rfl | decide +kernel | (unfold String.splitOn; simp +decide [String.splitOnAux])) (by decide +kernel) (by kernel_rfl)
theorem zch (a:Value):argsOk "longrange_iterator.__next__" ⟨[a],[]⟩:=by
 unfold argsOk; rw [signature?_of (id:="longrange_iterator.__next__") (n:=['_','_','t','x','e','n','_','_']) (o:=['r','o','t','a','r','e','t','i','_','e','g','n','a','r','g','n','o','l']) (by kernel_rfl) owner_lr]; kernel_rfl
theorem zdQ (a:Value):argsOk "longrange_iterator.__iter__" ⟨[a],[]⟩:=by
 unfold argsOk; rw [signature?_of (id:="longrange_iterator.__iter__") (n:=['_','_','r','e','t','i','_','_']) (o:=['r','o','t','a','r','e','t','i','_','e','g','n','a','r','g','n','o','l']) (by kernel_rfl) owner_lr]; kernel_rfl
abbrev zcg (h:Heap) (it:Addr) (x left step:Int):Prop:=h.get? it = some { cls:=.type "longrange_iterator",dict:=none,data:=.fields #[rawInt x,rawInt left,rawInt step],slots:=#[] }
theorem zhT (it:Addr) (x left step:Int) (hc0:¬left ≤ 0) :
  Meets (Builtin.«longrange_iterator.__next__» ⟨[.ref it],[]⟩) (fun _ R s=>zcg s.heap it x left step ∧
   ∀ h',zcg h' it (x + step) (left - 1) step->Heap.SameBut it s.heap h'->R (.ok (.ret (Value.int x s.toks))) { s with heap:=h',toks:=s.toks + 1 }) :=
 .of_wp fun prog w A R s h=>by
  obtain ⟨hp,g,d,tk,os⟩:=s
  obtain ⟨hl,h⟩:=h
  unfold Builtin.«longrange_iterator.__next__»
  dsimp only
  wp_walk
  exact ⟨_,rfl,h _ (Heap.get?_update_self _ (Heap.get?_update_self _ hl rfl) rfl) ((Heap.SameBut.update ..).trans (Heap.SameBut.update ..))⟩
section
variable {prog:Program} {w:World} {A:Around} {E:Value->Shared->Prop} {s:Shared}
theorem zeI {r:Addr} {a b c:Int} {t u v:Tok} {Q:Value->Shared->Prop} (hr:IsRange s.heap r a b c t u v) (hsmall:Builtin.Range.small a b c = false)
  (hQ:Q (.ref s.heap.objs.size) { s with heap:=s.heap.push { cls:=.type "longrange_iterator",data:=.fields #[rawInt a,rawInt (Builtin.Range.rangeSize a b c),rawInt c] } }) :
  wpAny (model prog w) A (pyIter (.ref r)) Q E s:=by
 have hT:s.TypeIs (.ref r) "range":=⟨_,hr,rfl⟩
 refine wpAny_pyIter_slot hT F.slot_range_iter (call_meets F.slot_range_iter hT F.entry_range_iter (F.args_range_iter_1 _)
  (AutoRange.range___iter___range_0 r a b c t u v (by unfold Builtin.Range.small at hsmall; simp [hsmall])) ⟨hr,?_⟩)
 unfold Builtin.Range.small at hsmall
 simp only [hsmall,Bool.false_eq_true,if_false]
 exact ⟨"longrange_iterator",_,⟨_,Heap.get?_push_size _ rfl,rfl⟩,slot_lr_next.lookup,hQ⟩
theorem zco {it:Addr} {x left step:Int} {Q:Option Value->Shared->Prop} (hit:zcg s.heap it x left step) (hleft:0 < left)
  (hQ:∀ h',zcg h' it (x + step) (left - 1) step->Heap.SameBut it s.heap h'->Q (some (.int x s.toks)) { s with heap:=h',toks:=s.toks + 1 }) :
  wpAny (model prog w) A (pyNext (.ref it)) Q E s:=by
 have hT:s.TypeIs (.ref it) "longrange_iterator":=⟨_,hit,rfl⟩
 unfold pyNext
 refine wpAny_bind (wpAny_attempt (wpAny_callSpecial?_slot (name:=Str.ofString "__next__") hT slot_lr_next
  (call_meets slot_lr_next hT entry_lr_next (zch _) (zhT it x left step (by omega)) ⟨hit,fun h' h1 h2=>?_⟩)))
 exact wpAny_pure (hQ h' h1 h2)
theorem zcP {it:Addr} {x left step:Int} {Q:Option Value->Shared->Prop} (hh:A.handled = none) (hit:zcg s.heap it x left step) (hleft:left ≤ 0)
  (hQ:∀ h',Heap.ExtBut it s.heap h'->Q none { s with heap:=h' }):wpAny (model prog w) A (pyNext (.ref it)) Q E s:=by
 have hT:s.TypeIs (.ref it) "longrange_iterator":=⟨_,hit,rfl⟩
 unfold pyNext
 refine wpAny_bind (wpAny_attempt (wpAny_callSpecial?_slot (name:=Str.ofString "__next__") hT slot_lr_next
  (wpAny_call_entry slot_lr_next hT entry_lr_next ?_ (zch _))))
 unfold Builtin.«longrange_iterator.__next__»
 dsimp only
 wp_walk
 simp only [raiseNew]
 refine wpAny_bind (wpAny_handled ?_)
 rw [show A.in1.handled = none from hh]
 refine wpAny_bind (wpAny_pure (wpAny_throw ?_))
 refine wpAny_bind (wpAny_isInstance (T:="StopIteration") (b:=true) ⟨_,Heap.get?_push_size _ rfl,rfl⟩ isSubtype_stop ?_)
 exact wpAny_pure (hQ _ (((Heap.ExtBut.refl it s.heap).push _).push _))
theorem zcy {it:Addr} {x left step:Int} {Q:Value->Shared->Prop} (hit:zcg s.heap it x left step) (h:Q (.ref it) s):wpAny (model prog w) A (pyIter (.ref it)) Q E s:=by
 have hT:s.TypeIs (.ref it) "longrange_iterator":=⟨_,hit,rfl⟩
 refine wpAny_pyIter_slot hT slot_lr_iter (wpAny_call_entry slot_lr_iter hT entry_lr_iter ?_ (zdQ _))
 show wpAny _ _ (ret (.ref it)) _ _ s
 exact wpAny_pure ⟨_,rfl,"longrange_iterator",_,hT,slot_lr_next.lookup,h⟩
end
theorem zgG {P:Program} {w:World} {K:PySem.W.Frag} {tg:Expr} (it:Addr) (lo:Int) (n:Nat):Turn P w K tg (Itr lo n) [it] it (fun i h=>zcg h it (lo + (i:Nat)) ((n:Int) - (i:Nat)) 1) where
 mem:=by simp
 obj:=fun i h st b hb=>by
  have e:b = it:=by simpa using hb
  subst e
  exact ⟨_,st,fun v z=>by
   have z':Data.fields _ = Data.cell v:=z
   cases z'⟩
 keep:=fun i h h' st k=>k it (by simp) _ st
 item:=by
  intro X hP hw hK hc i pins s σ H E I hf st hg
  subst hP hw hK
  obtain ⟨f0,f1,f2,f3,f4,f5⟩:=hf it (by simp)
  have hlt:i < n:=hg
  refine zco st (by omega) fun h' st' sb=>?_
  have e1:lo + (i:Int) + 1 = lo + ((i + 1:Nat):Int):=by omega
  have e2:(n:Int) - (i:Int) - 1 = (n:Int) - ((i + 1:Nat):Int):=by omega
  rw [e1,e2] at st'
  have I1:Inv X pins σ H { s with heap:=h',toks:=s.toks + 1 }:=I.turned (fun b o hb e=>(sb.2 b hb).trans e) f0 f1 f3 f4 f5
  exact ⟨_,rfl,zhk (s:={ s with heap:=h',toks:=s.toks + 1 }) (n:="longrange_iterator") st' rfl rfl (by decide) ⟨.int (lo + i),H,I1,⟨_,rfl⟩,⟨rfl,rfl⟩,st',fun b hb=>(hf b hb).1⟩⟩
 done:=by
  intro X hP hw hK hc i pins s σ H E I hf st hg
  subst hP hw hK
  obtain ⟨f0,f1,f2,f3,f4,f5⟩:=hf it (by simp)
  exact zcP (I.ok.hd hc) st (by have:n ≤ i:=hg; omega) fun h' eb=>⟨rfl,I.turned (t':=s.toks) (fun b o hb e=>eb b o hb e) f0 f1 f3 f4 f5⟩
 self:=fun _ _ _ _ _ st h=>zcy st h
section
variable {X:Cx} {tg:Expr}
theorem zgO {pins:List (Addr × Obj)} {σ:St} {H:Hp} {s:Shared} {R:It->Hp->Prop} {E:Value->Shared->Prop} {lo hi:Int} {t u v:Tok} {tk:Nat} (I:Inv X pins σ H s)
  (q:R (Itr lo (hi - lo).toNat) H):wpAny (model X.prog X.w) X.A (pyIter (.ref s.heap.objs.size)) (PIE X pins σ tg R) E { s with heap:=s.heap.push { cls:=.type "range",data:=.fields #[.int lo t,.int hi u,.int 1 v] },toks:=tk }:=by
 have e2:(((hi - lo).toNat:Nat):Int) = Builtin.Range.rangeSize lo hi 1:=by rw [rangeSize_one]; split <;> omega
 have I1:Inv X pins σ H { s with heap:=s.heap.push { cls:=.type "range",data:=.fields #[.int lo t,.int hi u,.int 1 v] },toks:=tk }:=I.kept fun b o e=>Heap.get?_push_of_some _ e
 cases hsm:Builtin.Range.small lo hi 1 with
 | true =>
  refine wpAny_pyIter_range (IsRange.new ..) hsm ?_
  refine ⟨(s.heap.push { cls:=.type "range",data:=.fields #[.int lo t,.int hi u,.int 1 v] }).objs.size,[(s.heap.push { cls:=.type "range",data:=.fields #[.int lo t,.int hi u,.int 1 v] }).objs.size],_,_,H,rfl,
   I1.kept (t':=tk) fun b o e=>Heap.get?_push_of_some _ e,zc7 _ lo (hi - lo).toNat,?_,fun b hb=>?_,q⟩
  ·have e1:lo + ((0:Nat):Int) * 1 = lo:=by simp
   show IsRangeIter _ _ (lo + ((0:Nat):Int) * 1) ((((hi - lo).toNat:Nat):Int) - ((0:Nat):Int)) 1
   rw [e1,e2,show Builtin.Range.rangeSize lo hi 1 - ((0:Nat):Int) = Builtin.Range.rangeSize lo hi 1 by simp]
   exact Heap.get?_push_size _ rfl
  ·have e:b = (s.heap.push { cls:=.type "range",data:=.fields #[.int lo t,.int hi u,.int 1 v] }).objs.size:=by simpa using hb
   subst e
   exact I1.fpOk (Nat.le_refl _) (I1.hok.fresh (Nat.le_refl _))
 | false =>
  refine zeI (IsRange.new ..) hsm ?_
  refine ⟨(s.heap.push { cls:=.type "range",data:=.fields #[.int lo t,.int hi u,.int 1 v] }).objs.size,[(s.heap.push { cls:=.type "range",data:=.fields #[.int lo t,.int hi u,.int 1 v] }).objs.size],_,_,H,rfl,
   I1.kept (t':=tk) fun b o e=>Heap.get?_push_of_some _ e,zgG _ lo (hi - lo).toNat,?_,fun b hb=>?_,q⟩
  ·have e1:lo + ((0:Nat):Int) = lo:=by simp
   show zcg _ _ (lo + ((0:Nat):Int)) ((((hi - lo).toNat:Nat):Int) - ((0:Nat):Int)) 1
   rw [e1,e2,show Builtin.Range.rangeSize lo hi 1 - ((0:Nat):Int) = Builtin.Range.rangeSize lo hi 1 by simp]
   exact Heap.get?_push_size _ rfl
  ·have e:b = (s.heap.push { cls:=.type "range",data:=.fields #[.int lo t,.int hi u,.int 1 v] }).objs.size:=by simpa using hb
   subst e
   exact I1.fpOk (Nat.le_refl _) (I1.hok.fresh (Nat.le_refl _))
noncomputable def zh5 (ta:TA):TI:=fun σ H R=>ta σ H fun vs H1=>∃ i j:Int,vs = [.int i,.int j]∧R (Itr i (j - i).toNat) H1
theorem zdZ {a b:Expr} {ta:TA} {p pos:Pos} (hg:Gl X "range") (hm:X.mg "range" = none) (ha:PA X [a,b] ta) (hs:starEach [a,b] X.env = [(false,eval a X.env),(false,eval b X.env)]:=by rfl) (hs2:starEach [b] X.env = [(false,eval b X.env)]:=by rfl) :
  PI X tg (.Call (.Name "range" p) [a,b] [] pos) (zh5 ta):=by
 intro pins s σ H R I h
 refine Call_ (zbs I hg hm boot_range (PyProof.Rows.callWith_type1 (thn (ha pos pins s σ H _ I h) fun us s1 zq_=>?_) (by rw [hs,hs2]) (by rw [hs2]; rfl)))
 obtain ⟨vs,H1,I1,r1,q1⟩:=zq_
 obtain ⟨i,j,e,q⟩:=q1
 subst e
 cases r1 with
 | cons r rr =>
  cases rr with
  | cons r' rr =>
   cases rr
   obtain ⟨t,rfl⟩:=r
   obtain ⟨t',rfl⟩:=r'
   exact call_range_2 (zgO I1 q)
end
end L2
set_option Elab.async false
set_option linter.all false
set_option maxRecDepth 100000
namespace L2
open PySem PySem.Spec PyProof.Rows
section
variable {X:Cx} {tg:Expr}
end
section
variable {prog:Program} {w:World} {A:Around} {E:Value->Shared->Prop} {s:Shared} {T:String} {r d:Addr} {n:Nat} {P:Nat->Value->Prop} {OK:Heap->Prop} {Q:Value->Shared->Prop}
end
section
variable {X:Cx}
end
end L2
set_option Elab.async false
set_option linter.all false
set_option maxRecDepth 100000
namespace L2
open PySem PySem.Spec PyProof.Rows
abbrev bmVE:List Value:=[.type "ValueError",.type "Exception",.type "BaseException",.type "object"]
noncomputable def XCls (K:PySem.W.Frag) (C:Addr):Prop:=PySem.W.excIn K C bmVE "ValueError.__new__" = true
theorem XCls.obj {K:PySem.W.Frag} {h:Heap} {C:Addr} (X:K.In h) (q:XCls K C):∃ bm N nm qn bs hdct sn sub ab col dd k0 k1 k2 k3 k5 mN,
  h.get? C = some (excClassObj nm qn C N bs bm hdct sn sub ab col dd k0 k1 k2 k3 k5 "ValueError.__new__")∧h.Ns N mN∧mN "__init__" = none∧OwnTail h bmVE bm:=by
 have q:PySem.W.excIn K C bmVE "ValueError.__new__" = true:=q
 unfold PySem.W.excIn at q
 split at q
 ·rename_i dct cdt sls found
  split at q
  ·rename_i own tailv s0 s1 s2 s3 ident s5 hmro hslots
   simp only [Bool.and_eq_true,beq_iff_eq,Bool.not_eq_true'] at q
   obtain ⟨⟨⟨⟨⟨e1,e2⟩,e3⟩,e4⟩,e5⟩,e6⟩:=q
   subst e1
   subst e2
   obtain ⟨c1,c2,c3,c4,c5,c6,c7,c8,c9,c10,c11⟩:=cdt
   dsimp only at hmro e3 e5 e6
   subst hmro
   subst e3
   have sl6:sls = #[s0,s1,s2,s3,some (.builtin "ValueError.__new__"),s5]:=by
    cases sls with
    | mk l=>simp only at hslots; rw [hslots]
   subst sl6
   exact ⟨tailv,c4,c1,c5,c2,c6,c7,c8,c9,c10,dct,s0,s1,s2,s3,s5,_,X _ _ found,.of_isNs (PySem.W.isNs_of_in X e5),PySem.W.nsMap_none_of_in X e5 e6,PySem.W.tail_of_in X e4⟩
  ·cases q
 ·cases q
theorem HOk.obj {P:Program} {w:World} {H:Hp} {h:Heap} {a:Addr} {u:HO} (x:HOk P w H h) (q:H a = some u):∃ ob,h.get? a = some ob:=by
 have x:=x a u q
 cases u with
 | lst xs=>obtain ⟨_,_,_,_,e⟩:=x; exact ⟨_,e⟩
 | tup xs=>obtain ⟨_,_,_,p⟩:=x; obtain ⟨_,e,_⟩:=p; exact ⟨_,e⟩
 | dK kvs=>obtain ⟨_,_,_,_,o,_,_,e,_⟩:=x; exact ⟨_,e⟩
 | dT kvs=>obtain ⟨_,_,_,_,o,_,_,e,_⟩:=x; exact ⟨_,e⟩
 | set S n=>obtain ⟨o,_,_,_,e,_⟩:=x; exact ⟨_,e⟩
 | ins C dx fs=>obtain ⟨_,_,_,e,_⟩:=x; exact ⟨_,e⟩
 | own y=>exact x
 | xd fs=>obtain ⟨_,⟨_,_,_,e,_⟩,_⟩:=x; exact ⟨_,e⟩
 | rng lo hi=>obtain ⟨_,_,_,e⟩:=x; exact ⟨_,e⟩
 | frz ob u=>obtain ⟨e,_⟩:=x; exact ⟨_,e⟩
 | tbl ps=>exact ⟨_,(show h.get? a = some _ from x)⟩
 | met f y=>exact ⟨_,(show h.get? a = some _ from x)⟩
 | ext φ=>obtain ⟨_,e,_⟩:=x; exact e
theorem Un.slide {fs:List Addr} {H H':Hp} {h0 h1 h2:Heap} (u:Un fs [] H H' h0 h1) (k:∀ b o,(∃ o',h0.get? b = some o')->h1.get? b = some o->b ∉ fs->h2.get? b = some o)
  (sl:∀ b o,h1.get? b = some o->b ∈ fs->∃ s,h2.get? b = some { o with slots:=s }):Un fs [] H H' h0 h2 where
 keep:=fun b o q n hb hx=>k b o ⟨o,q⟩ (u.keep b o q n hb hx) hb
 slot:=fun b o q n hb hx=>by
  obtain ⟨s1,e1⟩:=u.slot b o q n hb hx
  obtain ⟨s2,e2⟩:=sl b _ e1 hb
  exact ⟨s2,e2⟩
 free:=u.free
 there:=fun b o q hx=>by
  obtain ⟨o1,e1⟩:=u.there b o q hx
  by_cases hb:b ∈ fs
  ·obtain ⟨s2,e2⟩:=sl b _ e1 hb
   exact ⟨_,e2⟩
  ·exact ⟨o1,k b o1 ⟨o,q⟩ e1 hb⟩
 tups:=u.tups
 frzs:=u.frzs
 tbls:=u.tbls
noncomputable def CX1 (P:Program) (w:World):CXT:=fun outer H s E e s'=>∃ (ea t C:Addr) (B:Heap) (H':Hp),e = .ref ea∧s'.os = s.os∧AllBare s'.gens∧Un (frs outer) [] H H' s.heap s'.heap∧HOk P w H' s'.heap ∧
 Heap.FlyingW B outer ea (.ref C) (.ref t) s'.heap∧(∀ b o,s'.heap.get? b = some o->b ∉ frs outer->((∃ u,H' b = some u) ∨ ∃ o',s.heap.get? b = some o')->B.get? b = some o)∧E (.ref C) none H'
theorem zao {X:Cx} {P:Program} {w:World}:zda (CX1 P w) X E0:=fun _ _ _ _ _ _ _ h=>by
 obtain ⟨_,_,_,_,_,_,_,_,_,_,_,_,z⟩:=h
 exact z.elim
section
variable {X:Cx} {pins:List (Addr × Obj)} {σ:St} {H H':Hp} {s s':Shared}
theorem Inv.frameData (I:Inv X pins σ H s) {b:Addr} (hb:b ∈ frs X.stack):∃ o,s.heap.get? b = some o∧∀ vs,o.data ≠ .fields vs:=(I.stack.mem hb).2
end
noncomputable def zjs (X:Cx) (E:XK):Prop:=∀ (pins:List (Addr × Obj)) (σ:St) (H:Hp) (s:Shared) (e C:Addr) (h':Heap) (vs:List Value),Inv X pins σ H s->Heap.MadeExcOf s.heap h' e (.ref C) vs->E (.ref C) none H->X.xe (.ref e) { s with heap:=h' }
section
variable {P:Program} {w:World} {K:PySem.W.Frag} {mg:Str->Option Value} {base:Heap} {N:List Str} {qual:Str} {scope:Scope} {f:Addr} {cd:Value} {A:Around} {outer:List Env} {s₀:Shared} {H₀:Hp} {E:XK}
theorem zh1 {pins:List (Addr × Obj)} {σ:St} {H:Hp} {s:Shared} {ea t C:Addr} {B h':Heap} (I:Inv (cxOf (CX1 P w) P w K mg base N qual scope f cd A outer s₀ H₀ E) pins σ H s)
  (hB:∀ b o,s.heap.get? b = some o->b ∉ frs (envOfC qual scope s₀.heap.objs.size f cd :: outer)->((∃ u,H b = some u) ∨ ∃ o',s₀.heap.get? b = some o')->B.get? b = some o)
  (fl:Heap.FlyingW B outer ea (.ref C) (.ref t) h') (up:s.heap.UpToSlots h') {s1:Shared} (ho:s1.os = s.os) (hg:s1.gens = s.gens) (hE:E (.ref C) none H) :
  CX1 P w outer H₀ s₀ E (.ref ea) { s1 with heap:=h' }:=by
 have nL:∀ b o,s₀.heap.get? b = some o->b ∉ frs outer->b ∉ frs (envOfC qual scope s₀.heap.objs.size f cd :: outer):=fun b o e hb z=>by
  rcases List.mem_cons.mp (I.stkSub b z) with q | q
  ·exact absurd (Heap.lt_size e) (by rw [q]; exact Nat.lt_irrefl _)
  ·exact hb q
 have hst:B.StaysIn h':=fl.1
 have nf:∀ c v,H c = some v->c ∉ frs (envOfC qual scope s₀.heap.objs.size f cd :: outer):=fun c v q z=>by
  have:=I.stkFree c z
  rw [this] at q; cases q
 have kk:∀ c o,(∃ v,H c = some v)->s.heap.get? c = some o->h'.get? c = some o:=fun c o ⟨v,q⟩ g=>hst c o (hB c o g (nf c v q) (.inl ⟨v,q⟩))
 have ub:Un (frs outer) [] H₀ H s₀.heap s.heap:=I.base
 refine ⟨ea,t,C,B,H,rfl,ho.trans I.os,by show AllBare s1.gens; rw [hg]; exact I.bare,ub.slide (fun b o ⟨o',z⟩ g hb=>hst b o (hB b o g (nL b o' z hb) (.inr ⟨o',z⟩))) (fun b o g hb=>?_),fun a u e=>?_,fl,fun b o g hb z=>?_,hE⟩
 ·have hb':b ∈ frs (envOfC qual scope s₀.heap.objs.size f cd :: outer):=by
   unfold frs
   rw [List.filterMap_cons]
   exact List.mem_cons_of_mem _ hb
  obtain ⟨o1,e1,d1⟩:=I.frameData hb'
  rw [e1] at g
  cases g
  exact up b o e1 d1
 ·refine (I.hok a u e).stay (fun c v hc g=>kk c v ?_ g) (fun _ q=>q) fun _ _ q=>q
  rcases hc with rfl | hc
  ·exact ⟨_,e⟩
  ·exact ⟨_,hc⟩
 ·rcases z with ⟨v,q⟩ | ⟨o',q⟩
  ·obtain ⟨o1,e1⟩:=HOk.obj I.hok q
   have b1:=hB b o1 e1 (nf b v q) (.inl ⟨v,q⟩)
   have:=hst b o1 b1
   rw [show h'.get? b = some o from g] at this
   cases this
   exact b1
  ·obtain ⟨o1,e1⟩:=ub.there b o' q (by simp)
   have b1:=hB b o1 e1 (nL b o' q hb) (.inr ⟨o',q⟩)
   have:=hst b o1 b1
   rw [show h'.get? b = some o from g] at this
   cases this
   exact b1
theorem flies_cx:zjs (cxOf (CX1 P w) P w K mg base N qual scope f cd A outer s₀ H₀ E) E:=by
 intro pins σ H s e C h' vs I hx hE
 have hin:∀ env ∈ (envOfC qual scope s₀.heap.objs.size f cd :: outer),∀ b,env.frame = some b->b ∈ frs (envOfC qual scope s₀.heap.objs.size f cd :: outer):=fun env he b hb=>List.mem_filterMap.mpr ⟨env,he,hb⟩
 show wpAny (model P w) (A.deeper (envOfC qual scope s₀.heap.objs.size f cd)) (leaving (envOfC qual scope s₀.heap.objs.size f cd) (.ref e)) (fun _ s''=>CX1 P w outer H₀ s₀ E (.ref e) s'') (fun e' s''=>CX1 P w outer H₀ s₀ E e' s'') { s with heap:=h' }
 refine wpAny_leaves_madeW (base:=PySem.W.hideAll s.heap (frs (envOfC qual scope s₀.heap.objs.size f cd :: outer))) I.ok.frames rfl (fun b o q=>PySem.W.of_hideAll _ q) (PySem.W.funFrames_hide I.stack hin) hx fun h2 t x1 x2 x3 x4=>?_
 exact zh1 I (fun b o g hb _=>PySem.W.hideAll_get _ g hb) x1 (fun b o g d=>x4 b o (hx.keeps b o g) d) rfl rfl hE
end
section
variable {X:Cx}
noncomputable def zfO (C:Addr) (E:XK) (t:TA):TS:=fun _ σ H=>t σ H fun vs H1=>vs.length ≤ sizeLine∧E (.ref C) none H1
theorem zdj {x:Str} {np cpos pos:Pos} {e0:Expr} {rest:List Expr} {C:Addr} {t:TA} {E:XK} (hc:X.calm = true) (q:XCls X.K C) (hg:Gl X x) (hm:X.mg x = some (.ref C)) (hf:zjs X E) (ha:PA X (e0 :: rest) t)
  (hdb:(x == ("__debug__":Str)) = false:=by decide) (he:starEach (e0 :: rest) X.env = (false,eval e0 X.env) :: starEach rest X.env:=by rfl) (hpl:(backTo cpos (starEach rest X.env)).any (·.1) = false:=by rfl) :
  PS X (.Raise (some (.Call (.Name x np) (e0 :: rest) [] cpos)) none pos) (zfO C E t):=by
 intro pins s σ H D I h
 obtain ⟨bm,Nn,nm,qn,bs,hdct,sn,sub,ab,col,dd,k0,k1,k2,k3,k5,mN,hC,hN,hni,T⟩:=XCls.obj I.ok.mod.kin q
 refine wpAny_Raise_call_subU (C:=C) (nm:=nm) (q:=qn) (N:=Nn) (bs:=bs) (bm:=bm) (hdct:=hdct) (sn:=sn) (sub:=sub) (ab:=ab) (col:=col) (dd:=dd) (k0:=k0) (k1:=k1) (k2:=k2) (k3:=k3) (k5:=k5)
  PySem.F.excBase_ValueError (by decide) PySem.F.excBase_ValueError (mN:=mN) (T.hasType PySem.F.excBase_ValueError.hasBase) (I.ok.hd hc) ?_ hni (zeN I hg hm ⟨rfl,?_⟩ hdb)
 ·rw [he]
  show (false || (backTo cpos (starEach rest X.env)).any (·.1)) = false
  rw [hpl]; rfl
 ·have h1:=ha cpos pins s σ H _ I h
  rw [he] at h1 ⊢
  exact Calls.evalArgs_plain (thn h1 fun us s1 ⟨vs,H1,I1,r,z,hE⟩=>⟨rfl,by rw [← r.length]; exact z,I1.bk _ _ hC,hN.keeps I1.bk,T.keeps I1.bk,fun h' e hx=>hf pins σ H1 s1 e C h' us I1 hx hE⟩)
end
noncomputable def EX (C:Addr) (R:St->Hp->Prop):St->XK:=fun σ cls _ H'=>cls = .ref C∧R σ H'
section
variable {X:Cx} {pins:List (Addr × Obj)} {σ:St} {H:Hp} {s:Shared}
end
section
variable {X:Cx} {k:Nat} {f C:Addr} {fd:FuncData} {ps:List Str} {sp:Sp} {dvs:List V} {ds:List Value} {E:St->XK} {x m:Str} {p pos apos:Pos} {e o:Expr} {es:List Expr} {ta:TE} {t:TA}
noncomputable def zhF (C:Addr) (m:Str) (sp:Sp) (dvs:List V) (E:St->XK) (ta:TE) (t:TA):TE:=fun σ H Q=>ta σ H fun x H1=>∃ a dx fs,x = .ref a∧H1 a = some (.ins C dx fs)∧fs.lookup m = none ∧
 t σ H1 fun vs H2=>sp (x :: (vs ++ dvs)) H2 Q (E σ)
end
section
variable {X:Cx}
end
section
variable {P:Program} {w:World} {K:PySem.W.Frag} {mg:Str->Option Value} {base:Heap}
theorem Fun.okX {x qual:Str} {st:Stmt} {f:Addr} {fd:FuncData} {N ps:List Str} {k:Nat} {sp:Sp} (F:Fun K x qual st f fd) (S:FnScope N ps (zak st)) (len:∀ vs H Q E,sp vs H Q E->vs.length = ps.length)
  (hbody:∀ (cdv:Value) (A:Around) (outer:List Env) (s:Shared) (H:Hp) (vs:List V) (Q:VK) (E:XK),Room k (A.deeper (envOfC qual (zak st) s.heap.objs.size f cdv))->sp vs H Q E ->
   ∃ t,PSs (cxOf (CX1 P w) P w K mg base N qual (zak st) f cdv A outer s H E) (zca st) t∧t { nx:=fun _ H'=>Q .non H',rt:=Q } (start N vs) H):FnOk P w K mg base (CX1 P w) (k + 1) f fd ps sp:=by
 obtain ⟨oc,od,kV,doc,pm,an,cdv,ct,osl,rfl,lk,hcd⟩:=F.ex
 exact zi0 lk hcd S len fun A outer s H vs Q E hr hsp=>hbody cdv A outer s H vs Q E hr hsp
theorem Fun.okC {CX:CXT} {x qual:Str} {st:Stmt} {f:Addr} {fd:FuncData} {N ps:List Str} {k:Nat} {sp:Sp} (F:Fun K x qual st f fd) (S:FnScope N ps (zak st)) (len:∀ vs H Q E,sp vs H Q E->vs.length = ps.length)
  (hbody:∀ (cdv:Value) (A:Around) (outer:List Env) (s:Shared) (H:Hp) (vs:List V) (Q:VK) (E:XK),Room k (A.deeper (envOfC qual (zak st) s.heap.objs.size f cdv))->sp vs H Q E ->
   ∃ t,PSs (cxOf CX P w K mg base N qual (zak st) f cdv A outer s H E).nox (zca st) t∧t { nx:=fun _ H'=>Q .non H',rt:=Q } (start N vs) H):FnOk P w K mg base CX (k + 1) f fd ps sp:=by
 obtain ⟨oc,od,kV,doc,pm,an,cdv,ct,osl,rfl,lk,hcd⟩:=F.ex
 refine zi0 lk hcd S len fun A outer s H vs Q E hr hsp=>?_
 obtain ⟨t,h,q⟩:=hbody cdv A outer s H vs Q E hr hsp
 exact ⟨t,h.nox,q⟩
end
end L2
set_option Elab.async false
set_option linter.all false
set_option maxRecDepth 100000
namespace L2
open PySem PySem.Spec PyProof.Rows
section
variable {X:Cx}
noncomputable def zih (te:TE):TE:=fun σ H Q=>te σ H fun x H1=>∃ i,x = .int i∧i.natAbs.log2 < 1920∧∀ z,Q (.str z) H1
theorem zen {a:Str} {j:Nat} {p1 p2 pos:Pos} {e:Expr} {te:TE} (ha:a.length ≤ 1000) (he:PE X e te):PE X (.JoinedStr [.Constant (.str a) j p1,.FormattedValue e (-1) none p2] pos) (zih te):=by
 intro pins s σ H Q I h
 refine JoinedStr_many (joinParts_cons (Calls.Constant_str ⟨?_,joinParts_cons (FormattedValue_plain ?_)⟩))
 ·rw [strLen_append,sizeLine_eq]
  show Str.empty.length + a.length ≤ _
  have:Str.empty.length = 0:=rfl
  omega
 ·refine thn (he pins _ σ H _ (I.tok _) h) fun v s1 ⟨x,H1,I1,r1,i,e1,hl,q⟩=>?_
  subst e1
  obtain ⟨t,rfl⟩:=r1
  refine formatField_int_small hl ?_
  have h2:=int_text_len_1921 hl
  have h0:Str.empty.length = 0:=rfl
  refine ⟨?_,joinParts_nil ⟨.str _,H1,(I1.tok _).tok _,⟨_,rfl⟩,q _⟩ ?_⟩
  ·rw [strLen_append,strLen_append,sizeLine_eq]
   show _ + (Str.ofString (toString i)).length ≤ _
   omega
  ·rw [strLen_append,strLen_append,sizeLine_eq]
   show _ + (Str.ofString (toString i)).length ≤ _
   omega
end
theorem Inv.turnedL {X:Cx} {pins:List (Addr × Obj)} {σ:St} {H:Hp} {s:Shared} {h':Heap} {t':Nat} {ch:List Addr} (I:Inv X pins σ H s) (k:∀ b o,b ∉ ch->s.heap.get? b = some o->h'.get? b = some o) (hf:∀ b ∈ ch,FpOk X pins H b) :
  Inv X pins σ H { s with heap:=h',toks:=t' }:=by
 have nit:∀ b u,H b = some u->b ∉ ch:=fun b u e z=>by rw [(hf b z).1] at e; cases e
 have hL:X.env.locals ∉ ch:=fun z=>(hf _ z).2.1 rfl
 refine I.step (g':=s.gens) (d':=s.drawn) (ch:=ch) (fun b hb=>⟨(hf b hb).2.2.2.1,(hf b hb).2.1,(hf b hb).2.2.2.2.1,(hf b hb).2.2.2.2.2⟩) (fun b o _ _ hc e _=>k b o hc e) (fun b o _ _ hc e _=>⟨o.slots,k b o hc e⟩) (fun _ _ _ _ n=>n)
  (fun b o hc e=>⟨o,k b o hc e⟩) (fun _ _ e=>e) (fun _ _ _ e=>e) (fun b ps e=>⟨#[],by rw [e]; simp⟩) (fun m hm=>?_) (fun b u e=>?_) I.bare
 ·obtain ⟨o,es,ep,ho,r⟩:=hm
  exact ⟨o,es,ep,k _ o hL ho,r⟩
 ·refine (I.hok b u e).stay (fun c v hc q=>k c v ?_ q) (fun _ q=>q) fun _ _ q=>q
  rcases hc with z | z
  ·rw [z]; exact nit b u e
  ·exact nit c _ z
noncomputable def Itz (K:PySem.W.Frag) (l1 l2:Addr):It :=
 ⟨fun i H=>∃ xs ys x y,SqL K H l1 xs∧SqL K H l2 ys∧xs[i]? = some x∧ys[i]? = some y,
  fun i H v H'=>∃ p x y,v = .ref p∧H p = none∧H' = upd H p (.tup [x,y])∧(∀ xs,SqL K H l1 xs->xs[i]? = some x)∧∀ ys,SqL K H l2 ys->ys[i]? = some y,
  fun i H=>∃ xs ys,SqL K H l1 xs∧SqL K H l2 ys∧(xs.length ≤ i ∨ ys.length ≤ i)⟩
structure ZipSt (z TI TO i1 i2 l1 l2:Addr) (i:Nat) (h:Heap):Prop where
 z:IsZip h z TI TO .none
 ti:IsPair h TI (.ref i1) (.ref i2)
 to:∃ a b,IsPair h TO a b
 h1:h.IsListIter i1 l1 i
 h2:h.IsListIter i2 l2 i
theorem zhv {P:Program} {w:World} {K:PySem.W.Frag} {es:List Expr} {tk:Nat} {tpos:Pos} (z TI TO i1 i2 l1 l2:Addr) (D:ZipApart z TI TO i1 i2 l1 l2):Turn P w K (.Tuple es tk tpos) (Itz K l1 l2) [z,TI,TO,i1,i2] z (ZipSt z TI TO i1 i2 l1 l2) where
 mem:=by simp
 obj:=fun i h st b hb=>by
  simp only [List.mem_cons,List.not_mem_nil,or_false] at hb
  rcases hb with rfl | rfl | rfl | rfl | rfl
  ·exact ⟨_,st.z,fun v e=>by cases (show Data.fields _ = Data.cell v from e)⟩
  ·exact ⟨_,st.ti,fun v e=>by cases (show Data.seq _ _ = Data.cell v from e)⟩
  ·obtain ⟨a,b,e⟩:=st.to
   exact ⟨_,e,fun v e=>by cases (show Data.seq _ _ = Data.cell v from e)⟩
  ·obtain ⟨o,e,_,d⟩:=st.h1
   exact ⟨o,e,fun v z=>by rw [d] at z; cases z⟩
  ·obtain ⟨o,e,_,d⟩:=st.h2
   exact ⟨o,e,fun v z=>by rw [d] at z; cases z⟩
 keep:=fun i h h' st k=>by
  obtain ⟨a,b,e⟩:=st.to
  exact ⟨k z (by simp) _ st.z,k TI (by simp) _ st.ti,⟨a,b,k TO (by simp) _ e⟩,st.h1.at fun o e=>k i1 (by simp) o e,st.h2.at fun o e=>k i2 (by simp) o e⟩
 item:=by
  intro X hP hw hK hc i pins s σ H E I hf st hg
  subst hP hw hK
  obtain ⟨xs,ys,x,y,hq1,hq2,hx,hy⟩:=hg
  obtain ⟨us,r1,p1,z1⟩:=I.list hq1
  obtain ⟨vs,r2,p2,z2⟩:=I.list hq2
  obtain ⟨u,eu,ru⟩:=r1.get hx
  obtain ⟨v,ev,rv⟩:=r2.get hy
  obtain ⟨a,b,eTO⟩:=st.to
  refine wpAny_pyNext_zip_item D st.z st.ti eTO st.h1 st.h2 p1.isList p2.isList (x:=u) (y:=v) (by simpa using eu) (by simpa using ev) fun h' a1 a2 a3 a4 a5 a6 a7=>?_
  refine ⟨_,rfl,wpAny_letOwnedTupleGo_zip a1 fun h2 b1 b2=>?_⟩
  have hlt:∀ c ∈ [z,TI,TO,i1,i2],c < s.heap.objs.size:=fun c hc=>by
   simp only [List.mem_cons,List.not_mem_nil,or_false] at hc
   rcases hc with rfl | rfl | rfl | rfl | rfl
   ·exact Heap.lt_size st.z
   ·exact Heap.lt_size st.ti
   ·exact Heap.lt_size eTO
   ·obtain ⟨o,e,_⟩:=st.h1; exact Heap.lt_size e
   ·obtain ⟨o,e,_⟩:=st.h2; exact Heap.lt_size e
  have kk:∀ b o,b ∉ [z,TI,TO,i1,i2]->s.heap.get? b = some o->h2.get? b = some o:=fun b o hb e=>by
   simp only [List.mem_cons,List.not_mem_nil,or_false,not_or] at hb
   obtain ⟨c1,c2,c3,c4,c5⟩:=hb
   exact b2.extBut b o c1 (a7 b o c1 c3 c4 c5 e)
  have np:s.heap.objs.size ≠ z:=Nat.ne_of_gt (hlt z (by simp))
  have gp:IsPair h2 s.heap.objs.size u v:=b2.extBut _ _ np a5
  have I1:Inv X pins σ H { s with heap:=h2 }:=I.turnedL (t':=s.toks) kk hf
  have hn:H s.heap.objs.size = none:=I.hok.fresh (Nat.le_refl _)
  have nit:∀ b u,H b = some u->b ∉ [z,TI,TO,i1,i2]:=fun b u e w=>by rw [(hf b w).1] at e; cases e
  have hL:X.env.locals ∉ [z,TI,TO,i1,i2]:=fun w=>(hf _ w).2.1 rfl
  have I2:Inv X pins σ (upd H s.heap.objs.size (.tup [x,y])) { s with heap:=h2 }:=by
   refine I.step (g':=s.gens) (d':=s.drawn) (t':=s.toks) (ch:=[z,TI,TO,i1,i2]) (fun b hb=>⟨(hf b hb).2.2.2.1,(hf b hb).2.1,(hf b hb).2.2.2.2.1,(hf b hb).2.2.2.2.2⟩) (fun b o _ _ hc e _=>kk b o hc e) (fun b o _ _ hc e _=>⟨o.slots,kk b o hc e⟩)
    (fun b o _ e n=>by rw [zag (Nat.ne_of_lt (Heap.lt_size e))]; exact n) (fun b o hc e=>⟨o,kk b o hc e⟩) (fun _ _ e=>zan e hn) (fun _ _ _ e=>zan e hn) (fun b ps e=>⟨#[],by rw [zan e hn]; simp⟩) (fun m hm=>?_) (fun b w e=>?_) I.bare
   ·obtain ⟨o,es,ep,ho,r⟩:=hm
    exact ⟨o,es,ep,kk _ o hL ho,r⟩
   ·by_cases hb:b = s.heap.objs.size
    ·subst hb
     rw [zad] at e
     cases e
     exact ⟨by rw [sizeLine_eq]; show 2 ≤ 16777216; decide,[u,v],.cons ru (.cons rv .nil),⟨_,gp,rfl,_,rfl⟩⟩
    ·rw [zag hb] at e
     refine (I.hok b w e).stay (fun c v hc q=>kk c v ?_ q) (fun _ q=>zan q hn) fun _ _ q=>zan q hn
     rcases hc with t | t
     ·rw [t]; exact nit b w e
     ·exact nit c _ t
  refine ⟨.ref s.heap.objs.size,_,I2,rfl,⟨_,x,y,rfl,hn,rfl,fun zs hz=>by rw [I.list_inj hz hq1]; exact hx,fun zs hz=>by rw [I.list_inj hz hq2]; exact hy⟩,⟨b1,b2.extBut _ _ D.TIz (a7 _ _ D.TIz D.TITO D.TIi1 D.TIi2 st.ti),⟨u,v,b2.extBut _ _ D.TOz a2⟩,a3.extBut b2.extBut D.i1z,a4.extBut b2.extBut D.i2z⟩,fun b hb=>?_⟩
  rw [zag (Nat.ne_of_lt (hlt b hb))]
  exact (hf b hb).1
 done:=by
  intro X hP hw hK hc i pins s σ H E I hf st hg
  subst hP hw hK
  obtain ⟨xs,ys,hq1,hq2,hor⟩:=hg
  obtain ⟨us,r1,p1,z1⟩:=I.list hq1
  obtain ⟨vs,r2,p2,z2⟩:=I.list hq2
  obtain ⟨a,b,eTO⟩:=st.to
  have l1':=r1.length
  have l2':=r2.length
  refine wpAny_pyNext_zip_end (I.ok.hd hc) D st.z st.ti eTO st.h1 st.h2 p1.isList p2.isList (by
   rcases hor with h | h
   ·exact .inl (by simp; omega)
   ·exact .inr (by simp; omega)) fun h' kk=>⟨rfl,I.turnedL (t':=s.toks) (ch:=[z,TI,TO,i1,i2]) (fun b o hb e=>?_) hf⟩
  simp only [List.mem_cons,List.not_mem_nil,or_false,not_or] at hb
  exact kk b o hb.1 hb.2.2.1 hb.2.2.2.1 hb.2.2.2.2 e
 self:=fun _ _ _ _ _ st h=>wpAny_pyIter_zip st.z h
theorem zap (n a b:Nat) (h1:a < n) (h2:b < n):ZipApart (n + 4) (n + 2) (n + 3) n (n + 1) a b :=
 ⟨by show @Ne Nat _ _; omega,by show @Ne Nat _ _; omega,by show @Ne Nat _ _; omega,by show @Ne Nat _ _; omega,by show @Ne Nat _ _; omega,by show @Ne Nat _ _; omega,by show @Ne Nat _ _; omega,by show @Ne Nat _ _; omega,by show @Ne Nat _ _; omega,by show @Ne Nat _ _; omega,by show @Ne Nat _ _; omega,by show @Ne Nat _ _; omega,by show @Ne Nat _ _; omega,by show @Ne Nat _ _; omega,by show @Ne Nat _ _; omega,by show @Ne Nat _ _; omega,by show @Ne Nat _ _; omega,by show @Ne Nat _ _; omega⟩
theorem zgz (ns:List Int):preSum (fun i=>ns.getD i 0) ns.length = ns.sum:=by
 have key:∀ k,k ≤ ns.length->preSum (fun i=>ns.getD i 0) k = (ns.take k).sum:=by
  intro k
  induction k with
  | zero=>intro _; rfl
  | succ k ih =>
   intro hk
   show preSum _ k + ns.getD k 0 = _
   have hk':k < ns.length:=by omega
   have e:ns.take (k + 1) = ns.take k ++ [ns[k]]:=by rw [List.take_succ,List.getElem?_eq_getElem hk']; rfl
   rw [ih (by omega),e,List.sum_append,List.getD_eq_getElem?_getD,List.getElem?_eq_getElem hk']
   simp
 rw [key _ (Nat.le_refl _),List.take_length]
section
variable {X:Cx}
noncomputable def iZip (K:PySem.W.Frag) (ta:TA):TI:=fun σ H R=>ta σ H fun vs H1=>∃ l1 l2,vs = [.ref l1,.ref l2]∧(∃ xs,SqL K H1 l1 xs)∧(∃ ys,SqL K H1 l2 ys)∧R (Itz K l1 l2) H1
theorem zig {es:List Expr} {tk:Nat} {tpos:Pos} {a b:Expr} {ta:TA} {p pos:Pos} (hg:Gl X "zip") (hm:X.mg "zip" = none) (ha:PA X [a,b] ta) (hs:starEach [a,b] X.env = [(false,eval a X.env),(false,eval b X.env)]:=by rfl) (hs2:starEach [b] X.env = [(false,eval b X.env)]:=by rfl) :
  PI X (.Tuple es tk tpos) (.Call (.Name "zip" p) [a,b] [] pos) (iZip X.K ta):=by
 intro pins s σ H R I h
 refine Call_ (zbs I hg hm boot_zip (PyProof.Rows.callWith_type1 (thn (ha pos pins s σ H _ I h) fun us s1 zq_=>?_) (by rw [hs,hs2]) (by rw [hs2]; rfl)))
 obtain ⟨vs,H1,I1,r1,q1⟩:=zq_
 obtain ⟨l1,l2,e,⟨xs,hq1⟩,⟨ys,hq2⟩,q⟩:=q1
 subst e
 obtain ⟨u1,u2,rfl,ru1,ru2⟩:=Vals.two r1
 cases ru1
 cases ru2
 obtain ⟨us,rv1,p1,z1⟩:=I1.list hq1
 obtain ⟨vs,rv2,p2,z2⟩:=I1.list hq2
 have hlt1:l1 < s1.heap.objs.size:=by obtain ⟨o,e,_⟩:=p1.isList; exact Heap.lt_size e
 have hlt2:l2 < s1.heap.objs.size:=by obtain ⟨o,e,_⟩:=p2.isList; exact Heap.lt_size e
 refine call_zip_2 p1.isList p2.isList fun h' g1 g2 g3 g4 g5 g6 g7=>?_
 refine wpAny_pyIter_zip g1 ?_
 refine ⟨_,[s1.heap.objs.size + 4,s1.heap.objs.size + 2,s1.heap.objs.size + 3,s1.heap.objs.size,s1.heap.objs.size + 1],_,_,H1,rfl,I1.kept (t':=s1.toks) g7,zhv _ _ _ _ _ l1 l2 ?_,⟨g1,g2,⟨_,_,g3⟩,g4,g5⟩,fun b hb=>?_,q⟩
 ·exact zap _ _ _ hlt1 hlt2
 ·have hb2:s1.heap.objs.size ≤ b:=by
   simp only [List.mem_cons,List.not_mem_nil,or_false] at hb
   rcases hb with rfl | rfl | rfl | rfl | rfl <;> first | exact Nat.le_refl _ | exact Nat.le_add_right _ _
  exact I1.fpOk hb2 (I1.hok.fresh hb2)
theorem zg9 (hc:X.calm = true):zbN X (.builtin "sum") (fun xs H Q=>∃ (l:Addr) (ns:List Int),xs = [.ref l]∧seqV H l = some (ns.map V.int)∧zc2 H l = some true∧Q (.int ns.sum) H):=by
 intro pins s σ H xs us Q I r h
 obtain ⟨l,ns,rfl,hl,hk,q⟩:=h
 obtain ⟨u,rfl,ru⟩:=zcZ r
 cases ru
 obtain ⟨its,rv,pl,hz⟩:=I.list (zbK hl hk)
 have hI:=zfv rv
 have hlt:l < s.heap.objs.size:=by obtain ⟨o,e,_⟩:=pl.isList; exact Heap.lt_size e
 refine call_sum_walkAnyS (wpAny_pyIter_list pl.isList ?_)
 have hlen:its.toArray.size = ns.length:=by rw [List.size_toArray,← rv.length,List.length_map]
 refine ⟨s.heap.objs.size,_,_,_,_,_,_,fun i=>ns.getD i 0,rfl,(Walks.list (A:=X.A.in1) (show X.A.in1.handled = none from I.ok.hd hc) s.heap.objs.size l (Nat.ne_of_lt hlt) its.toArray).toS,?_,?_,?_,?_⟩
 ·exact ⟨⟨_,Heap.get?_push_size _ rfl,rfl,rfl⟩,pl.isList.push _⟩
 ·intro b hb
  show b < (s.heap.push _).objs.size
  rw [Heap.size_push]
  rcases List.mem_cons.mp hb with rfl | hb
  ·exact Nat.lt_succ_self _
  ·rw [List.mem_singleton.mp hb]; exact Nat.lt_succ_of_lt hlt
 ·intro i v hv
  exact IntsAre.int_at hI i v (by simpa using hv)
 ·intro s' t' hm
  obtain ⟨h',g',d',k',o'⟩:=s'
  obtain rfl:g' = s.gens:=hm.gens
  obtain rfl:d' = s.drawn:=hm.drawn
  obtain rfl:o' = s.os:=hm.os
  have kk:∀ b o,s.heap.get? b = some o->h'.get? b = some o:=fun b o e=>hm.heap b o (fun z=>absurd (Heap.lt_size e) (by rw [List.mem_singleton.mp z]; exact Nat.lt_irrefl _)) (Heap.get?_push_of_some _ e)
  refine ⟨.int ns.sum,H,I.kept (t':=k') kk,⟨t',?_⟩,q⟩
  rw [hlen,zgz]
end
end L2
set_option Elab.async false
set_option linter.all false
set_option maxRecDepth 100000
namespace L2
open PySem PySem.Spec PyProof.Rows
noncomputable def keyOf:V->Option Key
 | .int i=>some (.inl i)
 | .str z=>some (.inr z)
 | _=>none
theorem zd3 {i:Int}:keyOf (.int i) = some (.inl i):=rfl
theorem zd4 {i:Str}:keyOf (.str i) = some (.inr i):=rfl
theorem zcq {y:V} {k:Key} (h:keyOf y = some k):y = kV k:=by
 cases y <;> first | (cases h; rfl) | (cases h)
noncomputable def zfV (td ty:TE):TE:=fun σ H Q=>td σ H fun x H1=>ty σ H1 fun y H2=>∃ d k kvs v,x = .ref d∧keyOf y = some k∧H2 d = some (.dK kvs)∧valV kvs k = some v∧Q v H2
noncomputable def zif (ty td:TE):TE:=fun σ H Q=>ty σ H fun y H1=>td σ H1 fun x H2=>∃ d k kvs,x = .ref d∧keyOf y = some k∧H2 d = some (.dK kvs)∧Q (.bl (valV kvs k).isSome) H2
noncomputable def zdG (ty td:TE):TE:=fun σ H Q=>ty σ H fun y H1=>td σ H1 fun x H2=>∃ d k kvs,x = .ref d∧keyOf y = some k∧H2 d = some (.dK kvs)∧Q (.bl (!(valV kvs k).isSome)) H2
noncomputable def zfh (td ty tv:TE):TS:=fun D σ H=>tv σ H fun v H1=>td σ H1 fun x H2=>ty σ H2 fun y H3=>∃ d k kvs,x = .ref d∧keyOf y = some k∧H3 d = some (.dK kvs)∧kvs.length < sizeLine∧D.nx σ (upd H3 d (.dK (putK kvs k v)))
section
variable {X:Cx} {o i e value:Expr} {pos pos' tpos:Pos} {td ty tv:TE}
theorem zaJ (hu:X.A.units + 1 < cLine) (ho:PE X o td) (hi:PE X i ty) (hs:NoSl i):PE X (.Subscript o i pos) (zfV td ty):=by
 intro pins s σ H Q I h
 refine zii PySem.F.slot_dict_getitem.lookup hs (thn (ho pins s σ H _ I h) fun u s1 ⟨x,H1,I1,rx,q1⟩=>thn (hi pins s1 σ H1 _ I1 q1) fun iv s2 zq_=>?_)
 obtain ⟨y,H2,I2,ry,d,k,kvs,v,ex,ek,hd,hv,q2⟩:=zq_
 subst ex
 cases zcq ek
 obtain rfl:u = Value.ref d:=rx
 have g:DGet H2 d (kV k) (some v):=by rw [← hv]; exact DGet.k hd
 exact ⟨zeu I2 g,zgo hu I2 g ry fun w' s3 I3 rw'=>⟨v,H2,I3,rw',q2⟩⟩
theorem zgf (hu:X.A.units + 1 < cLine) (hi:PE X i ty) (ho:PE X o td):PC X .In i o (zif ty td):=by
 intro pins s σ H Q I h
 refine thn (hi pins s σ H _ I h) fun iv s1 ⟨y,H1,I1,ry,q1⟩=>thn (ho pins s1 σ H1 _ I1 q1) fun u s2 zq_=>?_
 obtain ⟨x,H2,I2,rx,d,k,kvs,ex,ek,hd,q2⟩:=zq_
 subst ex
 cases zcq ek
 obtain rfl:u = Value.ref d:=rx
 exact d_in hu I2 (DGet.k hd) ry fun s3 I3=>⟨.bl _,H2,I3,rfl,q2⟩
theorem zbh (hu:X.A.units + 1 < cLine) (hi:PE X i ty) (ho:PE X o td):PC X .NotIn i o (zdG ty td):=by
 intro pins s σ H Q I h
 refine thn (hi pins s σ H _ I h) fun iv s1 ⟨y,H1,I1,ry,q1⟩=>thn (ho pins s1 σ H1 _ I1 q1) fun u s2 zq_=>?_
 obtain ⟨x,H2,I2,rx,d,k,kvs,ex,ek,hd,q2⟩:=zq_
 subst ex
 cases zcq ek
 obtain rfl:u = Value.ref d:=rx
 exact zh3 hu I2 (DGet.k hd) ry fun s3 I3=>⟨.bl _,H2,I3,rfl,q2⟩
theorem za4 (hu:X.A.units + 1 < cLine) (ho:PE X o td) (hi:PE X i ty) (hv:PE X value tv) (hs:swapsWith value (some (.Subscript o i pos')) pos.line X.env = pure false) :
  PS X (.Assign [.Subscript o i pos'] value pos) (zfh td ty tv):=by
 intro pins s σ H D I h
 refine wpAny_Assign_Subscript (thn (hv pins s σ H _ I h) fun r s1 ⟨v,H1,I1,rv,q1⟩=>thn (ho pins s1 σ H1 _ I1 q1) fun u s2 ⟨x,H2,I2,rx,q2⟩=>thn (hi pins s2 σ H2 _ I2 q2) fun iv s3 zq_=>?_) hs
 obtain ⟨y,H3,I3,ry,d,k,kvs,ex,ek,hd,hl,q3⟩:=zq_
 subst ex
 cases zcq ek
 obtain rfl:u = Value.ref d:=rx
 exact zf6 hu I3 (DPut.k hd hl) ry rv fun s4 I4=>⟨σ,_,I4,q3⟩
end
theorem zaV {kvs:List (Key × V)} {k k':Key} {v:V}:valV (putK kvs k v) k' = if k' = k then some v else valV kvs k':=by
 first | exact zfi kvs k v k' | (rw [zfi])
end L2
set_option Elab.async false
set_option linter.all false
set_option maxRecDepth 100000
namespace L2
open PySem PySem.Spec PyProof.Rows
theorem zhB {CX:CXT} {P:Program} {w:World} {K:PySem.W.Frag} {mg:Str->Option Value} {base:Heap} {N:List Str} {qual:Str} {scope:Scope} {f:Addr} {cd:Value} {A:Around} {outer:List Env} {s₀:Shared} {H₀:Hp} {E:XK} :
  (cxOf CX P w K mg base N qual scope f cd A outer s₀ H₀ E).K = K:=rfl
theorem zit {X:Cx} {e:Expr} {f:Str} {pos:Pos} {ta:TE} {K:PySem.W.Frag} (hk:X.K = K) (he:PE X e ta) (hb:attributeBase e f X.env (eval e X.env) = eval e X.env):PE X (.Attribute e f pos) (tFld K ta f):=by
 subst hk
 exact za5 he hb
structure Fr (M:Addr->Prop) (H H':Hp):Prop where
 keep:∀ q o,H q = some o->¬ M q->H' q = some o
 tups:∀ q xs,H q = some (.tup xs)->H' q = some (.tup xs)
theorem Fr.refl {M:Addr->Prop} {H:Hp}:Fr M H H:=⟨fun _ _ h _=>h,fun _ _ h=>h⟩
theorem Fr.trans {M:Addr->Prop} {H H1 H2:Hp} (x:Fr M H H1) (y:Fr M H1 H2):Fr M H H2:=⟨fun q o h n=>y.keep q o (x.keep q o h n) n,fun q xs h=>y.tups q xs (x.tups q xs h)⟩
theorem Fr.of_same {M:Addr->Prop} {H H':Hp} (s:Same H H'):Fr M H H':=⟨fun q o h _=>s q o h,fun q xs h=>s q _ h⟩
theorem Fr.laid {M:Addr->Prop} {H:Hp} {p:Addr} {u:HO} (hp:H p = none):Fr M H (upd H p u):=.of_same (.laid hp)
theorem Fr.put {M:Addr->Prop} {H:Hp} {p:Addr} {u:HO} (hm:M p) (ht:∀ xs,H p ≠ some (.tup xs)):Fr M H (upd H p u) :=
 ⟨fun q o h n=>by rw [zag (fun e=>n (by rw [e]; exact hm))]; exact h,fun q xs h=>by rw [zag (fun e=>ht xs (by rw [← e]; exact h))]; exact h⟩
theorem Fr.mono {M M':Addr->Prop} {H H':Hp} (x:Fr M H H') (h:∀ q,M q->M' q):Fr M' H H':=⟨fun q o e n=>x.keep q o e (fun m=>n (h q m)),x.tups⟩
theorem forA {ta:TA} {g:TG} {tb:TS} {D:Ends} {σ:St} {H H1:Hp} (lo hi:Int) (hr:∀ Q,Q [.int lo,.int hi] H1->ta σ H Q) (Pv:Nat->St->Hp->Prop) (h0:Pv 0 σ H1)
  (hs:∀ i σ H,i < (hi - lo).toNat->Pv i σ H->g (.int (lo + i)) σ H fun σ2 H2=>tb { D with nx:=Pv (i + 1),ct:=Pv (i + 1),bk:=D.nx } σ2 H2) (hd:∀ σ H,Pv (hi - lo).toNat σ H->D.nx σ H) :
  tFor (zh5 ta) g tb D σ H:=hr _ ⟨lo,hi,rfl,zdN Pv h0 hs hd⟩
theorem for1 {ta:TA} {g:TG} {tb:TS} {D:Ends} {σ:St} {H H1:Hp} (n:Int) (hr:∀ Q,Q [.int n] H1->ta σ H Q) (n0:-(2 ^ 62) ≤ n) (n1:n < 2 ^ 62) (Pv:Nat->St->Hp->Prop) (h0:Pv 0 σ H1)
  (hs:∀ i σ H,i < n.toNat->Pv i σ H->g (.int (0 + i)) σ H fun σ2 H2=>tb { D with nx:=Pv (i + 1),ct:=Pv (i + 1),bk:=D.nx } σ2 H2) (hd:∀ σ H,Pv n.toNat σ H->D.nx σ H) :
  tFor (zdU ta) g tb D σ H:=hr _ ⟨n,rfl,n0,n1,zdN Pv h0 hs hd⟩
theorem forL {K:PySem.W.Frag} {tl:TE} {g:TG} {tb:TS} {D:Ends} {σ:St} {H H1:Hp} (a:Addr) (xs:List V) (hr:∀ Q,Q (.ref a) H1->tl σ H Q) (Pv:Nat->St->Hp->Prop) (h0:Pv 0 σ H1) (hl:∀ i σ H,i ≤ xs.length->Pv i σ H->SqL K H a xs)
  (hs:∀ i x σ H,xs[i]? = some x->Pv i σ H->g x σ H fun σ2 H2=>tb { D with nx:=Pv (i + 1),ct:=Pv (i + 1),bk:=D.nx } σ2 H2) (hd:∀ σ H,Pv xs.length σ H->D.nx σ H) :
  tFor (zhd K tl) g tb D σ H:=hr _ ⟨a,rfl,⟨xs,hl 0 σ H1 (Nat.zero_le _) h0⟩,zdh Pv h0 hl hs hd⟩
theorem forZ {K:PySem.W.Frag} {ta:TA} {g:TG} {tb:TS} {D:Ends} {σ:St} {H H1:Hp} (l1 l2:Addr) (xs ys:List V) (hr:∀ Q,Q [.ref l1,.ref l2] H1->ta σ H Q) (Pv:Nat->St->Hp->Prop) (h0:Pv 0 σ H1) (hn:xs.length = ys.length) (hl:∀ i σ H,i ≤ xs.length->Pv i σ H->SqL K H l1 xs∧SqL K H l2 ys)
  (hs:∀ i x y p σ H,xs[i]? = some x->ys[i]? = some y->Pv i σ H->H p = none->g (.ref p) σ (upd H p (.tup [x,y])) fun σ2 H2=>tb { D with nx:=Pv (i + 1),ct:=Pv (i + 1),bk:=D.nx } σ2 H2) (hd:∀ σ H,Pv xs.length σ H->D.nx σ H) :
  tFor (iZip K ta) g tb D σ H:=by
 refine hr _ ⟨l1,l2,rfl,⟨xs,(hl 0 σ H1 (Nat.zero_le _) h0).1⟩,⟨ys,(hl 0 σ H1 (Nat.zero_le _) h0).2⟩,fun i m σ H=>m = xs.length - i∧i ≤ xs.length∧Pv i σ H,⟨xs.length,by simp,Nat.zero_le _,h0⟩,?_⟩
 rintro i m σ H ⟨rfl,hi,p⟩
 obtain ⟨q1,q2⟩:=hl i σ H hi p
 by_cases hlt:i < xs.length
 ·refine .inr ⟨⟨xs,ys,xs[i],ys[i],q1,q2,by simp [hlt],by simp [hn ▸ hlt]⟩,Pv (i + 1),fun σ' H' p'=>⟨xs.length - (i + 1),by omega,rfl,hlt,p'⟩,fun v H' y=>?_⟩
  obtain ⟨b,x,y,rfl,hb,rfl,e1,e2⟩:=y
  exact hs i x y b σ _ (e1 _ q1) (e2 _ q2) p hb
 ·have e:i = xs.length:=by omega
  subst e
  exact .inl ⟨⟨xs,ys,q1,q2,.inl (Nat.le_refl _)⟩,hd σ H p⟩
theorem compA {cap:List (Option Nat)} {ta:TA} {g:TG} {tt:TT} {te:TE} {σ:St} {H H1:Hp} {Q:VK} (lo hi:Int) (hr:∀ Q,Q [.int lo,.int hi] H1->ta σ H Q) (Pv:Addr->Nat->List V->Hp->Prop) (h0:∀ D,H1 D = none->Pv D 0 [] (upd H1 D (.lst [])))
  (hl:∀ D,H1 D = none->∀ i ys H,i ≤ (hi - lo).toNat->Pv D i ys H->H D = some (.lst ys)∧ys.length ≤ i) (hz:(hi - lo).toNat ≤ sizeLine)
  (hs:∀ D,H1 D = none->∀ i ys H,i < (hi - lo).toNat->Pv D i ys H->g (.int (lo + i)) (zaT cap σ) H fun σ4 H4=>tt σ4 H4 fun b H5=>if b = true then te σ4 H5 fun y H6=>H6 D = some (.lst ys)∧Pv D (i + 1) (ys ++ [y]) (upd H6 D (.lst (ys ++ [y]))) else Pv D (i + 1) ys H5)
  (hd:∀ D,H1 D = none->∀ ys H,Pv D (hi - lo).toNat ys H->Q (.ref D) H):zcx cap (zh5 ta) g tt te σ H Q:=hr _ ⟨lo,hi,rfl,fun D hD=>zdb (R:=fun H=>Q (.ref D) H) (Pv D) (h0 D hD) (hl D hD) hz (hs D hD) (hd D hD)⟩
theorem comp1 {cap:List (Option Nat)} {ta:TA} {g:TG} {tt:TT} {te:TE} {σ:St} {H H1:Hp} {Q:VK} (n:Int) (hr:∀ Q,Q [.int n] H1->ta σ H Q) (n0:-(2 ^ 62) ≤ n) (n1:n < 2 ^ 62) (Pv:Addr->Nat->List V->Hp->Prop) (h0:∀ D,H1 D = none->Pv D 0 [] (upd H1 D (.lst [])))
  (hl:∀ D,H1 D = none->∀ i ys H,i ≤ n.toNat->Pv D i ys H->H D = some (.lst ys)∧ys.length ≤ i) (hz:n.toNat ≤ sizeLine)
  (hs:∀ D,H1 D = none->∀ i ys H,i < n.toNat->Pv D i ys H->g (.int (0 + i)) (zaT cap σ) H fun σ4 H4=>tt σ4 H4 fun b H5=>if b = true then te σ4 H5 fun y H6=>H6 D = some (.lst ys)∧Pv D (i + 1) (ys ++ [y]) (upd H6 D (.lst (ys ++ [y]))) else Pv D (i + 1) ys H5)
  (hd:∀ D,H1 D = none->∀ ys H,Pv D n.toNat ys H->Q (.ref D) H):zcx cap (zdU ta) g tt te σ H Q:=hr _ ⟨n,rfl,n0,n1,fun D hD=>zdb (R:=fun H=>Q (.ref D) H) (Pv D) (h0 D hD) (hl D hD) hz (hs D hD) (hd D hD)⟩
theorem zjo {K:PySem.W.Frag} {cap:List (Option Nat)} {tl:TE} {g:TG} {tt:TT} {te:TE} {σ:St} {H H1:Hp} {Q:VK} (a:Addr) (xs:List V) (hr:∀ Q,Q (.ref a) H1->tl σ H Q) (hq:SqL K H1 a xs) (Pv:Addr->Nat->List V->Hp->Prop) (h0:∀ D,H1 D = none->Pv D 0 [] (upd H1 D (.lst [])))
  (hl:∀ D,H1 D = none->∀ i ys H,i ≤ xs.length->Pv D i ys H->SqL K H a xs∧H D = some (.lst ys)∧ys.length ≤ i) (hz:xs.length ≤ sizeLine)
  (hs:∀ D,H1 D = none->∀ i x ys H,xs[i]? = some x->Pv D i ys H->g x (zaT cap σ) H fun σ4 H4=>tt σ4 H4 fun b H5=>if b = true then te σ4 H5 fun y H6=>H6 D = some (.lst ys)∧Pv D (i + 1) (ys ++ [y]) (upd H6 D (.lst (ys ++ [y]))) else Pv D (i + 1) ys H5)
  (hd:∀ D,H1 D = none->∀ ys H,Pv D xs.length ys H->Q (.ref D) H):zcx cap (zhd K tl) g tt te σ H Q:=hr _ ⟨a,rfl,⟨xs,hq⟩,fun D hD=>zdM (R:=fun H=>Q (.ref D) H) (Pv D) (h0 D hD) (hl D hD) hz (hs D hD) (hd D hD)⟩
theorem compT {K:PySem.W.Frag} {cap:List (Option Nat)} {tl:TE} {g:TG} {tt:TT} {te:TE} {σ:St} {H H1:Hp} {Q:VK} (a:Addr) (xs:List V) (hr:∀ Q,Q (.ref a) H1->tl σ H Q) (hq:SqT K H1 a xs) (Pv:Addr->Nat->List V->Hp->Prop) (h0:∀ D,H1 D = none->Pv D 0 [] (upd H1 D (.lst [])))
  (hl:∀ D,H1 D = none->∀ i ys H,i ≤ xs.length->Pv D i ys H->SqT K H a xs∧H D = some (.lst ys)∧ys.length ≤ i) (hz:xs.length ≤ sizeLine)
  (hs:∀ D,H1 D = none->∀ i x ys H,xs[i]? = some x->Pv D i ys H->g x (zaT cap σ) H fun σ4 H4=>tt σ4 H4 fun b H5=>if b = true then te σ4 H5 fun y H6=>H6 D = some (.lst ys)∧Pv D (i + 1) (ys ++ [y]) (upd H6 D (.lst (ys ++ [y]))) else Pv D (i + 1) ys H5)
  (hd:∀ D,H1 D = none->∀ ys H,Pv D xs.length ys H->Q (.ref D) H):zcx cap (iTup K tl) g tt te σ H Q:=hr _ ⟨a,rfl,⟨xs,hq⟩,fun D hD=>zha (R:=fun H=>Q (.ref D) H) (Pv D) (h0 D hD) (hl D hD) hz (hs D hD) (hd D hD)⟩
theorem zi8 {K:PySem.W.Frag} {cap:List (Option Nat)} {tl:TE} {g:TG} {tt:TT} {te:TE} {σ:St} {H:Hp} {Q:VK} (Pre:Addr->Hp->Prop) (hr:∀ Q,(∀ a H1,Pre a H1->Q (.ref a) H1)->tl σ H Q)
  (h:∀ a H1,Pre a H1->zcx cap (iTup K (tC (.ref a))) g tt te σ H1 Q):zcx cap (iTup K tl) g tt te σ H Q:=hr _ fun a H1 p=>h a H1 p
theorem ziH {ta:TA} {g:TG} {tb:TS} {D:Ends} {σ:St} {H:Hp} (Pre:Int->Hp->Prop) (hr:∀ Q,(∀ n H1,Pre n H1->Q [.int n] H1)->ta σ H Q)
  (h:∀ n H1,Pre n H1->tFor (zdU (zcn (tC (.int n)) tNil)) g tb D σ H1):tFor (zdU ta) g tb D σ H:=hr _ fun a H1 p=>h a H1 p
theorem zcc {K:PySem.W.Frag} {n:Nat} {t:TGs} {a:Addr} {xs:List V} {σ:St} {H:Hp} {Q:St->Hp->Prop} (h:H a = some (.tup xs)) (hl:xs.length = n) (q:t xs σ H Q):gTup K n t (.ref a) σ H Q:=⟨a,xs,rfl,.of h,hl,q⟩
abbrev Th:=Int × List Int × List Int
noncomputable def thW (t:Th):List Int:=(16 * (t.2.1.length:Int) + t.2.2.length) :: (t.2.1 ++ t.2.2)
noncomputable def thSz (t:Th):Int:=1 + t.2.1.length + t.2.2.length
noncomputable def zay (t:Th) (z:Int):Option Int:=if z < t.1 then none else (thW t)[(z - t.1).toNat]?
noncomputable def zav (ts:List Th) (z:Int):Option Int:=ts.findSome? fun t=>zay t z
noncomputable def thTri (t:Th):Int × Int × Int:=(t.1,(t.2.1.length:Int),(t.2.2.length:Int))
noncomputable def Lay:Int->List Th->Int->Prop
 | s,[],f=>f = s
 | s,t :: r,f=>t.1 = s∧Lay (s + thSz t) r f
theorem zaW (t:Th):1 ≤ thSz t:=by unfold thSz; omega
theorem zil (t:Th):((thW t).length:Int) = thSz t:=by unfold thW thSz; simp; omega
theorem zaF {t:Th} {z:Int}:zay t z = none ↔ z < t.1 ∨ t.1 + thSz t ≤ z:=by
 unfold zay
 have h:=zil t
 by_cases c:z < t.1
 ·simp [c]
 ·simp only [if_neg c,List.getElem?_eq_none_iff]
  omega
theorem zbP {t:Th}:zay t t.1 = some (16 * (t.2.1.length:Int) + t.2.2.length):=by
 unfold zay thW; simp
theorem zaL {t:Th} {r:List Th} {z:Int}:zav (t :: r) z = (zay t z).or (zav r z):=by
 unfold zav; rw [List.findSome?_cons]; cases zay t z <;> rfl
theorem zb4 {a b:List Th} {z:Int}:zav (a ++ b) z = (zav a z).or (zav b z):=by
 unfold zav; rw [List.findSome?_append]
theorem zez {ts:List Th} {k:Nat} {t:Th} {z x:Int} (h:zav (ts.take k) z = none) (hk:ts[k]? = some t) (hx:zay t z = some x):zav ts z = some x:=by
 have e:ts = ts.take k ++ (t :: ts.drop (k + 1)):=by
  have hl:=(List.getElem?_eq_some_iff.mp hk).1
  have e2:=(List.getElem?_eq_some_iff.mp hk).2
  rw [← e2,← List.drop_eq_getElem_cons hl,List.take_append_drop]
 rw [e,zb4,h,zaL,hx]; rfl
theorem zft {ts:List Th} {k:Nat} {t t':Th} {z:Int} (h:zav (ts.take k) z = none) (hk:ts[k]? = some t) (hx:(zay t' z).isSome):zav (ts.set k t') z = zay t' z:=by
 obtain ⟨x,e⟩:=Option.isSome_iff_exists.mp hx
 have hl:=(List.getElem?_eq_some_iff.mp hk).1
 rw [e]
 refine zez (k:=k) (t:=t') ?_ (by rw [List.getElem?_set_self hl]) e
 rw [List.take_set]
 rw [List.set_eq_of_length_le (by simp; omega)]
 exact h
theorem wordAt_same:∀ {ts:List Th} {k:Nat} {t t':Th} {z:Int},ts[k]? = some t->zay t' z = zay t z->zav (ts.set k t') z = zav ts z
 | [],k,t,t',z,hk,_=>by simp at hk
 | u :: r,0,t,t',z,hk,e=>by
  simp at hk; subst hk
  rw [List.set_cons_zero,zaL,zaL,e]
 | u :: r,k + 1,t,t',z,hk,e=>by
  rw [List.getElem?_cons_succ] at hk
  rw [List.set_cons_succ,zaL,zaL,wordAt_same hk e]
theorem Lay.snoc:∀ {ts:List Th} {s f:Int} {t:Th},Lay s ts f->t.1 = f->Lay s (ts ++ [t]) (f + thSz t)
 | [],s,f,t,h,e=>by
  cases (show f = s from h)
  exact ⟨e,rfl⟩
 | u :: r,s,f,t,⟨h1,h2⟩,e=>⟨h1,Lay.snoc h2 e⟩
theorem Lay.le:∀ {ts:List Th} {s f:Int},Lay s ts f->s ≤ f
 | [],s,f,h=>by cases (show f = s from h); exact Int.le_refl _
 | u :: r,s,f,⟨h1,h2⟩=>by have:=Lay.le h2; have:=zaW u; omega
theorem Lay.mem:∀ {ts:List Th} {s f:Int} {t:Th},Lay s ts f->t ∈ ts->s ≤ t.1∧t.1 + thSz t ≤ f
 | [],s,f,t,h,m=>by cases m
 | u :: r,s,f,t,⟨h1,h2⟩,m=>by
  have p:=zaW u
  rcases List.mem_cons.mp m with e | m
  ·subst e; have:=Lay.le h2; omega
  ·have:=Lay.mem h2 m; omega
theorem Lay.apart:∀ {ts:List Th} {s f:Int} {t t':Th},Lay s ts f->t ∈ ts->t' ∈ ts->t.1 < t'.1->t.1 + thSz t ≤ t'.1
 | [],s,f,t,t',h,m,_,_=>by cases m
 | u :: r,s,f,t,t',⟨h1,h2⟩,m,m',lt=>by
  rcases List.mem_cons.mp m with e | n <;> rcases List.mem_cons.mp m' with e' | n'
  ·subst e; subst e'; omega
  ·subst e; have:=Lay.mem h2 n'; omega
  ·subst e'; have:=Lay.mem h2 n; have:=zaW t'; omega
  ·exact Lay.apart h2 n n' lt
theorem Lay.rising:∀ {ts:List Th} {s f:Int},Lay s ts f->(ts.map (·.1)).Pairwise (· < ·)
 | [],s,f,h=>.nil
 | u :: r,s,f,⟨h1,h2⟩=>by
  rw [List.map_cons]
  refine List.Pairwise.cons (fun x hx=>?_) (Lay.rising h2)
  obtain ⟨t,ht,rfl⟩:=List.mem_map.mp hx
  have:=Lay.mem h2 ht; have:=zaW u; omega
theorem Lay.inj {ts:List Th} {s f:Int} {t t':Th} (h:Lay s ts f) (m:t ∈ ts) (m':t' ∈ ts) (e:t.1 = t'.1):t = t':=by
 have p:=Lay.rising h
 rw [List.pairwise_map] at p
 rcases List.getElem_of_mem m with ⟨i,hi,rfl⟩
 rcases List.getElem_of_mem m' with ⟨j,hj,rfl⟩
 rcases Nat.lt_trichotomy i j with c | c | c
 ·have:=(List.pairwise_iff_getElem.mp p) i j hi hj c; omega
 ·subst c; rfl
 ·have:=(List.pairwise_iff_getElem.mp p) j i hj hi c; omega
theorem Lay.word:∀ {ts:List Th} {s f:Int} {t:Th} {z:Int},Lay s ts f->t ∈ ts->t.1 ≤ z->z < t.1 + thSz t->zav ts z = zay t z
 | [],s,f,t,z,h,m,_,_=>by cases m
 | u :: r,s,f,t,z,⟨h1,h2⟩,m,a,b=>by
  rw [zaL]
  rcases List.mem_cons.mp m with e | m
  ·subst e
   cases e:zay t z with
   | none=>rcases zaF.mp e with c | c <;> omega
   | some x=>rfl
  ·have q:=Lay.mem h2 m
   rw [zaF.mpr (.inr (by omega)),Lay.word h2 m a b]; rfl
theorem Lay.noWord:∀ {ts:List Th} {s f:Int} {z:Int},Lay s ts f->z < s ∨ f ≤ z->zav ts z = none
 | [],s,f,z,h,c=>rfl
 | u :: r,s,f,z,⟨h1,h2⟩,c=>by
  have p:=zaW u
  have l:=Lay.le h2
  rw [zaL,zaF.mpr (by omega),Lay.noWord h2 (by omega)]; rfl
theorem Lay.sum:∀ {ts:List Th} {s f:Int},Lay s ts f->f = s + (ts.map thSz).sum
 | [],s,f,h=>by cases (show f = s from h); simp
 | u :: r,s,f,⟨h1,h2⟩=>by have:=Lay.sum h2; rw [List.map_cons,List.sum_cons]; omega
theorem Lay.newWord {ts:List Th} {s f:Int} {h m:Nat} (l:Lay s ts f) (z:Int) :
  zav (ts ++ [(f,List.replicate h 0,List.replicate m 0)]) z = if z = f then some (16 * (h:Int) + m) else if f < z∧z < f + 1 + h + m then some 0 else zav ts z:=by
 rw [zb4]
 have e1:zav [((f,List.replicate h 0,List.replicate m 0):Th)] z = zay (f,List.replicate h 0,List.replicate m 0) z:=by
  rw [zaL]; cases zay (f,List.replicate h 0,List.replicate m 0) z <;> rfl
 rw [e1]
 by_cases c1:z = f
 ·subst c1
  rw [if_pos rfl,Lay.noWord l (.inr (Int.le_refl _))]
  have:=zbP (t:=(z,List.replicate h 0,List.replicate m 0))
  rw [List.length_replicate,List.length_replicate] at this
  exact this
 ·rw [if_neg c1]
  by_cases c2:f < z∧z < f + 1 + h + m
  ·rw [if_pos c2,Lay.noWord l (.inr (by omega))]
   show zay _ z = some 0
   unfold zay thW
   rw [if_neg (by show ¬ z < f; omega)]
   show ((_ :: (List.replicate h (0:Int) ++ List.replicate m 0)):List Int)[(z - f).toNat]? = some 0
   rw [List.replicate_append_replicate,show (z - f).toNat = ((z - f).toNat - 1) + 1 by omega,List.getElem?_cons_succ,List.getElem?_replicate,if_pos (by omega)]
  ·rw [if_neg c2]
   have:zay ((f,List.replicate h 0,List.replicate m 0):Th) z = none:=zaF.mpr (by
    show z < f ∨ f + thSz (f,List.replicate h 0,List.replicate m 0) ≤ z
    unfold thSz; simp; omega)
   rw [this,Option.or_none]
set_option genInjectivity false in
set_option genSizeOf false in
structure Yd where
 p:Addr
 dx:Addr
 dw:Addr
 ds:Addr
noncomputable def yF (y:Yd) (free:Int):List (Str × V):=[("free",.int free),("words",.ref y.dw),("sizes",.ref y.ds)]
theorem zi4 {v:V}:putF "free" v [] = [(("free":Str),v)]:=by rfl
theorem zi9 {x v:V}:putF "words" v [(("free":Str),x)] = [(("free":Str),x),(("words":Str),v)]:=by rfl
theorem zi6 {x z v:V}:putF "sizes" v [(("free":Str),x),(("words":Str),z)] = [(("free":Str),x),(("words":Str),z),(("sizes":Str),v)]:=by rfl
theorem zhz {y:Yd} {f f':Int}:putF "free" (.int f') (yF y f) = yF y f':=by rfl
theorem zcj {y:Yd} {f:Int}:(yF y f).length = 3:=rfl
theorem zcw {y:Yd} {f:Int}:List.lookup ("free":Str) (yF y f) = some (V.int f):=by rfl
theorem zbm {y:Yd} {f:Int}:List.lookup ("words":Str) (yF y f) = some (V.ref y.dw):=by rfl
theorem zbB {y:Yd} {f:Int}:List.lookup ("sizes":Str) (yF y f) = some (V.ref y.ds):=by rfl
theorem zaI {y:Yd} {f:Int}:List.lookup ("make":Str) (yF y f) = none∧List.lookup ("is_thing":Str) (yF y f) = none∧List.lookup ("size_of":Str) (yF y f) = none∧List.lookup ("word":Str) (yF y f) = none∧List.lookup ("set_word":Str) (yF y f) = none∧List.lookup ("words_from":Str) (yF y f) = none∧List.lookup ("holds_of":Str) (yF y f) = none∧List.lookup ("numbers_of":Str) (yF y f) = none∧List.lookup ("told":Str) (yF y f) = none:=⟨by rfl,by rfl,by rfl,by rfl,by rfl,by rfl,by rfl,by rfl,by rfl⟩
theorem zbA {H:Hp} {p:Addr} {C dx:Addr} {fs:List (Str × V)} (h:H p = some (.ins C dx fs)):∀ xs,H p ≠ some (.tup xs):=fun xs e=>by rw [h] at e; cases e
theorem zbg {H:Hp} {p:Addr} {kvs:List (Key × V)} (h:H p = some (.dK kvs)):∀ xs,H p ≠ some (.tup xs):=fun xs e=>by rw [h] at e; cases e
theorem zcb {H:Hp} {p:Addr} {ys:List V} (h:H p = some (.lst ys)):∀ xs,H p ≠ some (.tup xs):=fun xs e=>by rw [h] at e; cases e
structure YardAt (C:Addr) (H:Hp) (y:Yd) (W:Int->Option Int) (S:List (Int × Int × Int)) (free:Int):Prop where
 ins:H y.p = some (.ins C y.dx (yF y free))
 words:∃ kw,H y.dw = some (.dK kw)∧(∀ z,valV kw (.inl z) = (W z).map V.int)∧kw.length ≤ 19 * S.length
 sizes:∃ ks,H y.ds = some (.dK ks)∧ks.map (·.1) = S.map (fun t=>Sum.inl t.1)∧(∀ t ∈ S,∃ q,valV ks (.inl t.1) = some (.ref q)∧H q = some (.tup [.int t.2.1,.int t.2.2]))∧(∀ z,(∀ t ∈ S,t.1 ≠ z)->valV ks (.inl z) = none)
 ne:y.dw ≠ y.ds
theorem YardAt.fr {C:Addr} {H H':Hp} {y:Yd} {W:Int->Option Int} {S:List (Int × Int × Int)} {free:Int} {M:Addr->Prop} (x:YardAt C H y W S free) (f:Fr M H H') (h1:¬ M y.p) (h2:¬ M y.dw) (h3:¬ M y.ds):YardAt C H' y W S free:=by
 obtain ⟨a,⟨kw,b1,b2,b3⟩,⟨ks,c1,c2,c3,c4⟩,d⟩:=x
 refine ⟨f.keep _ _ a h1,⟨kw,f.keep _ _ b1 h2,b2,b3⟩,⟨ks,f.keep _ _ c1 h3,c2,fun t ht=>?_,c4⟩,d⟩
 obtain ⟨q,e1,e2⟩:=c3 t ht
 exact ⟨q,e1,f.tups _ _ e2⟩
theorem YardAt.same {C:Addr} {H H':Hp} {y:Yd} {W:Int->Option Int} {S:List (Int × Int × Int)} {free:Int} (x:YardAt C H y W S free) (s:Same H H'):YardAt C H' y W S free :=
 x.fr (M:=fun _=>False) (.of_same s) id id id
noncomputable def YM (y:Yd):Addr->Prop:=fun q=>q = y.p ∨ q = y.dw ∨ q = y.ds
theorem zb9 {kvs:List (Key × V)} {k:Key} {v x:V} (h:valV kvs k = some x):(putK kvs k v).length = kvs.length:=by
 unfold putK
 rw [zbx,h,if_pos (by rfl),List.length_map]
structure RowsAt (mk:List V->HO) (H:Hp) (l:Addr) (as:List (Addr × Addr × Addr)) (ts:List Th):Prop where
 top:H l = some (.lst (as.map fun a=>V.ref a.1))
 len:as.length = ts.length
 row:∀ (k:Nat) (a:Addr × Addr × Addr) (t:Th),as[k]? = some a->ts[k]? = some t->H a.1 = some (.tup [.int t.1,.ref a.2.1,.ref a.2.2])∧H a.2.1 = some (mk (t.2.1.map V.int))∧H a.2.2 = some (mk (t.2.2.map V.int))
theorem RowsAt.at_ {mk:List V->HO} {H:Hp} {l:Addr} {as:List (Addr × Addr × Addr)} {ts:List Th} (x:RowsAt mk H l as ts) {k:Nat} {t:Th} (hk:ts[k]? = some t) :
  ∃ a,as[k]? = some a∧H a.1 = some (.tup [.int t.1,.ref a.2.1,.ref a.2.2])∧H a.2.1 = some (mk (t.2.1.map V.int))∧H a.2.2 = some (mk (t.2.2.map V.int)):=by
 have hl:=(List.getElem?_eq_some_iff.mp hk).1
 have hl':k < as.length:=by rw [x.len]; exact hl
 exact ⟨as[k],List.getElem?_eq_getElem hl',x.row k _ t (List.getElem?_eq_getElem hl') hk⟩
theorem RowsAt.same {mk:List V->HO} {H H':Hp} {l:Addr} {as:List (Addr × Addr × Addr)} {ts:List Th} (x:RowsAt mk H l as ts) (s:Same H H'):RowsAt mk H' l as ts :=
 ⟨s _ _ x.top,x.len,fun k a t h1 h2=>by obtain ⟨e1,e2,e3⟩:=x.row k a t h1 h2; exact ⟨s _ _ e1,s _ _ e2,s _ _ e3⟩⟩
abbrev Tag:=Nat × Nat × Nat
noncomputable def zdS (g:Addr->Tag) (y:Nat) (as:List (Addr × Addr × Addr)):Prop:=∀ (k:Nat) (a:Addr × Addr × Addr),as[k]? = some a->g a.2.1 = (2 + y,k,1)∧g a.2.2 = (2 + y,k,2)
theorem RowsAt.fr {H H':Hp} {l:Addr} {as:List (Addr × Addr × Addr)} {ts:List Th} {M:Addr->Prop} {g:Addr->Tag} {y:Nat} (x:RowsAt HO.lst H l as ts) (f:Fr M H H') (tg:zdS g y as) (h1:¬ M l) (h2:∀ q,(g q).1 = 2 + y->¬ M q):RowsAt HO.lst H' l as ts :=
 ⟨f.keep _ _ x.top h1,x.len,fun k a t ha ht=>by
  obtain ⟨e1,e2,e3⟩:=x.row k a t ha ht
  obtain ⟨g1,g2⟩:=tg k a ha
  exact ⟨f.tups _ _ e1,f.keep _ _ e2 (h2 _ (by rw [g1])),f.keep _ _ e3 (h2 _ (by rw [g2]))⟩⟩
noncomputable def gset (g:Addr->Tag) (p:Addr) (t:Tag):Addr->Tag:=fun q=>if q = p then t else g q
theorem zdV {g:Addr->Tag} {p:Addr} {t:Tag}:gset g p t p = t:=if_pos rfl
theorem zdm {g:Addr->Tag} {p q:Addr} {t:Tag} (h:q ≠ p):gset g p t q = g q:=if_neg h
theorem RowsAt.retag {H:Hp} {l p:Addr} {as:List (Addr × Addr × Addr)} {ts:List Th} {g:Addr->Tag} {y:Nat} {t:Tag} (x:RowsAt HO.lst H l as ts) (tg:zdS g y as) (hp:H p = none):zdS (gset g p t) y as:=fun k a ha=>by
 have hl:k < ts.length:=by rw [← x.len]; exact (List.getElem?_eq_some_iff.mp ha).1
 obtain ⟨e1,e2,e3⟩:=x.row k a _ ha (List.getElem?_eq_getElem hl)
 rw [zdm (zah e2 hp),zdm (zah e3 hp)]
 exact tg k a ha
end L2
set_option Elab.async false
set_option linter.all false
set_option maxRecDepth 100000
namespace L2
open PySem PySem.Spec PyProof.Rows
noncomputable def rEqE (neg:Bool):R2:=fun x y H Q=>∃ l b xs,x = .ref l∧y = .ref b∧seqV H l = some xs∧zc2 H l = some true∧seqV H b = some []∧zc2 H b = some true∧Q (.bl (if neg then !xs.isEmpty else xs.isEmpty)) H
theorem zej {A:Around} {s:Shared} {us:List Value} (h:us.length = 0) (ws:List Value) :
  ∀ j (h1:j < us.toArray.size) (h2:j < ws.toArray.size),SeqAt.EqAt A s us.toArray[j] ws.toArray[j] ((fun _=>true) j):=by
 intro j h1 h2
 simp only [List.size_toArray] at h1
 omega
section
variable {X:Cx}
theorem ziE (hu:X.A.units + 1 < cLine):OpR X (compareOp .Eq) (rEqE false):=by
 intro pins s σ H x y v u Q I rx ry h
 obtain ⟨l,b,xs,rfl,rfl,h1,k1,h2,k2,q⟩:=h
 cases rx
 cases ry
 obtain ⟨us,r1,p1,z1⟩:=I.list (zbK (K:=X.K) h1 k1)
 obtain ⟨ws,r2,p2,z2⟩:=I.list (zbK (K:=X.K) h2 k2)
 have l1:=r1.length
 have l2:=r2.length
 cases xs with
 | nil =>
  refine SeqAt.eq_listAt p1.isList p2.isList (by simp at l1 l2 ⊢; omega) (by omega) (zej (by simpa using l1.symm) ws) ⟨.bl _,H,I,rfl,?_⟩
  have e:(List.range us.toArray.size).all (fun _=>true) = true:=by simp
  rw [e]
  exact q
 | cons x xs =>
  refine SeqAt.eq_list_lengthsAt p1.isList p2.isList (by simp at l1 l2 ⊢; omega) (by omega) ⟨.bl _,H,I,rfl,?_⟩
  exact q
theorem ziW (hu:X.A.units + 1 < cLine):OpR X (compareOp .NotEq) (rEqE true):=by
 intro pins s σ H x y v u Q I rx ry h
 obtain ⟨l,b,xs,rfl,rfl,h1,k1,h2,k2,q⟩:=h
 cases rx
 cases ry
 obtain ⟨us,r1,p1,z1⟩:=I.list (zbK (K:=X.K) h1 k1)
 obtain ⟨ws,r2,p2,z2⟩:=I.list (zbK (K:=X.K) h2 k2)
 have l1:=r1.length
 have l2:=r2.length
 cases xs with
 | nil =>
  refine SeqAt.RcNeAt.lists p1.isList p2.isList (by simp at l1 l2 ⊢; omega) (by omega) (zej (by simpa using l1.symm) ws) _ _ _ _ ⟨.bl _,H,I,rfl,?_⟩
  have e:(List.range us.toArray.size).all (fun _=>true) = true:=by simp
  rw [e]
  exact q
 | cons x xs =>
  refine SeqAt.RcNeAt.lists_lengths p1.isList p2.isList (by simp at l1 l2 ⊢; omega) (by omega) _ _ _ _ ⟨.bl _,H,I,rfl,?_⟩
  exact q
end
end L2
set_option Elab.async false
set_option linter.all false
set_option maxRecDepth 100000
namespace L2
open PySem PySem.Spec PyProof.Rows
section
variable {prog:Program} {w:World} {K:Type} [DecidableEq K] {knd:KeyKind prog w K} {A:Around} {E:Value->Shared->Prop} {s:Shared}
end
end L2
set_option Elab.async false
set_option linter.all false
set_option maxRecDepth 100000
namespace L2
open PySem PySem.Spec PyProof.Rows
section
variable {prog:Program} {w:World} {A:Around} {E:Value->Shared->Prop} {s:Shared} {a₀:Array Keyed}
end
section
variable {prog:Program} {w:World} {A:Around} {E:Value->Shared->Prop} {s:Shared} {T:String} {r d:Addr} {n:Nat} {P:Nat->Value->Prop} {OK:Heap->Prop} {Q:Value->Shared->Prop}
end
section
variable {X:Cx}
end
end L2
set_option Elab.async false
set_option linter.all false
set_option maxRecDepth 100000
namespace L2
open PySem PySem.Spec PyProof.Rows
noncomputable def iSeq (K:PySem.W.Frag) (tl:TE):TI:=fun σ H R=>tl σ H fun x H1=>∃ a,x = .ref a∧(((∃ xs,SqL K H1 a xs)∧R (Itl K a) H1) ∨ ((∃ xs,SqT K H1 a xs)∧R (Itt K a) H1))
theorem zjk {X:Cx} {tg l:Expr} {tl:TE} (hl:PE X l tl):PI X tg l (iSeq X.K tl):=by
 intro pins s σ H R I h
 refine thn (hl pins s σ H _ I h) fun v s1 zq_=>?_
 obtain ⟨x,H1,I1,r1,q1⟩:=zq_
 obtain ⟨a,rfl,q1⟩:=q1
 cases r1
 have fp:∀ b ∈ [s1.heap.objs.size],FpOk X pins H1 b:=fun b hb=>by
  obtain rfl:b = s1.heap.objs.size:=by simpa using hb
  exact I1.fpOk (Nat.le_refl _) (I1.hok.fresh (Nat.le_refl _))
 rcases q1 with ⟨⟨xs,hq⟩,q⟩ | ⟨⟨xs,hq⟩,q⟩
 ·obtain ⟨its,rv,p,hz⟩:=I1.list hq
  exact wpAny_pyIter_list p.isList ⟨s1.heap.objs.size,[s1.heap.objs.size],_,_,H1,rfl,I1.kept (t':=s1.toks) fun b o e=>Heap.get?_push_of_some _ e,zek a _,⟨_,Heap.get?_push_size _ rfl,rfl,rfl⟩,fp,q⟩
 ·obtain ⟨its,rv,p,hz⟩:=I1.tuple hq
  exact wpAny_pyIter_tuple (show s1.heap.IsTuple a its.toArray from p) ⟨s1.heap.objs.size,[s1.heap.objs.size],_,_,H1,rfl,I1.kept (t':=s1.toks) fun b o e=>Heap.get?_push_of_some _ e,zc8 a _,⟨_,Heap.get?_push_size _ rfl,rfl,rfl⟩,fp,q⟩
theorem forQ {K:PySem.W.Frag} {tl:TE} {g:TG} {tb:TS} {D:Ends} {σ:St} {H H1:Hp} (a:Addr) (xs:List V) (hr:∀ Q,Q (.ref a) H1->tl σ H Q) (Pv:Nat->St->Hp->Prop) (h0:Pv 0 σ H1)
  (hl:(∀ i σ H,i ≤ xs.length->Pv i σ H->SqL K H a xs) ∨ (∀ i σ H,i ≤ xs.length->Pv i σ H->SqT K H a xs))
  (hs:∀ i x σ H,xs[i]? = some x->Pv i σ H->g x σ H fun σ2 H2=>tb { D with nx:=Pv (i + 1),ct:=Pv (i + 1),bk:=D.nx } σ2 H2) (hd:∀ σ H,Pv xs.length σ H->D.nx σ H):tFor (iSeq K tl) g tb D σ H:=by
 refine hr _ ⟨a,rfl,?_⟩
 rcases hl with hl | hl
 ·exact .inl ⟨⟨xs,hl 0 σ H1 (Nat.zero_le _) h0⟩,zdh Pv h0 hl hs hd⟩
 ·exact .inr ⟨⟨xs,hl 0 σ H1 (Nat.zero_le _) h0⟩,zhW Pv h0 hl hs hd⟩
noncomputable def zb0 (ord:List Int) (h:Int):List Int:=if h = 0 ∨ h ∈ ord then ord else ord ++ [h]
noncomputable def layO (ord hs:List Int):List Int:=hs.foldl zb0 ord
theorem zhn {ord:List Int}:layO ord [] = ord:=rfl
theorem zgL {ord hs:List Int} {h:Int}:layO ord (h :: hs) = layO (zb0 ord h) hs:=rfl
theorem ze6 {ord a b:List Int}:layO ord (a ++ b) = layO (layO ord a) b:=List.foldl_append
theorem zdX {ord a:List Int} {h:Int}:layO ord (a ++ [h]) = zb0 (layO ord a) h:=by rw [ze6]; rfl
theorem zcG {ord:List Int} {h:Int}:ord <+: zb0 ord h:=by
 unfold zb0
 split
 ·exact List.prefix_refl _
 ·exact List.prefix_append _ _
theorem layO_pre:∀ {hs ord:List Int},ord <+: layO ord hs
 | [],_=>List.prefix_refl _
 | h :: hs,ord=>zcG.trans (layO_pre (hs:=hs))
theorem zfY {a b:List Int} (h:a <+: b):layO [] a <+: layO [] b:=by
 obtain ⟨c,rfl⟩:=h
 rw [ze6]
 exact layO_pre
theorem zgm {ord:List Int} {h x:Int}:x ∈ zb0 ord h ↔ x ∈ ord ∨ (x = h∧h ≠ 0):=by
 unfold zb0
 split
 ·rename_i c
  constructor
  ·exact .inl
  ·rintro (y | ⟨rfl,y⟩)
   ·exact y
   ·rcases c with c | c
    ·exact absurd c y
    ·exact c
 ·rename_i c
  rw [List.mem_append,List.mem_singleton]
  constructor
  ·rintro (y | y)
   ·exact .inl y
   ·exact .inr ⟨y,fun z=>c (.inl z)⟩
  ·rintro (y | ⟨y,_⟩)
   ·exact .inl y
   ·exact .inr y
theorem mem_layO:∀ {hs ord:List Int} {x:Int},x ∈ layO ord hs ↔ x ∈ ord ∨ (x ∈ hs∧x ≠ 0)
 | [],ord,x=>by rw [zhn]; simp
 | h :: hs,ord,x=>by
  rw [zgL,mem_layO,zgm,List.mem_cons]
  constructor
  ·rintro ((y | ⟨rfl,y⟩) | ⟨y,z⟩)
   ·exact .inl y
   ·exact .inr ⟨.inl rfl,y⟩
   ·exact .inr ⟨.inr y,z⟩
  ·rintro (y | ⟨rfl | y,z⟩)
   ·exact .inl (.inl y)
   ·exact .inl (.inr ⟨rfl,z⟩)
   ·exact .inr ⟨y,z⟩
noncomputable def thAt (ts:List Th) (z:Int):Th:=(ts.find? fun t=>t.1 == z).getD (0,[],[])
noncomputable def zdC (ts:List Th) (z:Int):List Int:=(thAt ts z).2.1
noncomputable def zaM (ts:List Th) (roots ord:List Int):List Int:=roots ++ ord.flatMap (zdC ts)
theorem zb6 {ts:List Th} {roots a b:List Int} (h:a <+: b):zaM ts roots a <+: zaM ts roots b:=by
 obtain ⟨c,rfl⟩:=h
 unfold zaM
 rw [List.flatMap_append,← List.append_assoc]
 exact List.prefix_append _ _
structure Cart (ts:List Th) (roots ord:List Int):Prop where
 fix:layO [] (zaM ts roots ord) = ord
 led:∀ n,n < ord.length->ord.take (n + 1) <+: layO [] (zaM ts roots (ord.take n))
structure Going (ts:List Th) (roots done ord:List Int):Prop where
 is:layO [] done = ord
 pre:done <+: zaM ts roots ord
 led:∀ n,n < ord.length->ord.take (n + 1) <+: layO [] (zaM ts roots (ord.take n))
theorem Going.nil {ts:List Th} {roots:List Int}:Going ts roots [] []:=⟨rfl,List.nil_prefix,fun n h=>by simp at h⟩
theorem Going.step {ts:List Th} {roots done ord:List Int} (g:Going ts roots done ord) {h:Int} (hp:done ++ [h] <+: zaM ts roots ord):Going ts roots (done ++ [h]) (zb0 ord h):=by
 have e:layO [] (done ++ [h]) = zb0 ord h:=by rw [zdX,g.is]
 refine ⟨e,hp.trans (zb6 zcG),fun n hn=>?_⟩
 unfold zb0 at hn ⊢
 split at hn
 ·rename_i c
  rw [if_pos c]
  exact g.led n hn
 ·rename_i c
  rw [if_neg c]
  rw [List.length_append,List.length_singleton] at hn
  by_cases d:n < ord.length
  ·rw [List.take_append_of_le_length (by omega),List.take_append_of_le_length (by omega)]
   exact g.led n d
  ·have en:n = ord.length:=by omega
   rw [en,List.take_of_length_le (by rw [List.length_append]; simp),List.take_append_of_le_length (Nat.le_refl _),List.take_length]
   have:=zfY hp
   rw [e] at this
   unfold zb0 at this
   rw [if_neg c] at this
   exact this
theorem Going.done {ts:List Th} {roots ord:List Int} (g:Going ts roots (zaM ts roots ord) ord):Cart ts roots ord:=⟨g.is,g.led⟩
end L2
set_option Elab.async false
set_option linter.all false
set_option maxRecDepth 100000
namespace L2
open PySem PySem.Spec PyProof.Rows
noncomputable def Ite (K:PySem.W.Frag) (l:Addr):It :=
 ⟨fun i H=>∃ xs x,SqL K H l xs∧xs[i]? = some x,
  fun i H v H'=>∃ p x,v = .ref p∧H p = none∧H' = upd H p (.tup [.int i,x])∧∀ xs,SqL K H l xs->xs[i]? = some x,
  fun i H=>∃ xs,SqL K H l xs∧xs.length ≤ i⟩
structure EnSt (e it l:Addr) (i:Nat) (h:Heap):Prop where
 e:∃ old,IsEnum h e it i old
 h1:h.IsListIter it l i
theorem zgS {P:Program} {w:World} {K:PySem.W.Frag} {es:List Expr} {tk:Nat} {tpos:Pos} (e it l:Addr) (ne:e ≠ it):Turn P w K (.Tuple es tk tpos) (Ite K l) [e,it] e (EnSt e it l) where
 mem:=by simp
 obj:=fun i h st b hb=>by
  simp only [List.mem_cons,List.not_mem_nil,or_false] at hb
  rcases hb with rfl | rfl
  ·obtain ⟨old,g⟩:=st.e
   exact ⟨_,g,fun v z=>by cases (show Data.fields _ = Data.cell v from z)⟩
  ·obtain ⟨o,g,_,d⟩:=st.h1
   exact ⟨o,g,fun v z=>by rw [d] at z; cases z⟩
 keep:=fun i h h' st k=>by
  obtain ⟨old,g⟩:=st.e
  exact ⟨⟨old,k e (by simp) _ g⟩,st.h1.at fun o g=>k it (by simp) o g⟩
 item:=by
  intro X hP hw hK hc i pins s σ H E I hf st hg
  subst hP hw hK
  obtain ⟨xs,x,hq,hx⟩:=hg
  obtain ⟨us,r1,p1,z1⟩:=I.list hq
  obtain ⟨u,eu,ru⟩:=r1.get hx
  obtain ⟨old,ge⟩:=st.e
  refine wpAny_pyNext_enum_item ge st.h1 p1.isList (x:=u) (by simpa using eu) ne fun h' a1 a2 a3 a4 a5=>?_
  refine ⟨_,rfl,wpAny_letOwnedTupleGo_enum a1 fun h2 b1 b2=>?_⟩
  have lt1:e < s.heap.objs.size:=Heap.lt_size ge
  have lt2:it < s.heap.objs.size:=by obtain ⟨o,g,_⟩:=st.h1; exact Heap.lt_size g
  have hlt:∀ c ∈ [e,it],c < s.heap.objs.size:=fun c hc=>by
   simp only [List.mem_cons,List.not_mem_nil,or_false] at hc
   rcases hc with rfl | rfl
   ·exact lt1
   ·exact lt2
  have kk:∀ b o,b ∉ [e,it]->s.heap.get? b = some o->h2.get? b = some o:=fun b o hb g=>by
   simp only [List.mem_cons,List.not_mem_nil,or_false,not_or] at hb
   exact b2.extBut b o hb.1 (a5 b o hb.1 hb.2 g)
  have gp:=b2.extBut _ _ (Nat.ne_of_gt lt1) a3
  have hn:H s.heap.objs.size = none:=I.hok.fresh (Nat.le_refl _)
  have nit:∀ b u,H b = some u->b ∉ [e,it]:=fun b u g w=>by rw [(hf b w).1] at g; cases g
  have hL:X.env.locals ∉ [e,it]:=fun w=>(hf _ w).2.1 rfl
  have I2:Inv X pins σ (upd H s.heap.objs.size (.tup [.int i,x])) { s with heap:=h2,toks:=s.toks + 1 }:=by
   refine I.step (g':=s.gens) (d':=s.drawn) (t':=s.toks + 1) (ch:=[e,it]) (fun b hb=>⟨(hf b hb).2.2.2.1,(hf b hb).2.1,(hf b hb).2.2.2.2.1,(hf b hb).2.2.2.2.2⟩) (fun b o _ _ hc g _=>kk b o hc g) (fun b o _ _ hc g _=>⟨o.slots,kk b o hc g⟩)
    (fun b o _ g n=>by rw [zag (Nat.ne_of_lt (Heap.lt_size g))]; exact n) (fun b o hc g=>⟨o,kk b o hc g⟩) (fun _ _ g=>zan g hn) (fun _ _ _ g=>zan g hn) (fun b ps g=>⟨#[],by rw [zan g hn]; simp⟩) (fun m hm=>?_) (fun b w g=>?_) I.bare
   ·obtain ⟨o,es,ep,ho,r⟩:=hm
    exact ⟨o,es,ep,kk _ o hL ho,r⟩
   ·by_cases hb:b = s.heap.objs.size
    ·subst hb
     rw [zad] at g
     cases g
     exact ⟨by rw [sizeLine_eq]; show 2 ≤ 16777216; decide,[.int i s.toks,u],.cons ⟨_,rfl⟩ (.cons ru .nil),⟨_,gp,rfl,_,rfl⟩⟩
    ·rw [zag hb] at g
     refine (I.hok b w g).stay (fun c v hc q=>kk c v ?_ q) (fun _ q=>zan q hn) fun _ _ q=>zan q hn
     rcases hc with t | t
     ·rw [t]; exact nit b w g
     ·exact nit c _ t
  refine ⟨.ref s.heap.objs.size,_,I2,rfl,⟨_,x,rfl,hn,rfl,fun zs hz=>by rw [I.list_inj hz hq]; exact hx⟩,⟨⟨u,by have:=b1; simpa using this⟩,a2.extBut b2.extBut ne.symm⟩,fun b hb=>?_⟩
  rw [zag (Nat.ne_of_lt (hlt b hb))]
  exact (hf b hb).1
 done:=by
  intro X hP hw hK hc i pins s σ H E I hf st hg
  subst hP hw hK
  obtain ⟨xs,hq,hor⟩:=hg
  obtain ⟨us,r1,p1,z1⟩:=I.list hq
  obtain ⟨old,ge⟩:=st.e
  have ln:=r1.length
  refine wpAny_pyNext_enum_end (I.ok.hd hc) ge st.h1 p1.isList (by simp; omega) fun h' kk=>⟨rfl,I.turnedL (t':=s.toks) (ch:=[e,it]) (fun b o hb g=>?_) hf⟩
  simp only [List.mem_cons,List.not_mem_nil,or_false,not_or] at hb
  exact kk b o hb.2 g
 self:=fun _ _ _ _ _ st h=>by
  obtain ⟨old,ge⟩:=st.e
  exact wpAny_pyIter_enum ge h
section
variable {X:Cx}
noncomputable def ziX (K:PySem.W.Frag) (ta:TA):TI:=fun σ H R=>ta σ H fun vs H1=>∃ l,vs = [.ref l]∧(∃ xs,SqL K H1 l xs)∧R (Ite K l) H1
theorem zh0 {es:List Expr} {tk:Nat} {tpos:Pos} {a:Expr} {ta:TA} {p pos:Pos} (hg:Gl X "enumerate") (hm:X.mg "enumerate" = none) (ha:PA X [a] ta) (hs:starEach [a] X.env = [(false,eval a X.env)]:=by rfl) (hs2:starEach [] X.env = []:=by rfl) :
  PI X (.Tuple es tk tpos) (.Call (.Name "enumerate" p) [a] [] pos) (ziX X.K ta):=by
 intro pins s σ H R I h
 refine Call_ (zbs I hg hm boot_enumerate (PyProof.Rows.callWith_type1 (thn (ha pos pins s σ H _ I h) fun us s1 zq_=>?_) (by rw [hs,hs2]) (by rw [hs2]; rfl)))
 obtain ⟨vs,H1,I1,r1,q1⟩:=zq_
 obtain ⟨l,rfl,⟨xs,hq⟩,q⟩:=q1
 obtain ⟨u1,rfl,ru1⟩:=zcZ r1
 cases ru1
 obtain ⟨us,rv,p1,z1⟩:=I1.list hq
 refine call_enumerate_list p1.isList fun h2 g1 g2 g3 g4=>wpAny_pyIter_enum g1 ?_
 refine ⟨_,[s1.heap.objs.size + 1,s1.heap.objs.size],_,_,H1,rfl,I1.kept (t':=s1.toks) g4,zgS _ _ l (Nat.ne_of_gt (Nat.lt_succ_self _)),⟨⟨_,g1⟩,g2⟩,fun b hb=>?_,q⟩
 have hb2:s1.heap.objs.size ≤ b:=by
  simp only [List.mem_cons,List.not_mem_nil,or_false] at hb
  rcases hb with rfl | rfl
  ·exact Nat.le_add_right _ _
  ·exact Nat.le_refl _
 exact I1.fpOk hb2 (I1.hok.fresh hb2)
end
theorem forE {K:PySem.W.Frag} {ta:TA} {g:TG} {tb:TS} {D:Ends} {σ:St} {H H1:Hp} (l:Addr) (xs:List V) (hr:∀ Q,Q [.ref l] H1->ta σ H Q) (Pv:Nat->St->Hp->Prop) (h0:Pv 0 σ H1) (hl:∀ i σ H,i ≤ xs.length->Pv i σ H->SqL K H l xs)
  (hs:∀ i x p σ H,xs[i]? = some x->Pv i σ H->H p = none->g (.ref p) σ (upd H p (.tup [.int i,x])) fun σ2 H2=>tb { D with nx:=Pv (i + 1),ct:=Pv (i + 1),bk:=D.nx } σ2 H2) (hd:∀ σ H,Pv xs.length σ H->D.nx σ H):tFor (ziX K ta) g tb D σ H:=by
 refine hr _ ⟨l,rfl,⟨xs,hl 0 σ H1 (Nat.zero_le _) h0⟩,fun i m σ H=>m = xs.length - i∧i ≤ xs.length∧Pv i σ H,⟨xs.length,by simp,Nat.zero_le _,h0⟩,?_⟩
 rintro i m σ H ⟨rfl,hi,p⟩
 have q:=hl i σ H hi p
 by_cases c:i < xs.length
 ·refine .inr ⟨⟨xs,xs[i],q,List.getElem?_eq_getElem c⟩,Pv (i + 1),fun σ' H' p'=>⟨xs.length - (i + 1),by omega,rfl,c,p'⟩,fun x H' y=>?_⟩
  obtain ⟨pp,x',rfl,hn,rfl,hx⟩:=y
  exact hs i x' pp σ H (hx xs q) p hn
 ·have e:i = xs.length:=by omega
  subst e
  exact .inl ⟨⟨xs,q,Nat.le_refl _⟩,hd _ _ p⟩
end L2
set_option Elab.async false
set_option linter.all false
set_option maxRecDepth 100000
namespace PySem
namespace F
end F
structure SetWalked (w:World) (a:Addr) (es:Array (Int × Value)) (ep:Nat) (t:SetTable):Prop where
 fits:t.fits es.size = true
 plain:t.plain = true
 led:t.led = !w.params.followText "set-order"
 rise:∀ i j,i < j->j < es.size->t.place.getD i 0 < t.place.getD j 0
theorem zcu (xs:Array Nat) (j p:Nat) (h1:∀ i,i < p->xs.getD i j < j) (h2:∀ i,p ≤ i->i < xs.size->¬ xs.getD i j < j) :
  ∀ (fuel lo hi:Nat),lo ≤ p->p ≤ hi->hi ≤ xs.size->hi - lo ≤ fuel->SetTable.below.go xs j fuel lo hi = p
 | 0,lo,hi,a,b,c,d=>by unfold SetTable.below.go; omega
 | fuel + 1,lo,hi,a,b,c,d=>by
  unfold SetTable.below.go
  by_cases e:lo < hi
  ·rw [if_pos e]
   dsimp only
   by_cases f:xs.getD ((lo + hi) / 2) j < j
   ·rw [if_pos f]
    have:(lo + hi) / 2 < p:=by
     by_cases g:(lo + hi) / 2 < p
     ·exact g
     ·exact absurd f (h2 _ (by omega) (by omega))
    exact zcu xs j p h1 h2 fuel _ _ (by omega) b c (by omega)
   ·rw [if_neg f]
    have:p ≤ (lo + hi) / 2:=by
     by_cases g:(lo + hi) / 2 < p
     ·exact absurd (h1 _ g) f
     ·omega
    exact zcu xs j p h1 h2 fuel _ _ a this (by omega) (by omega)
  ·rw [if_neg e]; omega
end PySem
namespace PySem
section
variable {prog:Program} {w:World} {A:Around} {E:Value->Shared->Prop} {s:Shared}
end
end PySem
namespace PySem
end PySem
namespace PySem
section
variable {prog:Program} {w:World} {A:Around} {E:Value->Shared->Prop} {s:Shared}
end
end PySem
namespace PySem
section
variable {prog:Program} {w:World} {A:Around} {R:Result->Shared->Prop} {I:Addr} {fp wr:List Addr} {G:Array GenState->Array GenState->Prop} {n:Nat} {P:Nat->Value->Prop} {St:Nat->Shared->Prop}
end
section
variable {prog:Program} {w:World} {A:Around} {E:Value->Shared->Prop} {s:Shared}
theorem zc1 (a:Value) {Q₁:Value->Shared->Prop}
  (h:Q₁ (.ref s.heap.objs.size) { s with heap:=s.heap.push { cls:=.type "set",dict:=none,data:=.set #[] 0 (.fresh 0 0 (!w.params.followText "set-order")) } }) :
  codeAny (model prog w) A (.call (.builtin "set.__new__") ⟨[.type "set",a],[]⟩) (wants Q₁ E) s:=by
 refine codeAny_of_tree ?_
 show wpAny _ A.in1 (do checkBuiltinCall "set.__new__" ⟨[.type "set",a],[]⟩; again (.builtin "set.__new__" ⟨[.type "set",a],[]⟩)) _ _ s
 refine wpAny_bind (wpAny_of_eq (F.newCall_set_1 a) (wpAny_pure ⟨plainId_quiet F.plain_set_new _,codeAny_builtin F.entry_set_new ?_⟩))
 rw [Around.under_plainId F.plain_set_new _]
 unfold Builtin.«set.__new__» Builtin.Frozenset.newClass
 have hsub:=sub_set_self
 obtain ⟨hp,g,d,tk,os⟩:=s
 dsimp only
 wp_walk
 refine wpAny_askSetting (wpAny_pure ?_)
 dsimp only
 simp only [newObj]
 refine wpAny_bind (wpAny_alloc (wpAny_pure ?_))
 exact wpAny_pure h
end
end PySem
namespace PySem.W
section
variable {prog:Program} {w:World} {A:Around} {E:Value->Shared->Prop} {s:Shared} {r:Addr} {Q:Bool->Shared->Prop}
end
end PySem.W
set_option Elab.async false
set_option linter.all false
set_option maxRecDepth 100000
namespace L2
open PySem PySem.Spec PyProof.Rows
noncomputable def SetO (w:World) (a:Addr) (ns:List Int):HO:=.ext fun h=>∃ es ep t ms,h.get? a = some { cls:=.type "set",data:=.set es ep t }∧SetWalked w a es ep t∧IntsAre (es.toList.map (·.2)) ms∧ms.Perm ns
section
variable {X:Cx}
end
end L2
set_option Elab.async false
set_option linter.all false
set_option maxRecDepth 100000
namespace L2
open PySem PySem.Spec PyProof.Rows
section
variable {X:Cx}
end
section
variable {X:Cx} {K:PySem.W.Frag}
end
end L2
set_option Elab.async false
set_option linter.all false
set_option maxRecDepth 100000
namespace L2
open PySem PySem.Spec PyProof.Rows
section
variable {prog:Program} {w:World} {A:Around} {E:Value->Shared->Prop} {s:Shared} {a:Addr} {D:List (Str × V)} {k:Str} {tk:Tok}
end
section
variable {X:Cx} {o i e:Expr} {pos apos cpos:Pos} {td ty:TE} {K:PySem.W.Frag}
end
end L2
set_option Elab.async false
set_option linter.all false
set_option maxRecDepth 100000
namespace L2
open PySem PySem.Spec PyProof.Rows
section
variable {X:Cx}
theorem zcv {H1 H:Hp} {D:Addr} {u:HO} (S:Same H1 H) (hD:H1 D = none):Same H1 (upd H D u):=fun q o h=>by
 rw [zag (fun e=>by rw [e,hD] at h; cases h)]
 exact S q o h
theorem zgg {α β:Type} (f:α->Option β) (xs:List α) (i:Nat) (x:α) (h:xs[i]? = some x):(xs.take (i + 1)).filterMap f = (xs.take i).filterMap f ++ (f x).toList:=by
 rw [List.take_succ,h,List.filterMap_append]
 cases e:f x <;> simp [e]
theorem ze0 {K:PySem.W.Frag} {cap:List (Option Nat)} {tl:TE} {g:TG} {tt:TT} {te:TE} {σ:St} {H H1:Hp} {Q:VK} (a:Addr) (xs:List V) (f:V->Option V) (hr:∀ Q,Q (.ref a) H1->tl σ H Q) (hq:SqL K H1 a xs) (hz:xs.length ≤ sizeLine)
  (hs:∀ x H (R:V->Hp->Prop) (N:Hp->Prop),x ∈ xs->Same H1 H->(∀ y H',f x = some y->Same H H'->R y H')->(f x = none->∀ H',Same H H'->N H')->g x (zaT cap σ) H fun σ4 H4=>tt σ4 H4 fun b H5=>if b = true then te σ4 H5 R else N H5)
  (hd:∀ D H',H1 D = none->Same H1 H'->H' D = some (.lst (xs.filterMap f))->Q (.ref D) H'):zcx cap (zhd K tl) g tt te σ H Q:=by
 refine zjo a xs hr hq (fun D i ys H2=>Same H1 H2∧H2 D = some (.lst ys)∧ys = (xs.take i).filterMap f) (fun D hD=>⟨zcv (fun _ _ h=>h) hD,zad,rfl⟩) ?_ hz ?_ ?_
 ·rintro D hD i ys H2 hi ⟨S,h2,e⟩
  refine ⟨S.seq hq,h2,?_⟩
  rw [e]
  exact Nat.le_trans (List.length_filterMap_le _ _) (by rw [List.length_take]; omega)
 ·rintro D hD i x ys H2 hx ⟨S,h2,e⟩
  refine hs x H2 _ _ (List.mem_of_getElem? hx) S (fun y H' ey S2=>⟨S2 _ _ h2,zcv (fun q o h=>S2 _ _ (S _ _ h)) hD,zad,?_⟩) (fun ey H' S2=>⟨fun q o h=>S2 _ _ (S _ _ h),S2 _ _ h2,?_⟩)
  ·rw [zgg f xs i x hx,ey,e]; rfl
  ·rw [zgg f xs i x hx,ey,e]; simp
 ·rintro D hD ys H2 ⟨S,h2,e⟩
  refine hd D H2 hD S ?_
  rw [h2,e,List.take_length]
theorem zeT {β:Type} (f:Nat->Option β) (i:Nat):(List.range (i + 1)).filterMap f = (List.range i).filterMap f ++ (f i).toList:=by
 rw [List.range_succ,List.filterMap_append]
 cases e:f i <;> simp [e]
theorem ziV {cap:List (Option Nat)} {ta:TA} {g:TG} {tt:TT} {te:TE} {σ:St} {H H1:Hp} {Q:VK} (n:Int) (f:Nat->Option V) (hr:∀ Q,Q [.int n] H1->ta σ H Q) (n0:-(2 ^ 62) ≤ n) (n1:n < 2 ^ 62) (hz:n.toNat ≤ sizeLine)
  (hs:∀ i H (R:V->Hp->Prop) (N:Hp->Prop),i < n.toNat->Same H1 H->(∀ y H',f i = some y->Same H H'->R y H')->(f i = none->∀ H',Same H H'->N H')->g (.int (0 + i)) (zaT cap σ) H fun σ4 H4=>tt σ4 H4 fun b H5=>if b = true then te σ4 H5 R else N H5)
  (hd:∀ D H',H1 D = none->Same H1 H'->H' D = some (.lst ((List.range n.toNat).filterMap f))->Q (.ref D) H'):zcx cap (zdU ta) g tt te σ H Q:=by
 refine comp1 n hr n0 n1 (fun D i ys H2=>Same H1 H2∧H2 D = some (.lst ys)∧ys = (List.range i).filterMap f) (fun D hD=>⟨zcv (fun _ _ h=>h) hD,zad,rfl⟩) ?_ hz ?_ ?_
 ·rintro D hD i ys H2 hi ⟨S,h2,e⟩
  refine ⟨h2,?_⟩
  rw [e]
  exact Nat.le_trans (List.length_filterMap_le _ _) (by rw [List.length_range]; omega)
 ·rintro D hD i ys H2 hi ⟨S,h2,e⟩
  refine hs i H2 _ _ hi S (fun y H' ey S2=>⟨S2 _ _ h2,zcv (fun q o h=>S2 _ _ (S _ _ h)) hD,zad,?_⟩) (fun ey H' S2=>⟨fun q o h=>S2 _ _ (S _ _ h),S2 _ _ h2,?_⟩)
  ·rw [zeT f i,ey,e]; rfl
  ·rw [zeT f i,ey,e]; simp
 ·rintro D hD ys H2 ⟨S,h2,e⟩
  refine hd D H2 hD S ?_
  rw [h2,e]
end
end L2
set_option Elab.async false
set_option linter.all false
set_option maxRecDepth 100000
namespace L2
open PySem PySem.Spec PyProof.Rows
section
variable {X:Cx}
end
end L2
set_option Elab.async false
set_option linter.all false
set_option maxRecDepth 100000
namespace L2
open PySem PySem.Spec PyProof.Rows
section
variable {X:Cx} {es:List Expr} {t te:TA} {s:Str} {i:Int} {j:Nat} {p:Pos}
end
section
variable {X:Cx} {e:Expr} {te:TE} {p p1 p2 pos cpos:Pos} {j:Nat} {K:PySem.W.Frag}
theorem zhL {α β:Type} {f:α->Option β} (g:α->β) (xs:List α) (h:∀ x ∈ xs,f x = some (g x)):xs.filterMap f = xs.map g:=by
 induction xs with
 | nil=>rfl
 | cons x r ih=>rw [List.filterMap_cons_some (h x List.mem_cons_self),ih fun y hy=>h y (List.mem_cons_of_mem _ hy)]; rfl
end
end L2
set_option Elab.async false
set_option linter.all false
set_option maxRecDepth 100000
namespace L2
open PySem PySem.Spec PyProof.Rows
section
variable {prog:Program} {w:World} {A:Around}
end
section
variable {X:Cx} {e:Expr} {te:TE} {p p1 p2 p3 p4 pos:Pos} {j:Nat} {K:PySem.W.Frag}
end
section
variable {X:Cx}
end
end L2
set_option Elab.async false
set_option linter.all false
set_option maxRecDepth 100000
namespace L2
open PySem PySem.Spec PyProof.Rows
theorem zbf {M:Model} {A:Around} {E:Value->Shared->Prop} {s:Shared} {a:Addr} {Q:Option Obj->Shared->Prop} (h:Q (s.heap.get? a) s):wpAny M A (loadIfAlive a) Q E s:=by
 intro Γ p hb
 show Sem.wp M Γ (Sem.loadIfAlive a Sem.pure) _ _ p s
 rw [Sem.wp_loadIfAlive]
 exact h
section
variable {prog:Program} {w:World} {A:Around}
theorem zgN {E:Value->Shared->Prop} {s:Shared} {Q:Value->Shared->Prop} {a b:Value} {oI oJ:Obj} (fI:oI.isFreed = false) (fJ:oJ.isFreed = false)
  (ha:∀ (A:Around) (E:Value->Shared->Prop) (Q:Value->Shared->Prop),Q (.ref s.heap.objs.size) { s with heap:=s.heap.push oI }->wpAny (model prog w) A (pyIter a) Q E s)
  (hb:∀ (A:Around) (E:Value->Shared->Prop) (Q:Value->Shared->Prop),Q (.ref (s.heap.push oI).objs.size) { s with heap:=(s.heap.push oI).push oJ }->wpAny (model prog w) A (pyIter b) Q E { s with heap:=s.heap.push oI })
  (h:∀ (i j ti to z:Addr) (h':Heap),i = s.heap.objs.size->j = (s.heap.push oI).objs.size->(∀ c o,s.heap.get? c = some o->h'.get? c = some o)->h'.get? i = some oI->h'.get? j = some oJ->s.heap.get? i = none->s.heap.get? j = none->s.heap.get? ti = none->s.heap.get? to = none->s.heap.get? z = none->IsPair h' ti (.ref i) (.ref j)->IsPair h' to .none .none->IsZip h' z ti to .none->[i,j,ti,to,z].Nodup->Q (.ref z) { s with heap:=h' }) :
  wpAny (model prog w) A (call (.type "zip") [a,b]) Q E s:=by
 refine callType_newIn (newId:="zip.__new__") (S:=fun A R s'=>s' = s∧∀ z h',(∃ o,Heap.get? h' z = some o∧o.cls = .type "zip")->Q (.ref z) { s with heap:=h' }->R (.ok (.ret (.ref z))) { s with heap:=h' }) PySem.F.called_zip (by decide) (by rfl) (PySem.F.newCall_zip_2 _ _) (fun obj=>by rfl) PySem.F.entry_zip_new (fun A R s' hS=>?_) ?_
 ·obtain ⟨rfl,hR⟩:=hS
  refine wpAny_bind ?_
  refine wpAny_bind (m:=isType (.type "zip")) (wpAny_pure (a:=true) ?_)
  refine wpAny_bind (m:=isSubtype (.type "zip") (.type "zip")) ?_
  rw [PySem.F.called_zip.sub]
  refine wpAny_pure (wpAny_pure ?_)
  refine wpAny_bind (m:=Builtin.SmallTypes.iterAll [a,b]) ?_
  refine wpAny_bind ?_
  refine wpAny_bind ?_
  refine wpAny_bind (wpAny_holding (ha _ _ _ (wpAny_pure ?_)))
  refine wpAny_bind ?_
  refine wpAny_bind (wpAny_holding (hb _ _ _ (wpAny_pure ?_)))
  refine wpAny_pure (wpAny_pure ?_)
  refine wpAny_bind (wpAny_newTuple ?_ (by simp [sizeLine_eq]))
  refine wpAny_bind (wpAny_newTuple ?_ (by simp [sizeLine_eq]))
  refine wpAny_bind ?_
  refine wpAny_bind (m:=alloc _) (wpAny_alloc (wpAny_pure (wpAny_pure ?_)))
  obtain ⟨h1,e1⟩:∃ h1,h1 = s'.heap.push oI:=⟨_,rfl⟩
  obtain ⟨h2,e2⟩:∃ h2,h2 = h1.push oJ:=⟨_,rfl⟩
  obtain ⟨h3,e3⟩:∃ h3,h3 = h2.push { cls:=.type "tuple",data:=.seq #[.ref s'.heap.objs.size,.ref h1.objs.size] }:=⟨_,rfl⟩
  obtain ⟨h4,e4⟩:∃ h4,h4 = h3.push { cls:=.type "tuple",data:=.seq #[.none,.none] }:=⟨_,rfl⟩
  obtain ⟨h5,e5⟩:∃ h5,h5 = h4.push { cls:=.type "zip",data:=.fields #[.none,.bool false,.bool false,.ref h2.objs.size,.ref h3.objs.size] }:=⟨_,rfl⟩
  have k1:∀ c o,s'.heap.get? c = some o->h1.get? c = some o:=fun c o q=>by rw [e1]; exact Heap.get?_push_of_some _ q
  have k2:∀ c o,h1.get? c = some o->h2.get? c = some o:=fun c o q=>by rw [e2]; exact Heap.get?_push_of_some _ q
  have k3:∀ c o,h2.get? c = some o->h3.get? c = some o:=fun c o q=>by rw [e3]; exact Heap.get?_push_of_some _ q
  have k4:∀ c o,h3.get? c = some o->h4.get? c = some o:=fun c o q=>by rw [e4]; exact Heap.get?_push_of_some _ q
  have k5:∀ c o,h4.get? c = some o->h5.get? c = some o:=fun c o q=>by rw [e5]; exact Heap.get?_push_of_some _ q
  have g1:h1.get? s'.heap.objs.size = some oI:=by rw [e1]; exact Heap.get?_push_size _ fI
  have g2:h2.get? h1.objs.size = some oJ:=by rw [e2]; exact Heap.get?_push_size _ fJ
  have g3:h3.get? h2.objs.size = some { cls:=.type "tuple",data:=.seq #[.ref s'.heap.objs.size,.ref h1.objs.size] }:=by rw [e3]; exact Heap.get?_push_size _ rfl
  have g4:h4.get? h3.objs.size = some { cls:=.type "tuple",data:=.seq #[.none,.none] }:=by rw [e4]; exact Heap.get?_push_size _ rfl
  have g5:h5.get? h4.objs.size = some { cls:=.type "zip",data:=.fields #[.none,.bool false,.bool false,.ref h2.objs.size,.ref h3.objs.size] }:=by rw [e5]; exact Heap.get?_push_size _ rfl
  have l1:=Heap.lt_size g1
  have l2:=Heap.lt_size g2
  have l3:=Heap.lt_size g3
  have l4:=Heap.lt_size g4
  have no:∀ c,s'.heap.objs.size ≤ c->s'.heap.get? c = none:=fun c hc=>by
   cases q:s'.heap.get? c with
   | none=>rfl
   | some o=>exact absurd (Nat.lt_of_lt_of_le (Heap.lt_size q) hc) (Nat.lt_irrefl _)
  have fin5:R (.ok (.ret (.ref h4.objs.size))) { s' with heap:=h5 }:=by
   refine hR _ _ ⟨_,g5,rfl⟩ (h s'.heap.objs.size h1.objs.size h2.objs.size h3.objs.size h4.objs.size h5 rfl (by rw [e1]) (fun c o q=>k5 _ _ (k4 _ _ (k3 _ _ (k2 _ _ (k1 _ _ q))))) (k5 _ _ (k4 _ _ (k3 _ _ (k2 _ _ g1)))) (k5 _ _ (k4 _ _ (k3 _ _ g2))) (no _ (Nat.le_refl _)) (no _ (Nat.le_of_lt l1)) (no _ (Nat.le_of_lt (Nat.lt_trans l1 l2))) (no _ (Nat.le_of_lt (Nat.lt_trans l1 (Nat.lt_trans l2 l3)))) (no _ (Nat.le_of_lt (Nat.lt_trans l1 (Nat.lt_trans l2 (Nat.lt_trans l3 l4))))) (k5 _ _ (k4 _ _ g3)) (k5 _ _ g4) g5 ?_)
   have l1':s'.heap.objs.size < h1.objs.size:=l1
   have l2':h1.objs.size < h2.objs.size:=l2
   have l3':h2.objs.size < h3.objs.size:=l3
   have l4':h3.objs.size < h4.objs.size:=l4
   simp only [List.nodup_cons,List.mem_cons,List.not_mem_nil,or_false,not_false_eq_true,List.nodup_nil,and_true,not_or]
   refine ⟨⟨?_,?_,?_,?_⟩,⟨?_,?_,?_⟩,⟨?_,?_⟩,?_⟩ <;> intro z <;> have z':(_:Nat) = _:=z <;> omega
  subst e5
  subst e4
  subst e3
  subst e2
  subst e1
  exact fin5
 ·refine ⟨rfl,fun z h' ⟨o,e1,e2⟩ hq=>⟨⟨o,e1,e2⟩,hq⟩⟩
structure NxSrc (prog:Program) (w:World) (I d:Addr) (n:Nat) (P:Nat->Value->Prop) (St:Nat->Heap->Prop):Prop where
 item:∀ (A:Around) (E:Value->Shared->Prop) (s:Shared) (Q:Value->Shared->Prop) (i:Nat),i < n->St i s.heap->(∀ v h' tk,P i v->St (i + 1) h'->Heap.SameBut I s.heap h'->Q v { s with heap:=h',toks:=tk })->wpAny (model prog w) A (Builtin.SmallTypes.nextOf (.ref I)) Q E s
 done:∀ (A:Around) (E:Value->Shared->Prop) (s:Shared) (Q:Value->Shared->Prop),A.handled = none->St n s.heap->(∀ h' e,Heap.ExtBut I s.heap h'->(∃ o,h'.get? e = some o∧o.cls = .type "StopIteration")->E (.ref e) { s with heap:=h' })->wpAny (model prog w) A (Builtin.SmallTypes.nextOf (.ref I)) Q E s
 there:∀ (i:Nat) (h:Heap),St i h->∃ o,h.get? I = some o
 frame:∀ (i:Nat) (h h':Heap),St i h->(∀ b o,b = I ∨ b = d->h.get? b = some o->h'.get? b = some o)->St i h'
noncomputable def ZAt (h:Heap) (z ti to:Addr):Prop:=∃ (f0:Value) (f1:Bool),h.get? z = some { cls:=.type "zip",data:=.fields #[f0,.bool f1,.bool false,.ref ti,.ref to] }∧(f0 = .none ∨ ∃ (a:Addr) (o:Obj),f0 = rawInt a∧h.get? a = some o)
set_option maxHeartbeats 2000000 in
theorem zeS {E:Value->Shared->Prop} {s:Shared} {Q:Option Value->Shared->Prop} {z ti to i j d1 d2:Addr} {a b:Value} {n k:Nat} {P1 P2:Nat->Value->Prop} {S1 S2:Nat->Heap->Prop}
  (N1:NxSrc prog w i d1 n P1 S1) (N2:NxSrc prog w j d2 n P2 S2) (ap:[i,j,ti,to,z].Nodup) (n1:d1 ∉ [j,to,z]) (n2:d2 ∉ [i,to,z])
  (hz:ZAt s.heap z ti to) (ht:IsPair s.heap ti (.ref i) (.ref j)) (ho:IsPair s.heap to a b) (kn:k < n) (h1:S1 k s.heap) (h2:S2 k s.heap)
  (h:∀ (r:Addr) (v u a' b':Value) (h':Heap) (tk:Nat),P1 k v->P2 k u->s.heap.get? r = none->IsPair h' r v u->ZAt h' z ti to->IsPair h' to a' b'->S1 (k + 1) h'->S2 (k + 1) h'->(∀ c o,c ∉ [z,to,i,j]->s.heap.get? c = some o->h'.get? c = some o)->Q (some (.ref r)) { s with heap:=h',toks:=tk }) :
  wpAny (model prog w) A (pyNext (.ref z)) Q E s:=by
 obtain ⟨f0,f1,ez,hf⟩:=hz
 refine wpAny_bind (wpAny_attempt ?_)
 refine wpAny_callSpecial?_slot (T:="zip") ⟨_,ez,rfl⟩ PySem.F.slot_zip_next ?_
 refine wpAny_call_entry PySem.F.slot_zip_next ⟨_,ez,rfl⟩ PySem.F.entry_zip_next ?_ (PySem.F.args_zip_next_1 _)
 refine wpAny_bind (m:=slotArgs "__next__" 0 _) (wpAny_pure (a:=(Value.ref z,[])) ?_)
 refine wpAny_bind (wpAny_field ez rfl rfl ?_)
 refine wpAny_bind (wpAny_field ez rfl rfl ?_)
 refine wpAny_bind (m:=seqItems? (.ref ti)) (wpAny_bind (wpAny_load ht (wpAny_pure ?_)))
 simp only [List.nodup_cons,List.mem_cons,List.not_mem_nil,or_false,not_or,not_false_eq_true,List.nodup_nil,and_true] at ap n1 n2
 obtain ⟨⟨nij,niti,nito,niz⟩,⟨njti,njto,njz⟩,⟨ntito,ntiz⟩,ntoz⟩:=ap
 obtain ⟨m1,m2,m3⟩:=n1
 obtain ⟨p1,p2,p3⟩:=n2
 rcases hf with rfl | ⟨aa,oo,rfl,ha⟩
 ·refine wpAny_bind (m:=Builtin.SmallTypes.ownedTupleIsFree (.ref z)) (wpAny_bind (wpAny_field ez rfl rfl (wpAny_pure ?_)))
  refine wpAny_bind (wpAny_rule ?_)
  refine wpAny_bind (wpAny_field ez rfl rfl ?_)
  refine wpAny_bind (wpAny_setField ez rfl (by simp) ?_)
  have kA:∀ c,c ≠ z->(s.heap.update z (Obj.mapFields fun x=>x.setIfInBounds 0 Value.ellipsis)).get? c = s.heap.get? c:=fun c hc=>Heap.get?_update_other _ _ (Ne.symm hc)
  have zA:(s.heap.update z (Obj.mapFields fun x=>x.setIfInBounds 0 Value.ellipsis)).get? z = some { cls:=.type "zip",data:=.fields #[.ellipsis,.bool f1,.bool false,.ref ti,.ref to] }:=Heap.get?_update_self _ ez rfl
  have szA:(s.heap.update z (Obj.mapFields fun x=>x.setIfInBounds 0 Value.ellipsis)).objs.size = s.heap.objs.size:=Heap.size_update _ _ _
  revert kA zA szA
  generalize s.heap.update z (Obj.mapFields fun x=>x.setIfInBounds 0 Value.ellipsis) = hA
  intro kA zA szA
  have s1A:S1 k hA:=N1.frame k s.heap hA h1 fun b o hb q=>by
   rw [kA b (by rcases hb with rfl | rfl; exact niz; exact m3)]; exact q
  have s2A:S2 k hA:=N2.frame k s.heap hA h2 fun b o hb q=>by
   rw [kA b (by rcases hb with rfl | rfl; exact njz; exact p3)]; exact q
  have oA:IsPair hA to a b:=by show hA.get? to = _; rw [kA to ntoz]; exact ho
  refine wpAny_bind ?_
  refine wpAny_bind ?_
  refine wpAny_bind (wpAny_onRaise ?_)
  refine wpAny_bind (N1.item _ _ _ _ k kn s1A fun v hB tk pv s1B sb=>wpAny_pure ?_)
  have oB:IsPair hB to a b:=by show hB.get? to = _; rw [sb.2 to (Ne.symm nito)]; exact oA
  have zB:=(sb.2 z (Ne.symm niz)).trans zA
  have s2B:S2 k hB:=N2.frame k hA hB s2A fun b o hb q=>by
   rw [sb.2 b (by rcases hb with rfl | rfl; exact Ne.symm nij; exact p1)]; exact q
  refine wpAny_bind (m:=seqItems? (.ref to)) (wpAny_bind (wpAny_load oB (wpAny_pure ?_)))
  refine wpAny_bind (wpAny_updateSeq oB rfl ?_ (by simp [sizeLine_eq]) (by simp [sizeLine_eq]))
  refine wpAny_bind (wpAny_letGo (wpAny_pure ?_))
  have kC:∀ c,c ≠ to->(hB.update to (Obj.mapSeq fun x=>x.setIfInBounds 0 v)).get? c = hB.get? c:=fun c hc=>Heap.get?_update_other _ _ (Ne.symm hc)
  have oC:IsPair (hB.update to (Obj.mapSeq fun x=>x.setIfInBounds 0 v)) to v b:=get?_update_seq (c:="tuple") (n:=0) oB (fun x=>x.setIfInBounds 0 v)
  have szC:(hB.update to (Obj.mapSeq fun x=>x.setIfInBounds 0 v)).objs.size = hB.objs.size:=Heap.size_update _ _ _
  dsimp only
  revert kC oC szC
  generalize hB.update to (Obj.mapSeq fun x=>x.setIfInBounds 0 v) = hC
  intro kC oC szC
  have s1C:S1 (k + 1) hC:=N1.frame _ hB hC s1B fun b o hb q=>by
   rw [kC b (by rcases hb with rfl | rfl; exact nito; exact m2)]; exact q
  have s2C:S2 k hC:=N2.frame _ hB hC s2B fun b o hb q=>by
   rw [kC b (by rcases hb with rfl | rfl; exact njto; exact p2)]; exact q
  have zC:=(kC z (Ne.symm ntoz)).trans zB
  refine wpAny_bind ?_
  refine wpAny_bind (wpAny_onRaise ?_)
  refine wpAny_bind (N2.item _ _ _ _ k kn s2C fun u hD tk2 pu s2D sd=>wpAny_pure ?_)
  have oD:IsPair hD to v b:=by show hD.get? to = _; rw [sd.2 to (Ne.symm njto)]; exact oC
  have zD:=(sd.2 z (Ne.symm njz)).trans zC
  have s1D:S1 (k + 1) hD:=N1.frame _ hC hD s1C fun b o hb q=>by
   rw [sd.2 b (by rcases hb with rfl | rfl; exact nij; exact m1)]; exact q
  refine wpAny_bind (m:=seqItems? (.ref to)) (wpAny_bind (wpAny_load oD (wpAny_pure ?_)))
  refine wpAny_bind (wpAny_updateSeq oD rfl ?_ (by simp [sizeLine_eq]) (by simp [sizeLine_eq]))
  refine wpAny_bind (wpAny_letGo (wpAny_pure ?_))
  have kE:∀ c,c ≠ to->(hD.update to (Obj.mapSeq fun x=>x.setIfInBounds 1 u)).get? c = hD.get? c:=fun c hc=>Heap.get?_update_other _ _ (Ne.symm hc)
  have oE:IsPair (hD.update to (Obj.mapSeq fun x=>x.setIfInBounds 1 u)) to v u:=get?_update_seq (c:="tuple") (n:=0) oD (fun x=>x.setIfInBounds 1 u)
  have szE:(hD.update to (Obj.mapSeq fun x=>x.setIfInBounds 1 u)).objs.size = hD.objs.size:=Heap.size_update _ _ _
  dsimp only
  revert kE oE szE
  generalize hD.update to (Obj.mapSeq fun x=>x.setIfInBounds 1 u) = hE
  intro kE oE szE
  have zE:=(kE z (Ne.symm ntoz)).trans zD
  refine wpAny_pure ?_
  refine wpAny_bind (m:=seqItems? (.ref to)) (wpAny_bind (wpAny_load oE (wpAny_pure ?_)))
  refine wpAny_bind (wpAny_newTuple ?_ (by simp [sizeLine_eq]))
  obtain ⟨hF,eF⟩:∃ hF,hF = hE.push { cls:=.type "tuple",data:=.seq #[v,u] }:=⟨_,rfl⟩
  have kF:∀ c o,hE.get? c = some o->hF.get? c = some o:=fun c o q=>by rw [eF]; exact Heap.get?_push_of_some _ q
  have rF:hF.get? hE.objs.size = some { cls:=.type "tuple",data:=.seq #[v,u] }:=by rw [eF]; exact Heap.get?_push_size _ rfl
  show wpAny _ _ _ _ _ { s with heap:=hE.push { cls:=.type "tuple",data:=.seq #[v,u] },toks:=tk2 }
  rw [← eF]
  have zF:=kF _ _ zE
  refine wpAny_bind (m:=Builtin.SmallTypes.ownedTupleHandOut (.ref z) (.ref hE.objs.size)) (wpAny_bind (wpAny_setField zF rfl (by simp) ?_))
  have zG:(hF.update z (Obj.mapFields fun x=>x.setIfInBounds 0 (rawInt hE.objs.size))).get? z = some { cls:=.type "zip",data:=.fields #[rawInt hE.objs.size,.bool f1,.bool false,.ref ti,.ref to] }:=Heap.get?_update_self _ zF rfl
  have kG:∀ c,c ≠ z->(hF.update z (Obj.mapFields fun x=>x.setIfInBounds 0 (rawInt hE.objs.size))).get? c = hF.get? c:=fun c hc=>Heap.get?_update_other _ _ (Ne.symm hc)
  dsimp only
  revert zG kG
  generalize hF.update z (Obj.mapFields fun x=>x.setIfInBounds 0 (rawInt hE.objs.size)) = hG
  intro zG kG
  refine wpAny_setField zG rfl (by simp) ?_
  have zK:(hG.update z (Obj.mapFields fun x=>x.setIfInBounds 1 (.bool false))).get? z = some { cls:=.type "zip",data:=.fields #[rawInt hE.objs.size,.bool false,.bool false,.ref ti,.ref to] }:=Heap.get?_update_self _ zG rfl
  have kK:∀ c,c ≠ z->(hG.update z (Obj.mapFields fun x=>x.setIfInBounds 1 (.bool false))).get? c = hG.get? c:=fun c hc=>Heap.get?_update_other _ _ (Ne.symm hc)
  dsimp only
  revert zK kK
  generalize hG.update z (Obj.mapFields fun x=>x.setIfInBounds 1 (.bool false)) = hK
  intro zK kK
  have nrz:hE.objs.size ≠ z:=fun e=>by
   have:=Heap.lt_size zE
   rw [← e] at this
   exact Nat.lt_irrefl _ this
  have rK:hK.get? hE.objs.size = some { cls:=.type "tuple",data:=.seq #[v,u] }:=by rw [kK _ nrz,kG _ nrz]; exact rF
  refine wpAny_pure ⟨_,rfl,wpAny_pure ?_⟩
  have kAll:∀ c o,c ≠ z->hE.get? c = some o->hK.get? c = some o:=fun c o hc q=>by rw [kK c hc,kG c hc]; exact kF c o q
  have sz0:hE.objs.size = s.heap.objs.size:=by rw [szE,sd.1,szC,sb.1,szA]
  refine h hE.objs.size v u v u hK tk2 pv pu ?_ rK ⟨_,false,zK,.inr ⟨hE.objs.size,_,rfl,rK⟩⟩ (kAll to _ (ntoz) oE) ?_ ?_ ?_
  ·rw [sz0]
   cases q:s.heap.get? s.heap.objs.size with
   | none=>rfl
   | some o=>exact absurd (Heap.lt_size q) (Nat.lt_irrefl _)
  ·refine N1.frame _ hD hK s1D fun b o hb q=>kAll b o ?_ ?_
   ·rcases hb with rfl | rfl
    ·exact niz
    ·exact m3
   ·rw [kE b (by rcases hb with rfl | rfl; exact nito; exact m2)]; exact q
  ·refine N2.frame _ hD hK s2D fun b o hb q=>kAll b o ?_ ?_
   ·rcases hb with rfl | rfl
    ·exact njz
    ·exact p3
   ·rw [kE b (by rcases hb with rfl | rfl; exact njto; exact p2)]; exact q
  ·intro c o hc q
   simp only [List.mem_cons,List.not_mem_nil,or_false,not_or] at hc
   refine kAll c o hc.1 ?_
   rw [kE c hc.2.1,sd.2 c hc.2.2.2,kC c hc.2.1,sb.2 c hc.2.2.1,kA c hc.1]
   exact q
 ·refine wpAny_bind (m:=Builtin.SmallTypes.ownedTupleIsFree (.ref z)) (wpAny_bind (wpAny_field ez rfl rfl ?_))
  refine wpAny_bind (zbf ?_)
  rw [show ((aa:Int)).toNat = aa from rfl,ha]
  refine wpAny_bind (m:=field (.ref z) 1) (wpAny_field ez rfl rfl ?_)
  cases f1 with
  | true =>
   refine wpAny_pure ?_
   have zA:s.heap.get? z = some { cls:=.type "zip",data:=.fields #[rawInt aa,.bool true,.bool false,.ref ti,.ref to] }:=ez
   have kA:∀ c,c ≠ z->s.heap.get? c = s.heap.get? c:=fun _ _=>rfl
   have szA:s.heap.objs.size = s.heap.objs.size:=rfl
   have s1A:=h1
   have s2A:=h2
   refine wpAny_bind ?_
   refine wpAny_bind ?_
   refine wpAny_bind (wpAny_holding ?_)
   refine wpAny_bind (N1.item _ _ _ _ k kn s1A fun v hB tk pv s1B sb=>wpAny_pure (wpAny_pure ?_))
   have s2B:S2 k hB:=N2.frame k _ hB s2A fun b o hb q=>by
    rw [sb.2 b (by rcases hb with rfl | rfl; exact Ne.symm nij; exact p1)]; exact q
   refine wpAny_bind ?_
   refine wpAny_bind (wpAny_holding ?_)
   refine wpAny_bind (N2.item _ _ _ _ k kn s2B fun u hD tk2 pu s2D sd=>wpAny_pure (wpAny_pure ?_))
   have s1D:S1 (k + 1) hD:=N1.frame _ hB hD s1B fun b o hb q=>by
    rw [sd.2 b (by rcases hb with rfl | rfl; exact nij; exact m1)]; exact q
   refine wpAny_pure ?_
   refine wpAny_bind (wpAny_newTuple ?_ (by simp [sizeLine_eq]))
   refine wpAny_pure ⟨_,rfl,wpAny_pure ?_⟩
   have kD:∀ c,c ≠ z->c ≠ i->c ≠ j->hD.get? c = s.heap.get? c:=fun c h1 h2 h3=>(sd.2 c h3).trans ((sb.2 c h2).trans (kA c h1))
   have zD:=(sd.2 z (Ne.symm njz)).trans ((sb.2 z (Ne.symm niz)).trans zA)
   have szD:hD.objs.size = s.heap.objs.size:=sd.1.trans (sb.1.trans szA)
   obtain ⟨hF,eF⟩:∃ hF,hF = hD.push { cls:=.type "tuple",data:=.seq #[v,u] }:=⟨_,rfl⟩
   have kF:∀ c o,hD.get? c = some o->hF.get? c = some o:=fun c o q=>by rw [eF]; exact Heap.get?_push_of_some _ q
   have rF:hF.get? hD.objs.size = some { cls:=.type "tuple",data:=.seq #[v,u] }:=by rw [eF]; exact Heap.get?_push_size _ rfl
   have aD:∃ o,hD.get? aa = some o:=by
    by_cases e1:aa = z
    ·rw [e1]; exact ⟨_,zD⟩
    ·by_cases e2:aa = i
     ·rw [e2,sd.2 i nij]; exact N1.there _ _ s1B
     ·by_cases e3:aa = j
      ·rw [e3]; exact N2.there _ _ s2D
      ·exact ⟨oo,by rw [kD aa e1 e2 e3]; exact ha⟩
   obtain ⟨o2,ho2⟩:=aD
   show Q _ { s with heap:=hD.push { cls:=.type "tuple",data:=.seq #[v,u] },toks:=tk2 }
   rw [← eF]
   refine h hD.objs.size v u a b hF tk2 pv pu ?_ rF ⟨_,_,kF _ _ zD,.inr ⟨aa,o2,rfl,kF _ _ ho2⟩⟩ ?_ ?_ ?_ ?_
   ·rw [szD]
    cases q:s.heap.get? s.heap.objs.size with
    | none=>rfl
    | some o=>exact absurd (Heap.lt_size q) (Nat.lt_irrefl _)
   ·exact kF _ _ (by rw [kD to ntoz (Ne.symm nito) (Ne.symm njto)]; exact ho)
   ·exact N1.frame _ hD hF s1D fun b o _ q=>kF b o q
   ·exact N2.frame _ hD hF s2D fun b o _ q=>kF b o q
   ·intro c o hc q
    simp only [List.mem_cons,List.not_mem_nil,or_false,not_or] at hc
    exact kF c o (by rw [kD c hc.1 hc.2.2.1 hc.2.2.2]; exact q)
  | false =>
   refine wpAny_bind (wpAny_setField ez rfl (by simp) (wpAny_pure ?_))
   have kA:∀ c,c ≠ z->(s.heap.update z (Obj.mapFields fun x=>x.setIfInBounds 1 (.bool true))).get? c = s.heap.get? c:=fun c hc=>Heap.get?_update_other _ _ (Ne.symm hc)
   have zA:(s.heap.update z (Obj.mapFields fun x=>x.setIfInBounds 1 (.bool true))).get? z = some { cls:=.type "zip",data:=.fields #[rawInt aa,.bool true,.bool false,.ref ti,.ref to] }:=Heap.get?_update_self _ ez rfl
   have szA:(s.heap.update z (Obj.mapFields fun x=>x.setIfInBounds 1 (.bool true))).objs.size = s.heap.objs.size:=Heap.size_update _ _ _
   dsimp only
   revert kA zA szA
   generalize s.heap.update z (Obj.mapFields fun x=>x.setIfInBounds 1 (.bool true)) = hA
   intro kA zA szA
   have s1A:S1 k hA:=N1.frame k s.heap hA h1 fun b o hb q=>by
    rw [kA b (by rcases hb with rfl | rfl; exact niz; exact m3)]; exact q
   have s2A:S2 k hA:=N2.frame k s.heap hA h2 fun b o hb q=>by
    rw [kA b (by rcases hb with rfl | rfl; exact njz; exact p3)]; exact q
   refine wpAny_bind ?_
   refine wpAny_bind ?_
   refine wpAny_bind (wpAny_holding ?_)
   refine wpAny_bind (N1.item _ _ _ _ k kn s1A fun v hB tk pv s1B sb=>wpAny_pure (wpAny_pure ?_))
   have s2B:S2 k hB:=N2.frame k _ hB s2A fun b o hb q=>by
    rw [sb.2 b (by rcases hb with rfl | rfl; exact Ne.symm nij; exact p1)]; exact q
   refine wpAny_bind ?_
   refine wpAny_bind (wpAny_holding ?_)
   refine wpAny_bind (N2.item _ _ _ _ k kn s2B fun u hD tk2 pu s2D sd=>wpAny_pure (wpAny_pure ?_))
   have s1D:S1 (k + 1) hD:=N1.frame _ hB hD s1B fun b o hb q=>by
    rw [sd.2 b (by rcases hb with rfl | rfl; exact nij; exact m1)]; exact q
   refine wpAny_pure ?_
   refine wpAny_bind (wpAny_newTuple ?_ (by simp [sizeLine_eq]))
   refine wpAny_pure ⟨_,rfl,wpAny_pure ?_⟩
   have kD:∀ c,c ≠ z->c ≠ i->c ≠ j->hD.get? c = s.heap.get? c:=fun c h1 h2 h3=>(sd.2 c h3).trans ((sb.2 c h2).trans (kA c h1))
   have zD:=(sd.2 z (Ne.symm njz)).trans ((sb.2 z (Ne.symm niz)).trans zA)
   have szD:hD.objs.size = s.heap.objs.size:=sd.1.trans (sb.1.trans szA)
   obtain ⟨hF,eF⟩:∃ hF,hF = hD.push { cls:=.type "tuple",data:=.seq #[v,u] }:=⟨_,rfl⟩
   have kF:∀ c o,hD.get? c = some o->hF.get? c = some o:=fun c o q=>by rw [eF]; exact Heap.get?_push_of_some _ q
   have rF:hF.get? hD.objs.size = some { cls:=.type "tuple",data:=.seq #[v,u] }:=by rw [eF]; exact Heap.get?_push_size _ rfl
   have aD:∃ o,hD.get? aa = some o:=by
    by_cases e1:aa = z
    ·rw [e1]; exact ⟨_,zD⟩
    ·by_cases e2:aa = i
     ·rw [e2,sd.2 i nij]; exact N1.there _ _ s1B
     ·by_cases e3:aa = j
      ·rw [e3]; exact N2.there _ _ s2D
      ·exact ⟨oo,by rw [kD aa e1 e2 e3]; exact ha⟩
   obtain ⟨o2,ho2⟩:=aD
   show Q _ { s with heap:=hD.push { cls:=.type "tuple",data:=.seq #[v,u] },toks:=tk2 }
   rw [← eF]
   refine h hD.objs.size v u a b hF tk2 pv pu ?_ rF ⟨_,_,kF _ _ zD,.inr ⟨aa,o2,rfl,kF _ _ ho2⟩⟩ ?_ ?_ ?_ ?_
   ·rw [szD]
    cases q:s.heap.get? s.heap.objs.size with
    | none=>rfl
    | some o=>exact absurd (Heap.lt_size q) (Nat.lt_irrefl _)
   ·exact kF _ _ (by rw [kD to ntoz (Ne.symm nito) (Ne.symm njto)]; exact ho)
   ·exact N1.frame _ hD hF s1D fun b o _ q=>kF b o q
   ·exact N2.frame _ hD hF s2D fun b o _ q=>kF b o q
   ·intro c o hc q
    simp only [List.mem_cons,List.not_mem_nil,or_false,not_or] at hc
    exact kF c o (by rw [kD c hc.1 hc.2.2.1 hc.2.2.2]; exact q)
theorem zcT {E:Value->Shared->Prop} {s:Shared} {Q:Option Value->Shared->Prop} {e:Addr} (he:∃ o,s.heap.get? e = some o∧o.cls = .type "StopIteration") (q:Q none s) :
  wpAny (model prog w) A (do
   let b ← isInstance (.ref e) (.type "StopIteration")
   if b = true then pure none else throw (.ref e)) Q E s:=by
 refine wpAny_bind (wpAny_isInstance (T:="StopIteration") (b:=true) he (by rfl) ?_)
 rw [if_pos rfl]
 exact wpAny_pure q
set_option maxHeartbeats 2000000 in
theorem zeV {E:Value->Shared->Prop} {s:Shared} {Q:Option Value->Shared->Prop} {z ti to i j d1:Addr} {n:Nat} {P1:Nat->Value->Prop} {S1:Nat->Heap->Prop} (hh:A.handled = none)
  (N1:NxSrc prog w i d1 n P1 S1) (niz:i ≠ z) (m3:d1 ≠ z)
  (hz:ZAt s.heap z ti to) (ht:IsPair s.heap ti (.ref i) (.ref j)) (h1:S1 n s.heap)
  (h:∀ (h':Heap),(∀ c o,c ∉ [z,to,i,j]->s.heap.get? c = some o->h'.get? c = some o)->Q none { s with heap:=h' }) :
  wpAny (model prog w) A (pyNext (.ref z)) Q E s:=by
 obtain ⟨f0,f1,ez,hf⟩:=hz
 refine wpAny_bind (wpAny_attempt ?_)
 refine wpAny_callSpecial?_slot (T:="zip") ⟨_,ez,rfl⟩ PySem.F.slot_zip_next ?_
 refine wpAny_call_entry PySem.F.slot_zip_next ⟨_,ez,rfl⟩ PySem.F.entry_zip_next ?_ (PySem.F.args_zip_next_1 _)
 refine wpAny_bind (m:=slotArgs "__next__" 0 _) (wpAny_pure (a:=(Value.ref z,[])) ?_)
 refine wpAny_bind (wpAny_field ez rfl rfl ?_)
 refine wpAny_bind (wpAny_field ez rfl rfl ?_)
 refine wpAny_bind (m:=seqItems? (.ref ti)) (wpAny_bind (wpAny_load ht (wpAny_pure ?_)))
 rcases hf with rfl | ⟨aa,oo,rfl,ha⟩
 ·refine wpAny_bind (m:=Builtin.SmallTypes.ownedTupleIsFree (.ref z)) (wpAny_bind (wpAny_field ez rfl rfl (wpAny_pure ?_)))
  refine wpAny_bind (wpAny_rule ?_)
  refine wpAny_bind (wpAny_field ez rfl rfl ?_)
  refine wpAny_bind (wpAny_setField ez rfl (by simp) ?_)
  have kA:∀ c,c ≠ z->(s.heap.update z (Obj.mapFields fun x=>x.setIfInBounds 0 Value.ellipsis)).get? c = s.heap.get? c:=fun c hc=>Heap.get?_update_other _ _ (Ne.symm hc)
  have zA:(s.heap.update z (Obj.mapFields fun x=>x.setIfInBounds 0 Value.ellipsis)).get? z = some { cls:=.type "zip",data:=.fields #[.ellipsis,.bool f1,.bool false,.ref ti,.ref to] }:=Heap.get?_update_self _ ez rfl
  dsimp only
  revert kA zA
  generalize s.heap.update z (Obj.mapFields fun x=>x.setIfInBounds 0 Value.ellipsis) = hA
  intro kA zA
  have s1A:S1 n hA:=N1.frame n s.heap hA h1 fun b o hb q=>by
   rw [kA b (by rcases hb with rfl | rfl; exact niz; exact m3)]; exact q
  refine wpAny_bind ?_
  refine wpAny_bind ?_
  refine wpAny_bind (wpAny_onRaise ?_)
  refine wpAny_bind (N1.done _ _ _ _ (show A.in1.handled = none from hh) s1A fun hB e he zq_=>?_)
  obtain ⟨o,g,c⟩:=zq_
  have zB:=he z _ (Ne.symm niz) zA
  refine wpAny_setField zB rfl (by simp) ?_
  have kC:∀ c,c ≠ z->(hB.update z (Obj.mapFields fun x=>x.setIfInBounds 0 Value.none)).get? c = hB.get? c:=fun c hc=>Heap.get?_update_other _ _ (Ne.symm hc)
  have nez:e ≠ z:=fun q=>by rw [q,zB] at g; cases g; exact absurd (show Value.type "zip" = Value.type "StopIteration" from c) (by intro z; injection z with z; revert z; decide)
  dsimp only
  revert kC
  generalize hB.update z (Obj.mapFields fun x=>x.setIfInBounds 0 Value.none) = hC
  intro kC
  refine zcT ⟨o,by show hC.get? e = _; rw [kC e nez]; exact g,c⟩ (h hC fun c o hc q=>?_)
  simp only [List.mem_cons,List.not_mem_nil,or_false,not_or] at hc
  rw [kC c hc.1]
  exact he c o hc.2.2.1 (by rw [kA c hc.1]; exact q)
 ·refine wpAny_bind (m:=Builtin.SmallTypes.ownedTupleIsFree (.ref z)) (wpAny_bind (wpAny_field ez rfl rfl ?_))
  refine wpAny_bind (zbf ?_)
  rw [show ((aa:Int)).toNat = aa from rfl,ha]
  refine wpAny_bind (m:=field (.ref z) 1) (wpAny_field ez rfl rfl ?_)
  cases f1 with
  | true =>
   refine wpAny_pure ?_
   refine wpAny_bind ?_
   refine wpAny_bind ?_
   refine wpAny_bind (wpAny_holding ?_)
   refine wpAny_bind (N1.done _ _ _ _ (show A.in1.handled = none from hh) h1 fun hB e he zq_=>?_)
   obtain ⟨o,g,c⟩:=zq_
   refine zcT ⟨o,g,c⟩ (h hB fun c o hc q=>?_)
   simp only [List.mem_cons,List.not_mem_nil,or_false,not_or] at hc
   exact he c o hc.2.2.1 q
  | false =>
   refine wpAny_bind (wpAny_setField ez rfl (by simp) (wpAny_pure ?_))
   have kA:∀ c,c ≠ z->(s.heap.update z (Obj.mapFields fun x=>x.setIfInBounds 1 (.bool true))).get? c = s.heap.get? c:=fun c hc=>Heap.get?_update_other _ _ (Ne.symm hc)
   dsimp only
   revert kA
   generalize s.heap.update z (Obj.mapFields fun x=>x.setIfInBounds 1 (.bool true)) = hA
   intro kA
   have s1A:S1 n hA:=N1.frame n s.heap hA h1 fun b o hb q=>by
    rw [kA b (by rcases hb with rfl | rfl; exact niz; exact m3)]; exact q
   refine wpAny_bind ?_
   refine wpAny_bind ?_
   refine wpAny_bind (wpAny_holding ?_)
   refine wpAny_bind (N1.done _ _ _ _ (show A.in1.handled = none from hh) s1A fun hB e he zq_=>?_)
   obtain ⟨o,g,c⟩:=zq_
   refine zcT ⟨o,g,c⟩ (h hB fun c o hc q=>?_)
   simp only [List.mem_cons,List.not_mem_nil,or_false,not_or] at hc
   exact he c o hc.2.2.1 (by rw [kA c hc.1]; exact q)
structure Made (s0 h:Heap) (D:Addr) (P1 P2:Nat->Value->Prop) (rs:List Addr):Prop where
 at_:∀ (k:Nat) (r:Addr),rs[k]? = some r->s0.get? r = none∧r ≠ D∧∃ v u,P1 k v∧P2 k u∧IsPair h r v u
 nd:rs.Nodup
set_option maxHeartbeats 2000000 in
theorem zfx {R:Result->Shared->Prop} {s:Shared} {s0:Heap} {z ti to i j d1 d2 D:Addr} {n:Nat} {P1 P2:Nat->Value->Prop} {S1 S2:Nat->Heap->Prop} (hh:A.handled = none)
  (N1:NxSrc prog w i d1 n P1 S1) (N2:NxSrc prog w j d2 n P2 S2) (ap:[i,j,ti,to,z].Nodup) (n1:d1 ∉ [j,to,z]) (n2:d2 ∉ [i,to,z]) (nD:D ∉ [i,j,ti,to,z]) (nD1:d1 ≠ D) (nD2:d2 ≠ D) (hD0:s0.get? D = none) (n1000:n ≤ 1000)
  (fin:∀ (rs:List Addr) (h':Heap) (tk e:Nat),h'.get? D = some (seqObj "list" (rs.map Value.ref).toArray e)->rs.length = n->Made s0 h' D P1 P2 rs->(∀ c o,c ∉ [z,to,i,j]->s0.get? c = some o->h'.get? c = some o)->R (.ok (.ret .none)) { s with heap:=h',toks:=tk }) :
  ∀ (m k:Nat) (h:Heap) (tk e:Nat) (rs:List Addr) (a b:Value),n - k = m->k ≤ n->rs.length = k->h.get? D = some (seqObj "list" (rs.map Value.ref).toArray e)->Made s0 h D P1 P2 rs->(∀ r ∈ rs,r ∉ [z,to,i,j])->ZAt h z ti to->IsPair h ti (.ref i) (.ref j)->IsPair h to a b->S1 k h->S2 k h->(∀ c o,c ∉ [z,to,i,j]->s0.get? c = some o->h.get? c = some o) ->
   codeAny (model prog w) A (.builtin "list.extend.loop" { pos:=[.ref D,.ref z,.none] }) R { s with heap:=h,toks:=tk }:=by
 intro m
 induction m with
 | zero =>
  intro k h tk e rs a b hm kn lr hD M nr hz ht ho h1 h2 K
  have ek:k = n:=by omega
  subst ek
  refine codeAny_builtin PySem.F.entry_extend_loop ?_
  have ap':=ap
  simp only [List.nodup_cons,List.mem_cons,List.not_mem_nil,or_false,not_or,not_false_eq_true,List.nodup_nil,and_true] at ap' n1 nD
  refine wpAny_bind (zeV (show (A.under _).handled = none from hh) N1 ap'.1.2.2.2 n1.2.2 hz ht h1 fun h' k'=>wpAny_pure ?_)
  refine fin rs h' tk e (k' D _ (by simp; exact ⟨nD.2.2.2.2,nD.2.2.2.1,nD.1,nD.2.1⟩) hD) lr ⟨fun q r hr=>?_,M.nd⟩ fun c o hc q=>k' c o hc (K c o hc q)
  obtain ⟨g1,g2,v,u,g3,g4,g5⟩:=M.at_ q r hr
  exact ⟨g1,g2,v,u,g3,g4,k' r _ (nr r (List.mem_of_getElem? hr)) g5⟩
 | succ m ih =>
  intro k h tk e rs a b hm kn lr hD M nr hz ht ho h1 h2 K
  refine codeAny_builtin PySem.F.entry_extend_loop ?_
  have ap':=ap
  have nD':=nD
  simp only [List.nodup_cons,List.mem_cons,List.not_mem_nil,or_false,not_or,not_false_eq_true,List.nodup_nil,and_true] at ap' nD'
  refine wpAny_bind (zeS N1 N2 ap n1 n2 hz ht ho (by omega) h1 h2 fun r v u a' b' h' tk' pv pu hr hp hz' ho' s1' s2' k'=>?_)
  have dn:D ∉ [z,to,i,j]:=by simp; exact ⟨nD'.2.2.2.2,nD'.2.2.2.1,nD'.1,nD'.2.1⟩
  have hD':=k' D _ dn hD
  have rn:r ∉ [z,to,i,j]:=by
   simp only [List.mem_cons,List.not_mem_nil,or_false,not_or]
   obtain ⟨_,_,ez,_⟩:=hz
   obtain ⟨o1,e1⟩:=N1.there _ _ h1
   obtain ⟨o2,e2⟩:=N2.there _ _ h2
   have ho2:h.get? to = _:=ho
   have hr2:h.get? r = none:=hr
   refine ⟨fun q=>?_,fun q=>?_,fun q=>?_,fun q=>?_⟩
   ·rw [q,ez] at hr2; cases hr2
   ·rw [q,ho2] at hr2; cases hr2
   ·rw [q,e1] at hr2; cases hr2
   ·rw [q,e2] at hr2; cases hr2
  have hr2:h.get? r = none:=hr
  have nrD:r ≠ D:=fun q=>by rw [q,hD] at hr2; cases hr2
  have r0:s0.get? r = none:=by
   cases q:s0.get? r with
   | none=>rfl
   | some o=>rw [K r o rn q] at hr2; cases hr2
  have ls:(rs.map Value.ref).toArray.size ≤ 1000:=by rw [List.size_toArray,List.length_map]; omega
  refine wpAny_bind (listUpdate_at hD' rfl ?_ (by rw [sizeLine_eq]; omega) (by rw [Array.size_push,sizeLine_eq]; omega))
  have gD:=get?_update_seq (c:="list") hD' (fun x=>x.push (.ref r))
  have kL:∀ c,c ≠ D->(h'.update D (Obj.mapSeq fun x=>x.push (.ref r))).get? c = h'.get? c:=fun c hc=>Heap.get?_update_other _ _ (Ne.symm hc)
  dsimp only
  revert gD kL
  generalize (if ((rs.map Value.ref).toArray.push (Value.ref r)).size == (rs.map Value.ref).toArray.size then e else e + 1) = e'
  generalize h'.update D (Obj.mapSeq fun x=>x.push (.ref r)) = hL
  intro gD kL
  have gD2:hL.get? D = some (seqObj "list" ((rs ++ [r]).map Value.ref).toArray e'):=by
   rw [gD,List.map_append]
   simp
  refine wpAny_pure ⟨by first | rfl | with_unfolding_all rfl,ih (k + 1) hL tk' e' (rs ++ [r]) a' b' (by omega) (by omega) (by rw [List.length_append,lr]; rfl) gD2 ⟨fun q r' hr'=>?_,?_⟩ (fun r' hr'=>?_) ?_ ?_ ?_ ?_ ?_ fun c o hc q=>?_⟩
  ·rcases Nat.lt_trichotomy q rs.length with c | c | c
   ·rw [List.getElem?_append_left c] at hr'
    obtain ⟨g1,g2,v,u,g3,g4,g5⟩:=M.at_ q r' hr'
    exact ⟨g1,g2,v,u,g3,g4,by show hL.get? r' = _; rw [kL r' g2]; exact k' r' _ (nr r' (List.mem_of_getElem? hr')) g5⟩
   ·rw [List.getElem?_append_right (by omega),c,Nat.sub_self] at hr'
    cases hr'
    exact ⟨r0,nrD,v,u,by rw [c,lr]; exact pv,by rw [c,lr]; exact pu,by show hL.get? r = _; rw [kL r nrD]; exact hp⟩
   ·rw [List.getElem?_eq_none (by simp; omega)] at hr'
    cases hr'
  ·rw [List.nodup_append]
   refine ⟨M.nd,by simp,fun a ha b hb e=>?_⟩
   rw [List.mem_singleton.mp hb] at e
   obtain ⟨q,hq⟩:=List.mem_iff_getElem?.mp ha
   obtain ⟨_,_,v,u,_,_,g5⟩:=M.at_ q a hq
   have g6:h.get? a = _:=g5
   rw [e,hr2] at g6
   cases g6
  ·rcases List.mem_append.mp hr' with m' | m'
   ·exact nr r' m'
   ·rw [List.mem_singleton.mp m']; exact rn
  ·obtain ⟨f0,f1,ez,hf⟩:=hz'
   refine ⟨f0,f1,by rw [kL z (Ne.symm nD'.2.2.2.2)]; exact ez,?_⟩
   rcases hf with e0 | ⟨aa,oo,e0,ha⟩
   ·exact .inl e0
   ·by_cases q:aa = D
    ·exact .inr ⟨aa,_,e0,by rw [q]; exact gD2⟩
    ·exact .inr ⟨aa,oo,e0,by rw [kL aa q]; exact ha⟩
  ·show hL.get? ti = _
   rw [kL ti (Ne.symm nD'.2.2.1)]
   exact k' ti _ (by simp; exact ⟨ap'.2.2.1.2,ap'.2.2.1.1,fun q=>ap'.1.2.1 q.symm,fun q=>ap'.2.1.1 q.symm⟩) ht
  ·show hL.get? to = _
   rw [kL to (Ne.symm nD'.2.2.2.1)]
   exact ho'
  ·exact N1.frame _ h' hL s1' fun b o hb q=>by
    rw [kL b (by rcases hb with rfl | rfl; exact Ne.symm nD'.1; exact nD1)]; exact q
  ·exact N2.frame _ h' hL s2' fun b o hb q=>by
    rw [kL b (by rcases hb with rfl | rfl; exact Ne.symm nD'.2.1; exact nD2)]; exact q
  ·have ncD:c ≠ D:=fun z=>by rw [z,hD0] at q; cases q
   rw [kL c ncD]
   exact k' c o hc (K c o hc q)
set_option maxHeartbeats 2000000 in
theorem zdB {E:Value->Shared->Prop} {Q:Value->Shared->Prop} {s:Shared} {z ti to i j d1 d2:Addr} {n:Nat} {P1 P2:Nat->Value->Prop} {S1 S2:Nat->Heap->Prop} (hh:A.handled = none)
  (N1:NxSrc prog w i d1 n P1 S1) (N2:NxSrc prog w j d2 n P2 S2) (ap:[i,j,ti,to,z].Nodup) (n1:d1 ∉ [j,to,z]) (n2:d2 ∉ [i,to,z]) (t1:d1 < s.heap.objs.size) (t2:d2 < s.heap.objs.size) (n1000:n ≤ 1000)
  (hz:IsZip s.heap z ti to .none) (ht:IsPair s.heap ti (.ref i) (.ref j)) (ho:IsPair s.heap to .none .none) (h1:S1 0 s.heap) (h2:S2 0 s.heap)
  (fin:∀ (D:Addr) (rs:List Addr) (h':Heap) (tk e:Nat),s.heap.get? D = none->h'.get? D = some (seqObj "list" (rs.map Value.ref).toArray e)->rs.length = n->Made s.heap h' D P1 P2 rs->(∀ c o,c ∉ [z,to,i,j]->s.heap.get? c = some o->h'.get? c = some o)->Q (.ref D) { s with heap:=h',toks:=tk }) :
  wpAny (model prog w) A (call (.type "list") [.ref z]) Q E s:=by
 obtain ⟨D,eD⟩:∃ D,D = s.heap.objs.size:=⟨_,rfl⟩
 refine callType_codes (newId:="list.__new__") (initId:="list.__init__") (Q₁:=fun obj s1=>obj = .ref s.heap.objs.size∧s1 = { s with heap:=s.heap.push { cls:=.type "list",data:=.seq #[] } }) PySem.F.called_list (by rfl) PySem.F.entry_list_init (code_list_new _ ⟨rfl,rfl⟩) (fun obj s1 hq=>?_)
 obtain ⟨rfl,rfl⟩:=hq
 rw [← eD]
 obtain ⟨h0,e0⟩:∃ h0,h0 = s.heap.push { cls:=.type "list",data:=.seq #[] }:=⟨_,rfl⟩
 have k0:∀ c o,s.heap.get? c = some o->h0.get? c = some o:=fun c o q=>by rw [e0]; exact Heap.get?_push_of_some _ q
 have gD:h0.get? D = some (seqObj "list" #[] 0):=by rw [e0,eD]; exact Heap.get?_push_size _ rfl
 rw [← e0]
 refine ⟨⟨_,gD,rfl⟩,PySem.F.args_list_init_2 _ _,?_⟩
 have hz0:=k0 _ _ hz
 refine wpAny_bind (wpAny_listItems gD rfl ?_)
 refine wpAny_bind (PyProof.Rows.listUpdate_at gD rfl ?_ (by simp) (by simp))
 refine wpAny_bind (wpAny_letGo ?_)
 have gE:=PyProof.Rows.get?_update_seq (c:="list") gD (fun x=>#[])
 have kE:∀ c,c ≠ D->(h0.update D (Obj.mapSeq fun x=>#[])).get? c = h0.get? c:=fun c hc=>Heap.get?_update_other _ _ (Ne.symm hc)
 dsimp only
 revert gE kE
 generalize h0.update D (Obj.mapSeq fun x=>#[]) = hE
 generalize (if (#[]:Array Value).size == (#[]:Array Value).size then 0 else 0 + 1) = e'
 intro gE kE
 have lt:∀ c o,s.heap.get? c = some o->c ≠ D:=fun c o q=>by rw [eD]; exact Nat.ne_of_lt (Heap.lt_size q)
 have kS:∀ c o,s.heap.get? c = some o->hE.get? c = some o:=fun c o q=>by rw [kE c (lt c o q)]; exact k0 c o q
 have zE:=kS _ _ hz
 refine wpAny_bind (wpAny_typeOf (T:="zip") ⟨_,zE,rfl⟩ ?_)
 have nzD:D ≠ z:=fun q=>lt z _ hz q.symm
 rw [if_neg (by
  have e1:Builtin.List.listSameRef (Value.ref D) (Value.ref z) = false:=by
   unfold Builtin.List.listSameRef
   simpa using nzD
  rw [e1]
  decide)]
 refine wpAny_bind (wpAny_pyIter_zip zE ?_)
 refine wpAny_bind (wpAny_holding ?_)
 refine wpAny_bind (wpAny_specialOf (T:="zip") (r:=none) ⟨_,zE,rfl⟩ (by rfl) ?_)
 refine wpAny_bind (wpAny_specialOf (T:="zip") (r:=none) ⟨_,zE,rfl⟩ (by rfl) ?_)
 refine wpAny_pure ?_
 refine wpAny_bind (wpAny_rule ?_)
 refine wpAny_bind (m:=Builtin.List.listTouch (.ref D)) (wpAny_bind (PyProof.Rows.listUpdate_at gE rfl ?_ (by simp) (by simp)))
 have gF:=PyProof.Rows.get?_update_seq (c:="list") gE (fun x=>x.push Value.none)
 have kF:∀ c,c ≠ D->(hE.update D (Obj.mapSeq fun x=>x.push Value.none)).get? c = hE.get? c:=fun c hc=>Heap.get?_update_other _ _ (Ne.symm hc)
 dsimp only
 revert gF kF
 generalize hE.update D (Obj.mapSeq fun x=>x.push Value.none) = hF
 generalize (if ((#[]:Array Value).push Value.none).size == (#[]:Array Value).size then e' else e' + 1) = e2
 intro gF kF
 refine PyProof.Rows.listUpdate_at gF rfl ?_ (by simp [sizeLine_eq]) (by simp)
 have gG:=PyProof.Rows.get?_update_seq (c:="list") gF (fun x=>x.pop)
 have kG:∀ c,c ≠ D->(hF.update D (Obj.mapSeq fun x=>x.pop)).get? c = hF.get? c:=fun c hc=>Heap.get?_update_other _ _ (Ne.symm hc)
 dsimp only
 revert gG kG
 generalize hF.update D (Obj.mapSeq fun x=>x.pop) = hG
 generalize (if ((#[]:Array Value).push Value.none).pop.size == ((#[]:Array Value).push Value.none).size then e2 else e2 + 1) = e3
 intro gG kG
 have gG2:hG.get? D = some (seqObj "list" (([]:List Addr).map Value.ref).toArray e3):=by rw [gG]; simp
 have kH:∀ c o,s.heap.get? c = some o->hG.get? c = some o:=fun c o q=>by rw [kG c (lt c o q),kF c (lt c o q)]; exact kS c o q
 obtain ⟨oi,ei⟩:=N1.there _ _ h1
 obtain ⟨oj,ej⟩:=N2.there _ _ h2
 refine wpAny_pure ⟨by first | rfl | with_unfolding_all rfl,?_⟩
 refine zfx (A:=A.in1) (s:=s) (s0:=s.heap) (D:=D) (show A.in1.handled = none from hh) N1 N2 ap n1 n2 ?_ (by rw [eD]; exact Nat.ne_of_lt t1) (by rw [eD]; exact Nat.ne_of_lt t2) ?_ n1000 (fun rs h' tk e g1 g2 g3 g4=>⟨rfl,fin D rs h' tk e ?_ g1 g2 g3 g4⟩) n 0 hG s.toks e3 [] .none .none rfl (Nat.zero_le _) rfl gG2 ⟨(fun q r hr=>by cases hr),List.nodup_nil⟩ (fun r hr=>by cases hr) ⟨.none,false,kH _ _ hz,.inl rfl⟩ (kH _ _ ht) (kH _ _ ho) (N1.frame _ _ _ h1 fun b o _ q=>kH b o q) (N2.frame _ _ _ h2 fun b o _ q=>kH b o q) fun c o _ q=>kH c o q
 ·simp only [List.mem_cons,List.not_mem_nil,or_false,not_or]
  exact ⟨fun q=>lt i _ ei q.symm,fun q=>lt j _ ej q.symm,fun q=>lt ti _ ht q.symm,fun q=>lt to _ ho q.symm,nzD⟩
 ·cases q:s.heap.get? D with
  | none=>rfl
  | some o=>exact absurd rfl (lt D o q)
 ·cases q:s.heap.get? D with
  | none=>rfl
  | some o=>exact absurd rfl (lt D o q)
theorem zfz {α:Type} {E:Value->Shared->Prop} {s:Shared} {Q:α->Shared->Prop} (hh:A.handled = none) (h:∀ h' e,(∀ b o,s.heap.get? b = some o->Heap.get? h' b = some o)->(∃ o,Heap.get? h' e = some o∧o.cls = .type "StopIteration")->E (.ref e) { s with heap:=h' }):wpAny (model prog w) A (Builtin.SmallTypes.stopIteration (α:=α)) Q E s:=by
 refine wpAny_bind (m:=newExc (.type "StopIteration") []) (wpAny_bind (wpAny_newTuple ?_ (by simp)))
 refine wpAny_bind (m:=firstArgMember _ _) (wpAny_pure (a:=Value.none) ?_)
 refine wpAny_bind (m:=alloc _) (wpAny_alloc (wpAny_pure ?_))
 refine wpAny_raiseNew_none hh ?_
 refine h _ _ (fun b o q=>Heap.get?_push_of_some _ (Heap.get?_push_of_some _ q)) ⟨_,Heap.get?_push_size _ rfl,rfl⟩
theorem zib {I l:Addr} {its:Array Value}:NxSrc prog w I l its.size (fun k v=>its[k]? = some v) (fun k h=>h.IsListIter I l k∧h.IsList l its) where
 item:=fun A E s Q i hi ⟨h1,h2⟩ h=>wpAny_nextOf_list_item h1 h2 (Array.getElem?_eq_getElem hi) fun h' g1 g2=>h _ h' s.toks (Array.getElem?_eq_getElem hi) ⟨g1,by
  obtain ⟨o,e1,e2⟩:=h2
  refine ⟨o,?_,e2⟩
  rw [g2.2 l (fun e=>by
   obtain ⟨o',e3,e4,_⟩:=h1
   rw [e,e3] at e1
   cases e1
   rw [e4] at e2
   exact absurd e2.1 (by intro z; injection z with z; revert z; decide))]
  exact e1⟩ g2
 done:=fun A E s Q hh ⟨h1,h2⟩ h=>wpAny_nextOf_list_end hh h1 h2 (Array.getElem?_eq_none (Nat.le_refl _)) h
 there:=fun i h ⟨⟨o,e,_⟩,_⟩=>⟨o,e⟩
 frame:=fun i h h' ⟨⟨o,e1,e2⟩,⟨o',e3,e4⟩⟩ k=>⟨⟨o,k _ _ (.inl rfl) e1,e2⟩,⟨o',k _ _ (.inr rfl) e3,e4⟩⟩
theorem ziy {I:Addr} {x:Str} {t:Tok}:NxSrc prog w I I x.cps.size (fun k v=>∃ c tk,x.cps[k]? = some c∧v = .str ⟨#[c]⟩ tk) (fun k h=>h.IsStrIter I "str_ascii_iterator" x t k) where
 item:=fun A E s Q i hi h1 h=>wpAny_nextOf_ascii_item h1 (Array.getElem?_eq_getElem hi) fun h' g1 g2=>h _ h' _ ⟨_,_,Array.getElem?_eq_getElem hi,rfl⟩ g1 g2
 done:=fun A E s Q hh h1 h=>wpAny_nextOf_ascii_end hh h1 (Array.getElem?_eq_none (Nat.le_refl _)) h
 there:=fun i h ⟨o,e,_⟩=>⟨o,e⟩
 frame:=fun i h h' ⟨o,e1,e2⟩ k=>⟨o,k _ _ (.inl rfl) e1,e2⟩
theorem zhl {I t:Addr} {its:Array Value} (nI:t ≠ I):NxSrc prog w I t its.size (fun k v=>its[k]? = some v) (fun k h=>h.IsTupleIter I t k∧h.IsTuple t its) where
 item:=fun A E s Q i hi ⟨h1,h2⟩ h=>by
  obtain ⟨o,e1,e2,e3⟩:=id h1
  obtain ⟨o',e4,e5,n',e6⟩:=id h2
  refine wpAny_bind (wpAny_callSpecial?_slot (T:="tuple_iterator") ⟨o,e1,e2⟩ slot_tupleiter_next (wpAny_call_entry slot_tupleiter_next ⟨o,e1,e2⟩ entry_tupleiter_next ?_ (args_tupleiter_next _)))
  refine wpAny_bind (m:=slotArgs "__next__" 0 _) (wpAny_pure (a:=(Value.ref I,[])) ?_)
  refine wpAny_bind (wpAny_field e1 e3 rfl ?_)
  refine wpAny_bind (wpAny_field e1 e3 rfl ?_)
  refine wpAny_bind (m:=seqItems? (.ref t)) (wpAny_bind (wpAny_load e4 ?_))
  rw [e6]
  refine wpAny_pure ?_
  show wpAny _ _ (match its[i]? with | some x=>_ | none=>_) _ _ _
  rw [Array.getElem?_eq_getElem hi]
  refine wpAny_bind (wpAny_setField e1 e3 (by simp) (wpAny_pure ⟨_,rfl,wpAny_pure ?_⟩))
  obtain ⟨cl,di,da,sl⟩:=o
  have e2':cl = .type "tuple_iterator":=e2
  have e3':da = .fields #[.ref t,.int (i:Int) 0]:=e3
  subst e2' e3'
  have gI:(s.heap.update I (Obj.mapFields fun x=>x.setIfInBounds 1 (rawInt ((i:Int) + 1)))).get? I = some ⟨.type "tuple_iterator",di,.fields #[.ref t,.int ((i + 1:Nat):Int) 0],sl⟩:=Heap.get?_update_self _ e1 rfl
  have kI:∀ c,c ≠ I->(s.heap.update I (Obj.mapFields fun x=>x.setIfInBounds 1 (rawInt ((i:Int) + 1)))).get? c = s.heap.get? c:=fun c hc=>Heap.get?_update_other _ _ (Ne.symm hc)
  refine h _ _ s.toks (Array.getElem?_eq_getElem hi) ⟨⟨_,gI,rfl,rfl⟩,⟨o',by rw [kI t nI]; exact e4,e5,n',e6⟩⟩ ⟨Heap.size_update _ _ _,kI⟩
 done:=fun A E s Q hh ⟨h1,h2⟩ h=>by
  obtain ⟨o,e1,e2,e3⟩:=id h1
  obtain ⟨o',e4,e5,n',e6⟩:=id h2
  refine wpAny_bind (wpAny_callSpecial?_slot (T:="tuple_iterator") ⟨o,e1,e2⟩ slot_tupleiter_next (wpAny_call_entry slot_tupleiter_next ⟨o,e1,e2⟩ entry_tupleiter_next ?_ (args_tupleiter_next _)))
  refine wpAny_bind (m:=slotArgs "__next__" 0 _) (wpAny_pure (a:=(Value.ref I,[])) ?_)
  refine wpAny_bind (wpAny_field e1 e3 rfl ?_)
  refine wpAny_bind (wpAny_field e1 e3 rfl ?_)
  refine wpAny_bind (m:=seqItems? (.ref t)) (wpAny_bind (wpAny_load e4 ?_))
  rw [e6]
  refine wpAny_pure ?_
  show wpAny _ _ (match its[its.size]? with | some x=>_ | none=>_) _ _ _
  rw [Array.getElem?_eq_none (Nat.le_refl _)]
  refine wpAny_bind (wpAny_rule ?_)
  refine wpAny_bind (wpAny_setField e1 e3 (by simp) ?_)
  have kI:∀ c,c ≠ I->(s.heap.update I (Obj.mapFields fun x=>x.setIfInBounds 0 Value.none)).get? c = s.heap.get? c:=fun c hc=>Heap.get?_update_other _ _ (Ne.symm hc)
  exact zfz (show A.in1.handled = none from hh) fun h' e k he=>h h' e (fun b o hb q=>k b o (by rw [kI b hb]; exact q)) he
 there:=fun i h ⟨⟨o,e,_⟩,_⟩=>⟨o,e⟩
 frame:=fun i h h' ⟨⟨o,e1,e2⟩,⟨o',e3,e4⟩⟩ k=>⟨⟨o,k _ _ (.inl rfl) e1,e2⟩,⟨o',k _ _ (.inr rfl) e3,e4⟩⟩
end
end L2
set_option Elab.async false
set_option linter.all false
set_option maxRecDepth 100000
namespace L2
open PySem PySem.Spec PyProof.Rows
theorem Inv.many {X:Cx} {pins:List (Addr × Obj)} {σ:St} {H H':Hp} {s:Shared} {h':Heap} {t':Nat} (I:Inv X pins σ H s) (k:∀ b u,s.heap.get? b = some u->h'.get? b = some u)
  (old:∀ b u,s.heap.get? b = some u->H' b = H b) (same:∀ b o,H b = some o->H' b = some o) (ok:∀ b o,H' b = some o->H b = none->zaY X.prog X.w H' h' b o):Inv X pins σ H' { s with heap:=h',toks:=t' }:=by
 refine I.un ⟨fun b u q _ _ _=>k b u q,fun b u q _ _ _=>⟨u.slots,k b u q⟩,fun b u q n _=>by rw [old b u q]; exact n,fun b u q _=>⟨u,k b u q⟩,fun b xs q=>same _ _ q,fun b o u q=>same _ _ q,fun b ps q=>⟨#[],by rw [same _ _ q]; simp⟩⟩ fun b u e=>?_
 cases hb:H b with
 | none=>exact ok b u e hb
 | some o =>
  have:=same b o hb
  rw [e] at this
  cases this
  exact (I.hok b u hb).stay (fun c v _ q=>k c v q) (fun c q=>same _ _ q) fun c xs q=>same _ _ q
theorem Inv.free_of {X:Cx} {pins:List (Addr × Obj)} {σ:St} {H:Hp} {s:Shared} {a:Addr} (I:Inv X pins σ H s) (ha:s.heap.get? a = none):H a = none:=by
 cases q:H a with
 | none=>rfl
 | some u =>
  obtain ⟨ob,e⟩:∃ ob,s.heap.get? a = some ob:=by
   have x:=I.hok a u q
   cases u with
   | lst xs=>obtain ⟨_,_,_,_,e⟩:=x; exact ⟨_,e⟩
   | tup xs=>obtain ⟨_,_,_,p⟩:=x; obtain ⟨_,e,_⟩:=p; exact ⟨_,e⟩
   | dK kvs=>obtain ⟨_,_,_,_,o,_,_,e,_⟩:=x; exact ⟨_,e⟩
   | dT kvs=>obtain ⟨_,_,_,_,o,_,_,e,_⟩:=x; exact ⟨_,e⟩
   | set S n=>obtain ⟨o,_,_,_,e,_⟩:=x; exact ⟨_,e⟩
   | ins C dx fs=>obtain ⟨_,_,_,e,_⟩:=x; exact ⟨_,e⟩
   | own y=>exact x
   | xd fs=>obtain ⟨_,⟨_,_,_,e,_⟩,_⟩:=x; exact ⟨_,e⟩
   | rng lo hi=>obtain ⟨_,_,_,e⟩:=x; exact ⟨_,e⟩
   | frz ob u=>obtain ⟨e,_⟩:=x; exact ⟨_,e⟩
   | tbl ps=>exact ⟨_,(show s.heap.get? a = some _ from x)⟩
   | met f y=>exact ⟨_,(show s.heap.get? a = some _ from x)⟩
   | ext φ=>obtain ⟨_,e,_⟩:=x; exact e
  rw [ha] at e; cases e
theorem vals_refs:∀ rs:List Addr,Vals (rs.map V.ref) (rs.map Value.ref)
 | []=>.nil
 | r :: rs=>.cons rfl (vals_refs rs)
noncomputable def SrcV (K:PySem.W.Frag) (H:Hp) (x:V) (xs:List V):Prop:=(∃ p,x = .ref p∧SqT K H p xs) ∨ (∃ p,x = .ref p∧SqL K H p xs) ∨ ∃ t:Str,x = .str t∧(t.cps.all fun c=>decide (c < 128)) = true∧xs = t.cps.toList.map fun c=>V.str ⟨#[c]⟩
theorem zeU {X:Cx} {pins:List (Addr × Obj)} {σ:St} {H:Hp} {s:Shared} {x:V} {v:Value} {xs:List V} (I:Inv X pins σ H s) (r:RelV x v) (h:SrcV X.K H x xs) :
  ∃ oI:Obj,oI.isFreed = false∧(∀ (s':Shared),(∀ b o,s.heap.get? b = some o->s'.heap.get? b = some o)->∀ (A:Around) (E Q:Value->Shared->Prop),Q (.ref s'.heap.objs.size) { s' with heap:=s'.heap.push oI }->wpAny (model X.prog X.w) A (pyIter v) Q E s') ∧
   ∀ I0:Addr,s.heap.get? I0 = none->∃ (d:Addr) (P:Nat->Value->Prop) (St:Nat->Heap->Prop),(d = I0 ∨ ∃ o,s.heap.get? d = some o)∧NxSrc X.prog X.w I0 d xs.length P St∧(∀ k u,P k u->∃ y,xs[k]? = some y∧RelV y u)∧∀ h':Heap,(∀ b o,s.heap.get? b = some o->h'.get? b = some o)->h'.get? I0 = some oI->St 0 h':=by
 have back:∀ {its:List Value},Vals xs its->∀ (k:Nat) (u:Value),its.toArray[k]? = some u->∃ y,xs[k]? = some y∧RelV y u:=fun {its} rr k u hu=>by
  have hl:=rr.length
  rw [List.getElem?_toArray] at hu
  have kl:=(List.getElem?_eq_some_iff.mp hu).1
  have hx:=List.getElem?_eq_getElem (l:=xs) (i:=k) (by omega)
  obtain ⟨u',hu',ru⟩:=Vals.get rr hx
  rw [hu] at hu'
  cases hu'
  exact ⟨_,hx,ru⟩
 rcases h with ⟨p,rfl,hq⟩ | ⟨p,rfl,hq⟩ | ⟨t,rfl,ha,rfl⟩
 ·cases r
  obtain ⟨its,rr,pl,hz⟩:=I.tuple hq
  have hl:=rr.length
  obtain ⟨o,e1,e2,n,e3⟩:=id pl
  refine ⟨{ cls:=.type "tuple_iterator",data:=.fields #[.ref p,.int 0 0] },rfl,fun s' k A E Q q=>wpAny_pyIter_tuple (items:=its.toArray) ⟨o,k _ _ e1,e2,n,e3⟩ q,fun I0 n0=>⟨p,(fun k v=>its.toArray[k]? = some v),(fun k h=>h.IsTupleIter I0 p k∧h.IsTuple p its.toArray),.inr ⟨o,e1⟩,?_,fun k u hu=>back rr k u hu,fun h' k g=>⟨⟨_,g,rfl,rfl⟩,⟨o,k _ _ e1,e2,n,e3⟩⟩⟩⟩
  have:=zhl (prog:=X.prog) (w:=X.w) (I:=I0) (t:=p) (its:=its.toArray) (fun e=>by rw [e,n0] at e1; cases e1)
  rw [List.size_toArray,← hl] at this
  exact this
 ·cases r
  obtain ⟨its,rr,pl,hz⟩:=I.list hq
  have hl:=rr.length
  obtain ⟨o,e1,e2⟩:=id pl.isList
  refine ⟨{ cls:=.type "list_iterator",data:=.fields #[.ref p,.int 0 0] },rfl,fun s' k A E Q q=>wpAny_pyIter_list (items:=its.toArray) ⟨o,k _ _ e1,e2⟩ q,fun I0 n0=>⟨p,(fun k v=>its.toArray[k]? = some v),(fun k h=>h.IsListIter I0 p k∧h.IsList p its.toArray),.inr ⟨o,e1⟩,?_,fun k u hu=>back rr k u hu,fun h' k g=>⟨⟨_,g,rfl,rfl⟩,⟨o,k _ _ e1,e2⟩⟩⟩⟩
  have:=zib (prog:=X.prog) (w:=X.w) (I:=I0) (l:=p) (its:=its.toArray)
  rw [List.size_toArray,← hl] at this
  exact this
 ·obtain ⟨tk,rfl⟩:=r
  refine ⟨{ cls:=.type "str_ascii_iterator",data:=.fields #[.str t tk,.int 0 0] },rfl,fun s' k A E Q q=>wpAny_pyIter_ascii ha q,fun I0 n0=>⟨I0,(fun k v=>∃ c tk,t.cps[k]? = some c∧v = .str ⟨#[c]⟩ tk),(fun k h=>h.IsStrIter I0 "str_ascii_iterator" t tk k),.inl rfl,?_,?_,fun h' k g=>⟨_,g,rfl,rfl⟩⟩⟩
  ·have:=ziy (prog:=X.prog) (w:=X.w) (I:=I0) (x:=t) (t:=tk)
   rw [List.length_map,Array.length_toList]
   exact this
  ·rintro k u ⟨c,tk',hc,rfl⟩
   exact ⟨.str ⟨#[c]⟩,by rw [List.getElem?_map,Array.getElem?_toList,hc]; rfl,⟨tk',rfl⟩⟩
noncomputable def zet (H:Hp) (D:Addr) (rs:List Addr) (xs ys:List V):Hp:=fun c=>if c = D then some (.lst (rs.map V.ref)) else match (rs.zip (xs.zip ys)).lookup c with
 | some p=>some (.tup [p.1,p.2])
 | none=>H c
theorem look_zip:∀ {rs:List Addr} {ps:List (V × V)} {k:Nat} {r:Addr} {p:V × V},rs.Nodup->rs[k]? = some r->ps[k]? = some p->(rs.zip ps).lookup r = some p
 | [],_,_,_,_,_,h,_=>by simp at h
 | a :: rs,[],_,_,_,_,_,h=>by simp at h
 | a :: rs,b :: ps,0,r,p,nd,h1,h2=>by
  cases h1
  cases h2
  rw [List.zip_cons_cons,List.lookup_cons_self]
 | a :: rs,b :: ps,k + 1,r,p,nd,h1,h2=>by
  obtain ⟨n1,n2⟩:=List.nodup_cons.mp nd
  have m:r ∈ rs:=List.mem_of_getElem? (by simpa using h1)
  rw [List.zip_cons_cons,List.lookup_cons]
  have e:(r == a) = false:=by
   rw [beq_eq_false_iff_ne]
   intro z
   rw [z] at m
   exact n1 m
  rw [e]
  exact look_zip n2 (by simpa using h1) (by simpa using h2)
theorem look_mem:∀ {rs:List Addr} {ps:List (V × V)} {r:Addr} {p:V × V},(rs.zip ps).lookup r = some p->∃ k:Nat,rs[k]? = some r∧ps[k]? = some p
 | [],_,_,_,h=>by simp at h
 | a :: rs,[],_,_,h=>by simp at h
 | a :: rs,b :: ps,r,p,h=>by
  rw [List.zip_cons_cons,List.lookup_cons] at h
  split at h
  ·rename_i e
   cases h
   exact ⟨0,by rw [eq_of_beq e]; rfl,rfl⟩
  ·obtain ⟨k,h1,h2⟩:=look_mem h
   exact ⟨k + 1,by simpa using h1,by simpa using h2⟩
noncomputable def zdp (K:PySem.W.Frag) (ta:TA):TE:=fun σ H Q=>ta σ H fun vs H1=>∃ x y xs ys,vs = [x,y]∧SrcV K H1 x xs∧SrcV K H1 y ys∧xs.length = ys.length∧xs.length ≤ 1000 ∧
 ∀ (D:Addr) (rs:List Addr) (H':Hp),Same H1 H'->H1 D = none->H' D = some (.lst (rs.map V.ref))->rs.length = xs.length->(∀ (k:Nat) (r:Addr) (u v:V),rs[k]? = some r->xs[k]? = some u->ys[k]? = some v->H' r = some (.tup [u,v]))->Q (.ref D) H'
section
variable {X:Cx} {e1 e2:Expr} {ta:TA} {p p1 pos pos1:Pos} {K:PySem.W.Frag}
set_option maxHeartbeats 2000000 in
theorem zeL (hk:X.K = K) (hc:X.calm = true) (hg:Gl X "list") (hm:X.mg "list" = none) (hg2:Gl X "zip") (hm2:X.mg "zip" = none) (ha:PA X [e1,e2] ta)
  (hs:starEach [e1,e2] X.env = (false,eval e1 X.env) :: starEach [e2] X.env:=by rfl) (hp:(backTo pos1 (starEach [e2] X.env)).any (·.1) = false:=by rfl) :
  PE X (.Call (.Name "list" p) [.Call (.Name "zip" p1) [e1,e2] [] pos1] [] pos) (zdp K ta):=by
 subst hk
 intro pins s σ H Q I h
 refine wpAny_Call_Name_kw (zbs I hg hm (u:=.type "list") (by decide +kernel) ?_)
 refine PyProof.Rows.callWith_type1 (Calls.spliced_cons ?_) rfl rfl
 refine wpAny_Call_Name_kw (zbs I hg2 hm2 (u:=.type "zip") (by decide +kernel) ?_)
 refine PyProof.Rows.callWith_type1 (thn (ha pos1 pins s σ H _ I h) fun us s1 zq_=>?_) hs hp
 obtain ⟨vs,H1,I1,r1,x,y,xs,ys,ev,sx,sy,le,l1000,q⟩:=zq_
 subst ev
 obtain ⟨u,v,rfl,ru,rv⟩:=zh6 r1
 obtain ⟨oI,fI,pI,nI⟩:=zeU I1 ru sx
 obtain ⟨oJ,fJ,pJ,nJ⟩:=zeU I1 rv sy
 refine zgN fI fJ (fun A E Q q=>pI s1 (fun b o g=>g) A E Q q) (fun A E Q q=>pJ _ (fun b o g=>Heap.get?_push_of_some _ g) A E Q q) fun i j ti to z h' ei ej k gi gj ni nj nti nto nz pt po pz nd=>Calls.spliced_nil ?_
 obtain ⟨d1,P1,S1,hd1,N1,b1,st1⟩:=nI i ni
 obtain ⟨d2,P2,S2,hd2,N2,b2,st2⟩:=nJ j nj
 rw [← le] at N2
 have nd':=nd
 simp only [List.nodup_cons,List.mem_cons,List.not_mem_nil,or_false,not_or,not_false_eq_true,List.nodup_nil,and_true] at nd'
 have off:∀ {d c:Addr} {o:Obj},s1.heap.get? d = some o->s1.heap.get? c = none->d ≠ c:=fun g n e=>by rw [e,n] at g; cases g
 have t1:∃ o,h'.get? d1 = some o:=by
  rcases hd1 with rfl | ⟨o,g⟩
  ·exact ⟨_,gi⟩
  ·exact ⟨o,k _ _ g⟩
 have t2:∃ o,h'.get? d2 = some o:=by
  rcases hd2 with rfl | ⟨o,g⟩
  ·exact ⟨_,gj⟩
  ·exact ⟨o,k _ _ g⟩
 refine zdB (A:=X.A) (I1.ok.hd hc) N1 N2 nd ?_ ?_ (by obtain ⟨o,g⟩:=t1; exact Heap.lt_size g) (by obtain ⟨o,g⟩:=t2; exact Heap.lt_size g) l1000 pz pt po (st1 h' k gi) (st2 h' k gj) fun D rs h2 tk e hD gD lr M K2=>?_
 ·simp only [List.mem_cons,List.not_mem_nil,or_false,not_or]
  rcases hd1 with rfl | ⟨o,g⟩
  ·exact ⟨nd'.1.1,nd'.1.2.2.1,nd'.1.2.2.2⟩
  ·exact ⟨off g nj,off g nto,off g nz⟩
 ·simp only [List.mem_cons,List.not_mem_nil,or_false,not_or]
  rcases hd2 with rfl | ⟨o,g⟩
  ·exact ⟨fun z=>nd'.1.1 z.symm,nd'.2.1.2.1,nd'.2.1.2.2⟩
  ·exact ⟨off g ni,off g nto,off g nz⟩
 ·have D0:s1.heap.get? D = none:=by
   cases g:s1.heap.get? D with
   | none=>rfl
   | some o =>
    have hD2:h'.get? D = none:=hD
    rw [k _ _ g] at hD2; cases hD2
  have r0:∀ r ∈ rs,s1.heap.get? r = none:=fun r hr=>by
   obtain ⟨m,hm'⟩:=List.mem_iff_getElem?.mp hr
   have g0:h'.get? r = none:=(M.at_ m r hm').1
   cases g:s1.heap.get? r with
   | none=>rfl
   | some o=>rw [k _ _ g] at g0; cases g0
  have kk:∀ b u,s1.heap.get? b = some u->h2.get? b = some u:=fun b u g=>K2 b u (by
   simp only [List.mem_cons,List.not_mem_nil,or_false,not_or]
   exact ⟨off g nz,off g nto,off g ni,off g nj⟩) (k b u g)
  have miss:∀ b,b ≠ D->b ∉ rs->zet H1 D rs xs ys b = H1 b:=fun b n1 n2=>by
   unfold zet
   rw [if_neg n1]
   cases g:(rs.zip (xs.zip ys)).lookup b with
   | none=>rfl
   | some p =>
    obtain ⟨m,hm',_⟩:=look_mem g
    exact absurd (List.mem_of_getElem? hm') n2
  have same:∀ b o,H1 b = some o->zet H1 D rs xs ys b = some o:=fun b o g=>by
   rw [miss b (fun e=>by rw [e,I1.free_of D0] at g; cases g) (fun m=>by rw [I1.free_of (r0 b m)] at g; cases g)]
   exact g
  refine ⟨.ref D,zet H1 D rs xs ys,I1.many kk (fun b u g=>miss b (off g D0) (fun m=>by rw [r0 b m] at g; cases g)) same (fun b o g n=>?_),rfl,q D rs _ same (I1.free_of D0) (by unfold zet; rw [if_pos rfl]) lr fun m r u' v' h1 h2' h3=>?_⟩
  ·unfold zet at g
   by_cases eb:b = D
   ·rw [if_pos eb] at g
    cases g
    rw [eb]
    exact ⟨by rw [List.length_map,sizeLine_eq]; omega,rs.map Value.ref,e,vals_refs rs,gD⟩
   ·rw [if_neg eb] at g
    cases gl:(rs.zip (xs.zip ys)).lookup b with
    | none=>rw [gl] at g; rw [n] at g; cases g
    | some pr =>
     rw [gl] at g
     cases g
     obtain ⟨m,hm1,hm2'⟩:=look_mem gl
     obtain ⟨_,_,v1,u1,q1,q2,q3⟩:=M.at_ m b hm1
     obtain ⟨y1,hy1,ry1⟩:=b1 m v1 q1
     obtain ⟨y2,hy2,ry2⟩:=b2 m u1 q2
     rw [List.getElem?_zip_eq_some] at hm2'
     rw [hy1] at hm2'
     rw [hy2] at hm2'
     obtain ⟨h1,h2'⟩:=hm2'
     cases h1
     cases h2'
     exact ⟨by rw [sizeLine_eq]; simp,[v1,u1],.cons ry1 (.cons ry2 .nil),⟨_,q3,rfl,_,rfl⟩⟩
  ·unfold zet
   rw [if_neg (M.at_ m r h1).2.1,look_zip (p:=(u',v')) M.nd h1 (List.getElem?_zip_eq_some.mpr ⟨h2',h3⟩)]
end
end L2
set_option Elab.async false
set_option linter.all false
namespace L2
open PySem
section
variable {X:Cx}
end
end L2
set_option Elab.async false
set_option linter.all false
set_option maxRecDepth 100000
namespace L2
open PySem PySem.Spec PyProof.Rows
section
variable {prog:Program} {w:World} {A:Around}
end
section
variable {X:Cx}
end
end L2
set_option Elab.async false
set_option linter.all false
set_option maxRecDepth 100000
namespace HT
open PySem PySem.Spec PyProof.Rows
section
variable {prog:Program} {w:World} {A:Around} {E:Value->Shared->Prop} {s:Shared}
end
end HT
namespace L2
open PySem PySem.Spec PyProof.Rows
section
variable {X:Cx}
end
inductive All2 {α β:Type} (R:α->β->Prop):List α->List β->Prop
 | nil:All2 R [] []
 | cons {a b as bs} (h:R a b) (t:All2 R as bs):All2 R (a :: as) (b :: bs)
namespace All2
variable {α β:Type} {R S:α->β->Prop}
theorem len {as:List α} {bs:List β} (h:All2 R as bs):as.length = bs.length:=by
 induction h with
 | nil=>rfl
 | cons _ _ ih=>simp [ih]
theorem imp (f:∀ a b,R a b->S a b) {as:List α} {bs:List β} (h:All2 R as bs):All2 S as bs:=by
 induction h with
 | nil=>exact .nil
 | cons h _ ih=>exact .cons (f _ _ h) ih
theorem append {as as':List α} {bs bs':List β} (h:All2 R as bs) (h':All2 R as' bs'):All2 R (as ++ as') (bs ++ bs'):=by
 induction h with
 | nil=>exact h'
 | cons h _ ih=>exact .cons h ih
theorem take {as:List α} {bs:List β} (h:All2 R as bs):∀ n,All2 R (as.take n) (bs.take n):=by
 induction h with
 | nil=>intro n; simp; exact .nil
 | cons h _ ih =>
  intro n
  cases n with
  | zero=>exact .nil
  | succ n=>exact .cons h (ih n)
theorem drop {as:List α} {bs:List β} (h:All2 R as bs):∀ n,All2 R (as.drop n) (bs.drop n):=by
 induction h with
 | nil=>intro n; simp; exact .nil
 | cons h t ih =>
  intro n
  cases n with
  | zero=>exact .cons h t
  | succ n=>exact ih n
theorem get {as:List α} {bs:List β} (h:All2 R as bs):∀ (i:Nat) (a:α) (b:β),as[i]? = some a->bs[i]? = some b->R a b:=by
 induction h with
 | nil=>intro i a b e; simp at e
 | cons h _ ih =>
  intro i a b e1 e2
  cases i with
  | zero=>cases e1; cases e2; exact h
  | succ i=>exact ih i a b e1 e2
theorem rep {a:α} {b:β} (h:R a b):∀ n,All2 R (List.replicate n a) (List.replicate n b)
 | 0=>.nil
 | n + 1=>.cons h (rep h n)
theorem mem {as:List α} {bs:List β} (h:All2 R as bs) {a:α} (m:a ∈ as):∃ b ∈ bs,R a b:=by
 induction h with
 | nil=>cases m
 | cons h _ ih =>
  rcases List.mem_cons.mp m with rfl | m
  ·exact ⟨_,List.mem_cons_self,h⟩
  ·obtain ⟨b,mb,r⟩:=ih m
   exact ⟨b,List.mem_cons_of_mem _ mb,r⟩
end All2
end L2
set_option Elab.async false
set_option linter.all false
set_option maxRecDepth 100000
namespace L2
open PySem PySem.Spec PyProof.Rows
section
variable {X:Cx} {CX:CXT} {k:Nat} {E:XK} {p pos spos:Pos} {e i o:Expr} {es:List Expr} {tk:TE} {t:TA} {g:Addr}
end
end L2
set_option Elab.async false
set_option linter.all false
set_option maxRecDepth 100000
namespace HT
open PySem PySem.Spec PyProof.Rows
end HT
namespace L2
open PySem PySem.Spec PyProof.Rows
section
variable {X:Cx}
end
end L2
set_option Elab.async false
set_option linter.all false
set_option maxRecDepth 100000
namespace HT
open PySem PySem.Spec PyProof.Rows PySem.W
section
variable {prog:Program} {w:World} {A:Around} {E:Value->Shared->Prop} {h:Heap} {g:Array GenState} {d:Drawn} {t:Nat} {os:OsState} {a C:Addr} {o:Obj} {K:Frag}
end
end HT
namespace L2
open PySem PySem.Spec PyProof.Rows
section
variable {X:Cx} {pins:List (Addr × Obj)} {σ:St} {H:Hp} {s:Shared}
end
section
variable {X:Cx}
end
end L2
set_option Elab.async false
set_option linter.all false
set_option maxRecDepth 100000
namespace L2
open PySem PySem.Spec PyProof.Rows
section
variable {X:Cx} {tg:Expr}
end
end L2
set_option Elab.async false
set_option linter.all false
set_option maxRecDepth 100000
namespace L2
open PySem PySem.Spec PyProof.Rows
section
variable {prog:Program} {w:World} {A:Around} {E:Value->Shared->Prop} {s:Shared}
end
end L2
set_option Elab.async false
set_option linter.all false
set_option maxRecDepth 100000
namespace L2
open PySem PySem.Spec PyProof.Rows
section
variable {X:Cx} {pins:List (Addr × Obj)} {σ:St} {H:Hp} {s:Shared}
end
section
variable {X:Cx} {tg:Expr}
end
end L2
set_option Elab.async false
set_option linter.all false
set_option maxRecDepth 100000
namespace L2
open PySem PySem.Spec PyProof.Rows
section
variable {X:Cx}
end
end L2
set_option Elab.async false
set_option linter.all false
set_option maxRecDepth 100000
namespace L2
open PySem PySem.Spec PyProof.Rows
section
variable {X:Cx}
end
section
variable {prog:Program} {w:World} {A:Around} {E:Value->Shared->Prop} {s:Shared}
end
section
variable {X:Cx}
end
end L2
set_option Elab.async false
set_option linter.all false
set_option maxRecDepth 100000
namespace L2
namespace STb
open PySem
noncomputable def f5 (N i:Nat):Nat:=(i * 5 + 1) % N
noncomputable def it5 (N:Nat):Nat->Nat->Nat
 | 0,i=>i
 | m + 1,i=>it5 N m (f5 N i)
theorem zdF (N:Nat):∀ a b i,it5 N (a + b) i = it5 N b (it5 N a i)
 | 0,b,i=>by rw [Nat.zero_add]; rfl
 | a + 1,b,i=>by rw [Nat.succ_add]; exact zdF N a b (f5 N i)
noncomputable def orb (N:Nat):Nat->Nat->Nat->Nat × Nat
 | 0,i,acc=>(i,acc)
 | k + 1,i,acc=>orb N k (f5 N i) (acc ||| (1 <<< i))
theorem zfG (N:Nat):∀ k i acc,(orb N k i acc).1 = it5 N k i
 | 0,i,acc=>rfl
 | k + 1,i,acc=>zfG N k (f5 N i) _
theorem zf4 (N:Nat):∀ k i acc j,(orb N k i acc).2.testBit j = true->acc.testBit j = true ∨ ∃ m,m < k∧it5 N m i = j
 | 0,i,acc,j,h=>.inl h
 | k + 1,i,acc,j,h=>by
  rcases zf4 N k (f5 N i) _ j h with h | ⟨m,hm,e⟩
  ·rw [Nat.testBit_or,Bool.or_eq_true] at h
   rcases h with h | h
   ·exact .inl h
   ·refine .inr ⟨0,by omega,?_⟩
    rw [Nat.one_shiftLeft,Nat.testBit_two_pow] at h
    exact of_decide_eq_true h
  ·exact .inr ⟨m + 1,by omega,e⟩
noncomputable def zbJ (m:Nat):Prop:=m = 7 ∨ m = 31 ∨ m = 127 ∨ m = 511 ∨ m = 2047
theorem zf8 {m:Nat} (h:zbJ m):orb (m + 1) (m + 1) 0 0 = (0,2 ^ (m + 1) - 1):=by
 rcases h with rfl | rfl | rfl | rfl | rfl <;> decide +kernel
theorem zhy {m:Nat} (h:zbJ m) {j:Nat} (hj:j ≤ m):∃ a,a < m + 1∧it5 (m + 1) a 0 = j:=by
 have:=zf4 (m + 1) (m + 1) 0 0 j (by rw [zf8 h,Nat.testBit_two_pow_sub_one]; exact decide_eq_true (by omega))
 rcases this with h | h
 ·rw [Nat.zero_testBit] at h; cases h
 ·exact h
theorem orbit {m:Nat} (h:zbJ m) {i j:Nat} (hi:i ≤ m) (hj:j ≤ m):∃ a,a ≤ m∧it5 (m + 1) a i = j:=by
 obtain ⟨x,hx,ex⟩:=zhy h hi
 obtain ⟨y,hy,ey⟩:=zhy h hj
 have e0:it5 (m + 1) (m + 1) 0 = 0:=by rw [← zfG (m + 1) (m + 1) 0 0,zf8 h]
 by_cases c:x ≤ y
 ·refine ⟨y - x,by omega,?_⟩
  rw [← ex,← zdF,show x + (y - x) = y by omega,ey]
 ·refine ⟨m + 1 - x + y,by omega,?_⟩
  rw [zdF,← ex,← zdF (m + 1) x (m + 1 - x) 0,show x + (m + 1 - x) = m + 1 by omega,e0,ey]
noncomputable def zbF (m:Nat):Nat->Nat->Nat->Nat × Nat
 | 0,i,p=>(i,p)
 | t + 1,i,p=>zbF m t (SetTable.leap m i p).1 (SetTable.leap m i p).2
theorem zd5 (m:Nat):∀ a b i p,zbF m (a + b) i p = zbF m b (zbF m a i p).1 (zbF m a i p).2
 | 0,b,i,p=>by rw [Nat.zero_add]; rfl
 | a + 1,b,i,p=>by rw [Nat.succ_add]; exact zd5 m a b _ _
theorem zc9 (m:Nat):∀ t i,zbF m t i 0 = (it5 (m + 1) t i,0)
 | 0,i=>rfl
 | t + 1,i=>by
  show zbF m t ((i * 5 + 1 + 0 / 32) % (m + 1)) (0 / 32) = _
  rw [Nat.zero_div,Nat.add_zero]
  exact zc9 m t _
theorem zc3 (m:Nat):∀ t i p,(zbF m t i p).2 = p / 32 ^ t
 | 0,i,p=>by rw [Nat.pow_zero,Nat.div_one]; rfl
 | t + 1,i,p=>by
  show (zbF m t _ (p / 32)).2 = _
  rw [zc3 m t,Nat.div_div_eq_div_mul,Nat.pow_succ,Nat.mul_comm]
theorem ze1 (m:Nat):∀ t i p,i ≤ m->(zbF m t i p).1 ≤ m
 | 0,i,p,h=>h
 | t + 1,i,p,h=>ze1 m t _ _ (by
  show (i * 5 + 1 + p / 32) % (m + 1) ≤ m
  exact Nat.le_of_lt_succ (Nat.mod_lt _ (Nat.succ_pos m)))
theorem zfT (h:Int):SetTable.bits h < 2 ^ 64:=by
 unfold SetTable.bits
 have h1:=Int.emod_nonneg h (show (2 ^ 64:Int) ≠ 0 by decide)
 have h2:=Int.emod_lt_of_pos h (show (0:Int) < 2 ^ 64 by decide)
 have:((h % 2 ^ 64).toNat:Int) < 2 ^ 64:=by rw [Int.toNat_of_nonneg h1]; exact h2
 omega
theorem zgE {m:Nat} (hm:zbJ m) {i p j:Nat} (hi:i ≤ m) (hp:p < 2 ^ 64) (hj:j ≤ m):∃ t,t ≤ m + 13∧(zbF m t i p).1 = j:=by
 have p0:(zbF m 13 i p).2 = 0:=by
  rw [zc3]
  exact Nat.div_eq_of_lt (Nat.lt_of_lt_of_le hp (by decide))
 obtain ⟨a,ha,e⟩:=orbit hm (ze1 m 13 i p hi) hj
 refine ⟨13 + a,by omega,?_⟩
 rw [zd5,p0,zc9]
 exact e
theorem zcu {xs:Array Nat} {j:Nat} (up:xs.toList.Pairwise (· < ·)):∀ (n lo hi:Nat),hi - lo ≤ n->lo ≤ hi->hi ≤ xs.size->(∀ k,k < lo->xs.getD k j < j)->(∀ k,hi ≤ k->k < xs.size->j ≤ xs.getD k j) ->
  SetTable.below.go xs j n lo hi ≤ xs.size∧(∀ k,k < SetTable.below.go xs j n lo hi->xs.getD k j < j)∧∀ k,SetTable.below.go xs j n lo hi ≤ k->k < xs.size->j ≤ xs.getD k j:=by
 have gt:∀ a b,a < b->b < xs.size->xs.getD a j < xs.getD b j:=fun a b h1 h2=>by
  have:=List.pairwise_iff_getElem.mp up a b (by rw [Array.length_toList]; omega) (by rw [Array.length_toList]; omega) h1
  simpa [Array.getD,h2,Nat.lt_trans h1 h2] using this
 intro n
 induction n with
 | zero =>
  intro lo hi h1 h2 h3 h4 h5
  unfold SetTable.below.go
  exact ⟨by omega,h4,fun k hk=>h5 k (by omega)⟩
 | succ n ih =>
  intro lo hi h1 h2 h3 h4 h5
  unfold SetTable.below.go
  by_cases c:lo < hi
  ·rw [if_pos c]
   dsimp only
   by_cases d:xs.getD ((lo + hi) / 2) j < j
   ·rw [if_pos d]
    refine ih _ _ (by omega) (by omega) h3 (fun k hk=>?_) h5
    by_cases e:k = (lo + hi) / 2
    ·rw [e]; exact d
    ·exact Nat.lt_trans (gt k ((lo + hi) / 2) (by omega) (by omega)) d
   ·rw [if_neg d]
    refine ih _ _ (by omega) (by omega) (by omega) h4 (fun k hk hk2=>?_)
    by_cases e:k = (lo + hi) / 2
    ·rw [e]; omega
    ·have:=gt ((lo + hi) / 2) k (by omega) hk2
     omega
  ·rw [if_neg c]
   exact ⟨by omega,h4,fun k hk=>h5 k (by omega)⟩
theorem zbU {xs:Array Nat} {j:Nat} (up:xs.toList.Pairwise (· < ·)):SetTable.below xs j ≤ xs.size∧(∀ k,k < SetTable.below xs j->xs.getD k j < j)∧∀ k,SetTable.below xs j ≤ k->k < xs.size->j ≤ xs.getD k j :=
 zcu up _ _ _ (by omega) (Nat.zero_le _) (Nat.le_refl _) (fun k h=>absurd h (Nat.not_lt_zero _)) (fun k h1 h2=>by omega)
theorem zaB {α:Type} (xs:Array α) (p:Nat) (x:α):(SetTable.insertAt xs p x).toList = xs.toList.take p ++ x :: xs.toList.drop p:=by
 unfold SetTable.insertAt
 simp [Array.toList_extract,List.take_of_length_le]
theorem zgP {xs:Array Nat} {j:Nat} (up:xs.toList.Pairwise (· < ·)) (hj:j ∉ xs.toList):(SetTable.insertAt xs (SetTable.below xs j) j).toList.Pairwise (· < ·):=by
 obtain ⟨h1,h2,h3⟩:=zbU (j:=j) up
 rw [zaB,List.pairwise_append]
 refine ⟨up.take,List.pairwise_cons.mpr ⟨fun y hy=>?_,up.drop⟩,fun x hx y hy=>?_⟩
 ·obtain ⟨k,hk⟩:=List.mem_iff_getElem?.mp hy
  rw [List.getElem?_drop] at hk
  obtain ⟨kl,ek⟩:=List.getElem?_eq_some_iff.mp hk
  rw [Array.length_toList] at kl
  have:=h3 _ (Nat.le_add_right _ k) kl
  have e2:xs.getD (SetTable.below xs j + k) j = y:=by rw [← ek]; simp [Array.getD,kl]
  rw [e2] at this
  exact Nat.lt_of_le_of_ne this fun z=>hj (by rw [z]; exact List.mem_of_getElem? hk)
 ·obtain ⟨k,hk⟩:=List.mem_iff_getElem?.mp hx
  obtain ⟨kl,ek⟩:=List.getElem?_eq_some_iff.mp hk
  rw [List.length_take,Array.length_toList] at kl
  rw [List.getElem?_take_of_lt (by omega)] at hk
  have xl:=(List.getElem?_eq_some_iff.mp hk).1
  rw [Array.length_toList] at xl
  have xj:x < j:=by
   have:=h2 k (by omega)
   have e2:xs.getD k j = x:=by
    have e3:=(List.getElem?_eq_some_iff.mp hk).2
    rw [← e3]; simp [Array.getD,xl]
   rw [e2] at this; exact this
  rcases List.mem_cons.mp hy with rfl | hy
  ·exact xj
  ·obtain ⟨k2,hk2⟩:=List.mem_iff_getElem?.mp hy
   rw [List.getElem?_drop] at hk2
   obtain ⟨kl2,ek2⟩:=List.getElem?_eq_some_iff.mp hk2
   rw [Array.length_toList] at kl2
   have:=h3 _ (Nat.le_add_right _ k2) kl2
   have e2:xs.getD (SetTable.below xs j + k2) j = y:=by rw [← ek2]; simp [Array.getD,kl2]
   rw [e2] at this
   omega
structure TOk (t:SetTable) (n:Nat):Prop where
 mask:zbJ t.mask
 up:t.place.toList.Pairwise (· < ·)
 le:∀ j ∈ t.place.toList,j ≤ t.mask
 dum:t.dummies = #[]
 sz:t.place.size = n
 room:n * 5 < t.mask * 3
theorem TOk.fits {t:SetTable} {n:Nat} (h:TOk t n):t.fits n = true:=by
 unfold SetTable.fits SetTable.fill
 rw [h.dum]
 have:=h.sz
 have:=h.room
 simp; omega
theorem TOk.odd {t:SetTable} {n:Nat} (h:TOk t n):t.gaveWay = false:=by
 unfold SetTable.gaveWay
 rcases h.mask with e | e | e | e | e <;> rw [e] <;> rfl
theorem zbW {t:SetTable} {j i:Nat} (h:t.slot j = .live i):t.place[i]? = some j:=by
 unfold SetTable.slot at h
 dsimp only at h
 split at h
 ·rename_i e; cases h; exact eq_of_beq e
 ·split at h <;> cases h
theorem zbe {t:SetTable} {j:Nat} (d:t.dummies = #[]):t.slot j ≠ .dummy:=by
 unfold SetTable.slot
 dsimp only
 split
 ·simp
 ·rw [d]
  have:SetTable.has #[] j = false:=by unfold SetTable.has; simp
  rw [this]; simp
theorem zb7 {t:SetTable} {j:Nat} (up:t.place.toList.Pairwise (· < ·)) (h:t.slot j = .empty):j ∉ t.place.toList:=fun m=>by
 obtain ⟨k,hk⟩:=List.mem_iff_getElem?.mp m
 obtain ⟨kl,ek⟩:=List.getElem?_eq_some_iff.mp hk
 rw [Array.length_toList] at kl
 obtain ⟨h1,h2,h3⟩:=zbU (j:=j) up
 have e2:t.place.getD k j = j:=by rw [← ek]; simp [Array.getD,kl]
 have k1:SetTable.below t.place j ≤ k:=by
  by_cases c:k < SetTable.below t.place j
  ·have:=h2 k c; omega
  ·omega
 have ke:SetTable.below t.place j = k:=by
  by_cases c:SetTable.below t.place j < k
  ·have a1:=h3 (SetTable.below t.place j) (Nat.le_refl _) (by omega)
   have a2:=List.pairwise_iff_getElem.mp up (SetTable.below t.place j) k (by rw [Array.length_toList]; omega) (by rw [Array.length_toList]; omega) c
   have bl:SetTable.below t.place j < t.place.size:=by omega
   have e3:t.place.getD (SetTable.below t.place j) j = t.place.toList[SetTable.below t.place j]'(by rw [Array.length_toList]; exact bl):=by simp [Array.getD,bl]
   rw [e3] at a1
   omega
  ·omega
 unfold SetTable.slot at h
 dsimp only at h
 rw [ke,if_pos (by rw [← Array.getElem?_toList,hk]; simp)] at h
 cases h
theorem zew {t:SetTable} {j:Nat} (d:t.dummies = #[]) (h:j ∉ t.place.toList):t.slot j = .empty:=by
 cases e:t.slot j with
 | empty=>rfl
 | dummy=>exact absurd e (zbe d)
 | live i=>exact absurd (List.mem_of_getElem? (by rw [Array.getElem?_toList]; exact zbW e)) h
theorem TOk.free {t:SetTable} {n:Nat} (h:TOk t n):∃ j,j ≤ t.mask∧t.slot j = .empty:=by
 apply Classical.byContradiction
 intro z
 have all:∀ j ∈ List.range (t.mask + 1),j ∈ t.place.toList:=fun j hj=>by
  apply Classical.byContradiction
  intro y
  exact z ⟨j,by have:=List.mem_range.mp hj; omega,zew h.dum y⟩
 have nd:(List.range (t.mask + 1)).Nodup:=List.nodup_range
 have:=nd.length_le_of_subset (l₂:=t.place.toList) (fun a ha=>all a ha)
 rw [List.length_range,Array.length_toList,h.sz] at this
 have:=h.room
 omega
noncomputable def pos (t:SetTable):Nat->SetTable.Probe->SetTable.Probe
 | 0,p=>p
 | a + 1,p=>pos t a (t.advance p)
theorem zcS (t:SetTable):∀ a b p,pos t (a + b) p = pos t b (pos t a p)
 | 0,b,p=>by rw [Nat.zero_add]; rfl
 | a + 1,b,p=>by rw [Nat.succ_add]; exact zcS t a b _
theorem zcs (t:SetTable) (a:Nat) (p:SetTable.Probe):pos t (a + 1) p = t.advance (pos t a p):=zcS t a 1 p
structure POk (t:SetTable) (p:SetTable.Probe):Prop where
 i:p.i ≤ t.mask
 j:p.j + p.more ≤ t.mask
 d:p.dummy = none
 m:p.more ≤ 9
theorem zcO {m i:Nat} (h:i ≤ m):i ≤ SetTable.runEnd m i∧SetTable.runEnd m i ≤ m∧SetTable.runEnd m i - i ≤ 9:=by
 unfold SetTable.runEnd
 split <;> omega
noncomputable def zbO (t:SetTable) (i p:Nat):SetTable.Probe:={ j:=i,more:=SetTable.runEnd t.mask i - i,i,perturb:=p,dummy:=none }
theorem zcp {t:SetTable} {i p:Nat} (h:i ≤ t.mask):POk t (zbO t i p):=by
 have:=zcO h
 exact ⟨h,by show i + (SetTable.runEnd t.mask i - i) ≤ t.mask; omega,rfl,this.2.2⟩
theorem zeH {m i p:Nat}:(SetTable.leap m i p).1 ≤ m:=by
 show (i * 5 + 1 + p / 32) % (m + 1) ≤ m
 exact Nat.le_of_lt_succ (Nat.mod_lt _ (Nat.succ_pos m))
theorem zdo {t:SetTable} {p:SetTable.Probe} (h:0 < p.more):t.advance p = { p with j:=p.j + 1,more:=p.more - 1 }:=by
 unfold SetTable.advance
 rw [if_pos h]
theorem zdE {t:SetTable} {p:SetTable.Probe} (h:p.more = 0) (d:p.dummy = none):t.advance p = zbO t (SetTable.leap t.mask p.i p.perturb).1 (SetTable.leap t.mask p.i p.perturb).2:=by
 unfold SetTable.advance zbO
 rw [if_neg (by omega)]
 cases p
 dsimp only at d ⊢
 rw [d]
theorem POk.adv {t:SetTable} {p:SetTable.Probe} (h:POk t p):POk t (t.advance p):=by
 by_cases c:0 < p.more
 ·rw [zdo c]
  exact ⟨h.i,by have:=h.j; show p.j + 1 + (p.more - 1) ≤ t.mask; omega,h.d,by have:=h.m; show p.more - 1 ≤ 9; omega⟩
 ·rw [zdE (by omega) h.d]
  exact zcp zeH
theorem POk.pos {t:SetTable}:∀ (a:Nat) {p:SetTable.Probe},POk t p->POk t (pos t a p)
 | 0,_,h=>h
 | a + 1,_,h=>POk.pos a h.adv
theorem zga {t:SetTable}:∀ (k:Nat) (p:SetTable.Probe),p.more = k->pos t k p = { p with j:=p.j + k,more:=0 }
 | 0,p,h=>by cases p; dsimp only at h; rw [h]; rfl
 | k + 1,p,h=>by
  show pos t k (t.advance p) = _
  rw [zdo (by omega),zga k _ (by show p.more - 1 = k; omega)]
  dsimp only
  rw [show p.j + 1 + k = p.j + (k + 1) by omega]
theorem zf3 {t:SetTable} {i p:Nat} (h:i ≤ t.mask):∃ k,k ≤ 10∧pos t k (zbO t i p) = zbO t (SetTable.leap t.mask i p).1 (SetTable.leap t.mask i p).2:=by
 refine ⟨SetTable.runEnd t.mask i - i + 1,by have:=(zcO h).2.2; omega,?_⟩
 rw [zcs,zga (SetTable.runEnd t.mask i - i) (zbO t i p) rfl,zdE rfl rfl]
 rfl
theorem zf1 {t:SetTable}:∀ (n i p:Nat),i ≤ t.mask->∃ k,k ≤ 10 * n∧pos t k (zbO t i p) = zbO t (zbF t.mask n i p).1 (zbF t.mask n i p).2
 | 0,i,p,h=>⟨0,by omega,rfl⟩
 | n + 1,i,p,h=>by
  obtain ⟨k,hk,e⟩:=zf3 (p:=p) h
  obtain ⟨k2,hk2,e2⟩:=zf1 n (SetTable.leap t.mask i p).1 (SetTable.leap t.mask i p).2 zeH
  refine ⟨k + k2,by omega,?_⟩
  rw [zcS,e,e2]
  rfl
theorem zhb (t:SetTable) (h:Int):t.probeStart h = zbO t (SetTable.bits h % (t.mask + 1)) (SetTable.bits h):=rfl
theorem zb1 (t:SetTable) (h:Int):SetTable.bits h % (t.mask + 1) ≤ t.mask:=Nat.le_of_lt_succ (Nat.mod_lt _ (Nat.succ_pos _))
noncomputable def tm (m:Nat):SetTable:={ mask:=m,place:=#[],dummies:=#[],finger:=0,led:=true,moves:=0,plain:=true }
theorem zhD (t:SetTable):∀ (a:Nat) (p:SetTable.Probe),pos t a p = pos (tm t.mask) a p
 | 0,_=>rfl
 | a + 1,p=>zhD t a (t.advance p)
noncomputable def pth (m:Nat) (h:Int) (a:Nat):Nat:=(pos (tm m) a ((tm m).probeStart h)).j
theorem zd9 (t:SetTable) (h:Int) (a:Nat):(pos t a (t.probeStart h)).j = pth t.mask h a:=by rw [zhD]; rfl
noncomputable def Pt (m:Nat) (occ:Nat->Prop) (h:Int) (j:Nat):Prop:=∃ a,pth m h a = j∧∀ b,b < a->occ (pth m h b)
theorem Pt.mono {m:Nat} {o o':Nat->Prop} {h:Int} {j:Nat} (x:Pt m o h j) (i:∀ j,o j->o' j):Pt m o' h j:=let ⟨a,e,y⟩:=x; ⟨a,e,fun b hb=>i _ (y b hb)⟩
theorem zf5 {t:SetTable}:∀ (k:Nat) (p:SetTable.Probe),k ≤ p.more->pos t k p = { p with j:=p.j + k,more:=p.more - k }
 | 0,p,_=>rfl
 | k + 1,p,h=>by
  show pos t k (t.advance p) = _
  rw [zdo (by omega),zf5 k _ (by show k ≤ p.more - 1; omega)]
  dsimp only
  rw [show p.j + 1 + k = p.j + (k + 1) by omega,show p.more - 1 - k = p.more - (k + 1) by omega]
theorem TOk.comes {t:SetTable} {n:Nat} (x:TOk t n) (h:Int):∃ K,K ≤ 10 * (t.mask + 13)∧t.slot (pos t K (t.probeStart h)).j = .empty:=by
 obtain ⟨j,hj,e⟩:=x.free
 obtain ⟨u,hu,e2⟩:=zgE x.mask (zb1 t h) (zfT h) hj
 obtain ⟨k,hk,e3⟩:=zf1 u _ (SetTable.bits h) (zb1 t h)
 refine ⟨k,by omega,?_⟩
 rw [zhb,e3]
 show t.slot (zbF t.mask u _ _).1 = _
 rw [e2,e]
theorem go_ok {t:SetTable} {n:Nat} (x:TOk t n) {hashAt:Nat->Int} {h:Int} {s:SetTable.Probe} (ps:POk t s) {K:Nat} (he:t.slot (pos t K s).j = .empty):∀ (fuel a:Nat),a ≤ K->K - a < fuel ->
  ∃ b,a ≤ b∧b ≤ K∧(∀ c,a ≤ c->c < b->∃ i,t.slot (pos t c s).j = .live i∧hashAt i ≠ h)∧((t.slot (pos t b s).j = .empty∧SetTable.probe.go t hashAt h fuel (pos t a s) = some (.empty (pos t b s).j none)) ∨
   (b < K∧∃ i,t.slot (pos t b s).j = .live i∧hashAt i = h∧SetTable.probe.go t hashAt h fuel (pos t a s) = some (.candidate (pos t b s).j i (pos t (b + 1) s)))):=by
 intro fuel
 induction fuel with
 | zero=>intro a _ h; omega
 | succ fuel ih =>
  intro a ha hf
  have step:t.slot (pos t a s).j ≠ .empty->a < K:=fun z=>by
   by_cases c:a = K
   ·subst c; exact absurd he z
   ·omega
  cases e:t.slot (pos t a s).j with
  | empty =>
   refine ⟨a,Nat.le_refl _,ha,fun c _ _=>by omega,.inl ⟨e,?_⟩⟩
   unfold SetTable.probe.go
   rw [e]
   dsimp only
   rw [(ps.pos a).d]
  | dummy=>exact absurd e (zbe x.dum)
  | live i =>
   have aK:=step (by rw [e]; simp)
   by_cases c:hashAt i = h
   ·refine ⟨a,Nat.le_refl _,ha,fun c _ _=>by omega,.inr ⟨aK,i,e,c,?_⟩⟩
    unfold SetTable.probe.go
    rw [e]
    dsimp only
    rw [if_pos (by simpa using c),zcs]
   ·obtain ⟨b,h1,h2,h0,h3⟩:=ih (a + 1) (by omega) (by omega)
    refine ⟨b,by omega,h2,fun d d1 d2=>?_,?_⟩
    ·by_cases cd:d = a
     ·subst cd; exact ⟨i,e,c⟩
     ·exact h0 d (by omega) d2
    have e2:SetTable.probe.go t hashAt h (fuel + 1) (pos t a s) = SetTable.probe.go t hashAt h fuel (pos t (a + 1) s):=by
     rw [SetTable.probe.go,e]
     dsimp only
     rw [if_neg (by simpa using c),zcs]
    rw [e2]
    exact h3
theorem TOk.put {t:SetTable} {n j:Nat} (x:TOk t n) (hj:j ≤ t.mask) (he:t.slot j = .empty):(t.put j).2 = SetTable.below t.place j∧(t.put j).1 = { t with place:=SetTable.insertAt t.place (SetTable.below t.place j) j } ∧
  (SetTable.insertAt t.place (SetTable.below t.place j) j).toList.Pairwise (· < ·)∧(∀ k ∈ (SetTable.insertAt t.place (SetTable.below t.place j) j).toList,k ≤ t.mask)∧(SetTable.insertAt t.place (SetTable.below t.place j) j).size = n + 1:=by
 have nj:=zb7 x.up he
 refine ⟨rfl,?_,zgP x.up nj,fun k hk=>?_,?_⟩
 ·unfold SetTable.put
  dsimp only
  rw [if_neg (by rw [x.dum]; unfold SetTable.has; simp)]
 ·rw [zaB] at hk
  rcases List.mem_append.mp hk with h | h
  ·exact x.le k (List.mem_of_mem_take h)
  ·rcases List.mem_cons.mp h with rfl | h
   ·exact hj
   ·exact x.le k (List.mem_of_mem_drop h)
 ·rw [← Array.length_toList,zaB,List.length_append,List.length_cons,List.length_take,List.length_drop,Array.length_toList,x.sz]
  have:=(zbU (j:=j) x.up).1
  rw [x.sz] at this
  omega
theorem zhR {m:Nat} (hm:zbJ m) {owner:Array (Option Nat)} (sz:owner.size = m + 1) {j0:Nat} (hj:j0 ≤ m) (hn:owner.getD j0 (some 0) = none):∀ (fuel i p T:Nat),i ≤ m->(zbF m T i p).1 = j0->T < fuel ->
  ∃ j,SetTable.layClean.free m owner fuel i p = some j∧j ≤ m∧owner.getD j (some 0) = none∧∃ a,(pos (tm m) a (zbO (tm m) i p)).j = j∧∀ b,b < a->owner.getD (pos (tm m) b (zbO (tm m) i p)).j (some 0) ≠ none:=by
 intro fuel
 induction fuel with
 | zero=>intro i p T _ _ h; omega
 | succ fuel ih =>
  intro i p T hi hT hf
  unfold SetTable.layClean.free
  have re:=zcO hi
  cases e:(List.range (SetTable.runEnd m i + 1 - i)).find? fun k=>(owner.getD (i + k) (some 0)).isNone with
  | some k =>
   have h1:=List.find?_some e
   have h2:=List.mem_range.mp (List.mem_of_find?_eq_some e)
   have rn:∀ b,b ≤ k->(pos (tm m) b (zbO (tm m) i p)).j = i + b:=fun b hb=>by rw [zf5 b _ (by show b ≤ SetTable.runEnd m i - i; omega)]; rfl
   refine ⟨i + k,rfl,by omega,by simpa using h1,k,rn k (Nat.le_refl _),fun b hb=>?_⟩
   rw [rn b (by omega)]
   have:=(List.find?_range_eq_some.mp e).2.2 b hb
   intro z
   rw [z] at this
   exact absurd this (by decide)
  | none =>
   dsimp only
   cases T with
   | zero =>
    have h1:=List.find?_eq_none.mp e 0 (List.mem_range.mpr (by omega))
    have:i = j0:=hT
    rw [Nat.add_zero,this,hn] at h1
    simp at h1
   | succ T =>
    obtain ⟨j,z1,z2,z3,a,z4,z5⟩:=ih _ _ T zeH hT (by omega)
    have nx:pos (tm m) (SetTable.runEnd m i - i + 1) (zbO (tm m) i p) = zbO (tm m) (SetTable.leap m i p).1 (SetTable.leap m i p).2:=by
     rw [zcs,zga (SetTable.runEnd m i - i) (zbO (tm m) i p) rfl,zdE rfl rfl]
     rfl
    refine ⟨j,z1,z2,z3,SetTable.runEnd m i - i + 1 + a,by rw [zcS,nx]; exact z4,fun b hb=>?_⟩
    by_cases cb:b < SetTable.runEnd m i - i + 1
    ·rw [zf5 b _ (by show b ≤ SetTable.runEnd m i - i; omega)]
     have h1:=List.find?_eq_none.mp e b (List.mem_range.mpr (by omega))
     show owner.getD (i + b) (some 0) ≠ none
     simpa using h1
    ·have:b = SetTable.runEnd m i - i + 1 + (b - (SetTable.runEnd m i - i + 1)):=by omega
     rw [this,zcS,nx]
     exact z5 _ (by omega)
theorem zhs {l:List (Option Nat)} {j k:Nat} (h:l[j]? = some none):((l.set j (some k)).filterMap id).Perm (k :: l.filterMap id):=by
 induction l generalizing j with
 | nil=>simp at h
 | cons x l ih =>
  cases j with
  | zero =>
   simp only [List.getElem?_cons_zero,Option.some.injEq] at h
   subst h
   simp
  | succ j =>
   rw [List.getElem?_cons_succ] at h
   have:=ih h
   rw [List.set_cons_succ]
   cases x with
   | none=>simpa using this
   | some y =>
    simp only [List.filterMap_cons,id]
    exact (this.cons y).trans (.swap ..)
structure OwnOk (m:Nat) (hf:Nat->Int) (owner:Array (Option Nat)) (k:Nat):Prop where
 sz:owner.size = m + 1
 pm:(owner.toList.filterMap id).Perm (List.range k)
 pt:∀ j k',owner[j]? = some (some k')->Pt m (fun j=>∃ k,owner[j]? = some (some k)) (hf k') j
theorem ziI {m:Nat} {h:Int} {a:Nat}:pth m h a ≤ m:=by
 have:=((zcp (t:=tm m) (p:=SetTable.bits h) (zb1 (tm m) h)).pos a).j
 exact Nat.le_trans (Nat.le_add_right _ _) this
theorem OwnOk.free {m k:Nat} {hf:Nat->Int} {owner:Array (Option Nat)} (x:OwnOk m hf owner k) (hk:k ≤ m):∃ j,j ≤ m∧owner.getD j (some 0) = none:=by
 apply Classical.byContradiction
 intro z
 have all:∀ y ∈ owner.toList,(id y).isSome = true:=fun y hy=>by
  obtain ⟨j,hj⟩:=List.mem_iff_getElem?.mp hy
  obtain ⟨jl,ej⟩:=List.getElem?_eq_some_iff.mp hj
  rw [Array.length_toList,x.sz] at jl
  cases y with
  | some v=>rfl
  | none =>
   refine absurd ⟨j,by omega,?_⟩ z
   simp only [Array.getElem_toList] at ej
   simp [Array.getD,x.sz,jl,ej]
 have l1:(owner.toList.filterMap id).length = owner.toList.length:=by
  have:∀ l:List (Option Nat),(∀ y ∈ l,(id y).isSome = true)->(l.filterMap id).length = l.length:=by
   intro l
   induction l with
   | nil=>intro _; rfl
   | cons y l ih =>
    intro h
    have:=h y (by simp)
    cases y with
    | none=>cases this
    | some v =>
     rw [List.filterMap_cons]
     simp only [id,List.length_cons]
     exact congrArg (· + 1) (ih fun q hq=>h q (by simp [hq]))
  exact this _ all
 rw [x.pm.length_eq,List.length_range,Array.length_toList,x.sz] at l1
 omega
theorem zeM {m:Nat} {hf:Nat->Int} (hm:zbJ m):∀ (hs:List Int) (owner:Array (Option Nat)) (k:Nat),OwnOk m hf owner k->k + hs.length ≤ m->(∀ i h,hs[i]? = some h->hf (k + i) = h) ->
  ∃ o2,(hs.foldl (fun acc h=>do
    let (owner,k) ← acc
    let j ← SetTable.layClean.free m owner (SetTable.turns m) (SetTable.bits h % (m + 1)) (SetTable.bits h)
    pure (owner.setIfInBounds j (some k),k + 1)) (some (owner,k))) = some (o2,k + hs.length)∧OwnOk m hf o2 (k + hs.length):=by
 intro hs
 induction hs with
 | nil=>intro owner k x _ _; exact ⟨owner,rfl,x⟩
 | cons h hs ih =>
  intro owner k x hk hh
  rw [List.length_cons] at hk
  obtain ⟨j0,hj0,hn0⟩:=x.free (by omega)
  have hi:SetTable.bits h % (m + 1) ≤ m:=Nat.le_of_lt_succ (Nat.mod_lt _ (Nat.succ_pos _))
  obtain ⟨T,hT,eT⟩:=zgE hm hi (zfT h) hj0
  obtain ⟨j,ej,hj,hn,pa,pa1,pa2⟩:=zhR hm x.sz hj0 hn0 (SetTable.turns m) _ _ T hi eT (by unfold SetTable.turns; omega)
  have x2:OwnOk m hf (owner.setIfInBounds j (some k)) (k + 1):=by
   have jl':j < owner.size:=by rw [x.sz]; omega
   have st:∀ i,(∃ q,owner[i]? = some (some q))->∃ q,(owner.setIfInBounds j (some k))[i]? = some (some q):=fun i hq=>by
    by_cases c:j = i
    ·subst c; exact ⟨k,by rw [Array.getElem?_setIfInBounds_self_of_lt jl']⟩
    ·rw [Array.getElem?_setIfInBounds_ne c]; exact hq
   refine ⟨by rw [Array.size_setIfInBounds,x.sz],?_,fun i k' e=>?_⟩
   rotate_left
   ·by_cases c:j = i
    ·subst c
     rw [Array.getElem?_setIfInBounds_self_of_lt jl'] at e
     cases e
     refine ⟨pa,?_,fun b hb=>st _ ?_⟩
     ·have e0:=hh 0 h rfl
      rw [Nat.add_zero] at e0
      rw [e0]
      exact pa1
     ·have e0:=hh 0 h rfl
      rw [Nat.add_zero] at e0
      rw [e0]
      have z:owner.getD (pth m h b) (some 0) ≠ none:=pa2 b hb
      have bl:pth m h b < owner.size:=by rw [x.sz]; exact Nat.lt_succ_of_le ziI
      cases eq:owner[pth m h b]? with
      | none=>rw [Array.getElem?_eq_none_iff] at eq; omega
      | some v =>
       cases v with
       | some q=>exact ⟨q,rfl⟩
       | none =>
        refine absurd ?_ z
        rw [Array.getD_eq_getD_getElem?,eq]
        rfl
    ·rw [Array.getElem?_setIfInBounds_ne c] at e
     exact (x.pt i k' e).mono st
   have h1:owner.toList[j]? = some none:=by
    have jl:j < owner.size:=by rw [x.sz]; omega
    rw [Array.getElem?_toList,Array.getElem?_eq_getElem jl]
    simp only [Array.getD,jl,dite_true] at hn
    exact congrArg some hn
   rw [Array.toList_setIfInBounds]
   refine (zhs h1).trans ((x.pm.cons k).trans ?_)
   rw [List.range_succ]
   exact (List.perm_append_singleton k (List.range k)).symm
  obtain ⟨o2,e2,x3⟩:=ih _ _ x2 (by omega) fun i h' e=>by rw [show k + 1 + i = k + (i + 1) by omega]; exact hh (i + 1) h' e
  refine ⟨o2,?_,by rw [List.length_cons,show k + (hs.length + 1) = k + 1 + hs.length by omega]; exact x3⟩
  rw [List.foldl_cons,List.length_cons,show k + (hs.length + 1) = k + 1 + hs.length by omega,← e2]
  congr 1
  show (Option.bind (some (owner,k)) _) = _
  simp only [Option.bind_some,ej,bind,pure]
theorem zdk {α β:Type} {f g:α->Option β}:∀ {l:List α},(∀ a ∈ l,f a = g a)->l.filterMap f = l.filterMap g
 | [],_=>rfl
 | a :: l,h=>by rw [List.filterMap_cons,List.filterMap_cons,h a (by simp),zdk (l:=l) fun b hb=>h b (by simp [hb])]
theorem zhe (o:Array (Option Nat)):(((List.range o.size).filterMap fun j=>(o.getD j none).map fun k=>(j,k)).map (·.2)) = o.toList.filterMap id:=by
 have key:∀ (l:List (Option Nat)),(((List.range l.length).filterMap fun j=>(l.getD j none).map fun k=>(j,k)).map (·.2)) = l.filterMap id:=by
  intro l
  rw [List.map_filterMap]
  have:l = (List.range l.length).map fun j=>l.getD j none:=by
   apply List.ext_getElem?
   intro i
   rw [List.getElem?_map]
   by_cases c:i < l.length
   ·rw [List.getElem?_range c,List.getElem?_eq_getElem c]
    simp [List.getD_eq_getElem?_getD,List.getElem?_eq_getElem c]
   ·rw [List.getElem?_eq_none (by omega),List.getElem?_eq_none (by rw [List.length_range]; omega)]; rfl
  conv=>rhs; rw [this,List.filterMap_map]
  refine zdk fun j _=>?_
  simp only [Function.comp,id]
  cases l.getD j none <;> rfl
 have:=key o.toList
 rw [Array.length_toList] at this
 rw [← this]
 congr 1
 refine zdk fun j _=>?_
 simp [Array.getD,List.getD_eq_getElem?_getD]
 by_cases c:j < o.size
 ·simp [c]
 ·simp [c]
theorem zhj (o:Array (Option Nat)) (n:Nat):(((List.range n).filterMap fun j=>(o.getD j none).map fun k=>(j,k)).map (·.1)).Pairwise (· < ·)∧∀ j ∈ (((List.range n).filterMap fun j=>(o.getD j none).map fun k=>(j,k)).map (·.1)),j < n:=by
 have e:(((List.range n).filterMap fun j=>(o.getD j none).map fun k=>(j,k)).map (·.1)) = (List.range n).filter fun j=>(o.getD j none).isSome:=by
  generalize List.range n = l
  induction l with
  | nil=>rfl
  | cons j l ih =>
   rw [List.filterMap_cons,List.filter_cons]
   cases c:o.getD j none with
   | none=>simpa [c] using ih
   | some k=>simpa [c] using ih
 rw [e]
 exact ⟨List.pairwise_lt_range.filter _,fun j hj=>List.mem_range.mp (List.mem_filter.mp hj).1⟩
theorem zgX (n:Nat):(List.replicate n (none:Option Nat)).filterMap id = []:=by
 induction n with
 | zero=>rfl
 | succ n ih=>rw [List.replicate_succ,List.filterMap_cons]; exact ih
theorem zik {m:Nat} (hm:zbJ m) (fi mo:Nat) (led plain:Bool) {hs:Array Int} (hn:hs.size * 5 < m * 3) :
  ∃ t order,SetTable.laid m fi mo led plain hs = some (t,order)∧TOk t hs.size∧t.led = led∧t.plain = plain∧t.mask = m∧order.toList.Perm (List.range hs.size)∧∀ (i j k:Nat),t.place[i]? = some j->order[i]? = some k->Pt m (· ∈ t.place.toList) (hs.getD k 0) j:=by
 have x0:OwnOk m (fun k=>hs.getD k 0) (Array.replicate (m + 1) none) 0:=⟨by simp,by rw [Array.toList_replicate,zgX]; exact .refl _,fun j k' e=>by
  rw [Array.getElem?_replicate] at e
  split at e <;> cases e⟩
 obtain ⟨o,eo,xo⟩:=zeM hm hs.toList _ 0 x0 (by rw [Array.length_toList]; omega) fun i h e=>by
  rw [Nat.zero_add,Array.getD_eq_getD_getElem?,← Array.getElem?_toList,e]; rfl
 rw [Nat.zero_add,Array.length_toList] at eo xo
 have e1:SetTable.layClean m hs = some o:=by
  unfold SetTable.layClean
  rw [← Array.foldl_toList]
  exact congrArg (Option.map (·.1)) eo
 have pl:=zhj o (m + 1)
 have sd:=zhe o
 rw [xo.sz] at sd
 refine ⟨{ mask:=m,place:=(((List.range (m + 1)).filterMap fun j=>(o.getD j none).map fun k=>(j,k)).map (·.1)).toArray,dummies:=#[],finger:=fi,led:=led,moves:=mo,plain:=plain },(((List.range (m + 1)).filterMap fun j=>(o.getD j none).map fun k=>(j,k)).map (·.2)).toArray,?_,⟨hm,pl.1,fun j hj=>Nat.le_of_lt_succ (pl.2 j hj),rfl,?_,hn⟩,rfl,rfl,rfl,?_,fun i j k e1 e2=>?_⟩
 ·unfold SetTable.laid
  rw [e1]
  rfl
 ·have:=congrArg List.length sd
  rw [xo.pm.length_eq,List.length_range,List.length_map] at this
  simpa using this
 ·show (((List.range (m + 1)).filterMap fun j=>(o.getD j none).map fun k=>(j,k)).map (·.2)).Perm _
  rw [sd]
  exact xo.pm
 ·rw [List.getElem?_toArray,List.getElem?_map] at e1 e2
  cases e:((List.range (m + 1)).filterMap fun j=>(o.getD j none).map fun k=>(j,k))[i]? with
  | none=>rw [e] at e1; cases e1
  | some z =>
   rw [e] at e1 e2
   cases e1
   cases e2
   have inl:∀ j k,o[j]? = some (some k)->(j,k) ∈ (List.range (m + 1)).filterMap fun j=>(o.getD j none).map fun k=>(j,k):=fun j k h=>by
    have jl:j < m + 1:=by
     have:=(Array.getElem?_eq_some_iff.mp h).1
     rw [xo.sz] at this
     exact this
    exact List.mem_filterMap.mpr ⟨j,List.mem_range.mpr jl,by rw [Array.getD_eq_getD_getElem?,h]; rfl⟩
   obtain ⟨j',_,h2⟩:=List.mem_filterMap.mp (List.mem_of_getElem? e)
   have oz:o[z.1]? = some (some z.2):=by
    cases eo2:o[j']? with
    | none=>rw [Array.getD_eq_getD_getElem?,eo2] at h2; cases h2
    | some v =>
     rw [Array.getD_eq_getD_getElem?,eo2] at h2
     cases v with
     | none=>cases h2
     | some k=>cases h2; exact eo2
   exact (xo.pt z.1 z.2 oz).mono fun j ⟨k,hk⟩=>List.mem_map.mpr ⟨(j,k),inl j k hk,rfl⟩
theorem zfB {α:Type} {es:Array α} {order:Array Nat} (h:order.toList.Perm (List.range es.size)):(order.filterMap (es[·]?)).toList.Perm es.toList:=by
 rw [Array.toList_filterMap]
 refine (h.filterMap _).trans ?_
 have:∀ l:List α,(List.range l.length).filterMap (l[·]?) = l:=by
  intro l
  induction l with
  | nil=>rfl
  | cons x l ih =>
   rw [List.length_cons,List.range_succ_eq_map,List.filterMap_cons]
   simp only [List.getElem?_cons_zero,List.filterMap_map]
   have:((fun x_1=>(x :: l)[x_1]?) ∘ Nat.succ) = (l[·]?):=by funext i; simp
   rw [this,ih]
 have e:=this es.toList
 rw [Array.length_toList] at e
 have e2:(fun (x:Nat)=>es[x]?) = fun x=>es.toList[x]?:=by funext i; simp
 rw [e2,e]
theorem zia {m n:Nat} (hm:zbJ m) (h0:n * 5 < m * 3) (h1:(n + 1) * 5 ≥ m * 3) (h2:n < 1000):zbJ (SetTable.sizeAbove (SetTable.grown (n + 1)) - 1)∧(n + 1) * 5 < (SetTable.sizeAbove (SetTable.grown (n + 1)) - 1) * 3∧SetTable.sizeAbove (SetTable.grown (n + 1)) ≤ 2048:=by
 rcases hm with rfl | rfl | rfl | rfl | rfl
 ·have:n = 4:=by omega
  subst this; exact ⟨.inr (.inl (by decide +kernel)),by decide +kernel,by decide +kernel⟩
 ·have:n = 18:=by omega
  subst this; exact ⟨.inr (.inr (.inl (by decide +kernel))),by decide +kernel,by decide +kernel⟩
 ·have:n = 76:=by omega
  subst this; exact ⟨.inr (.inr (.inr (.inl (by decide +kernel)))),by decide +kernel,by decide +kernel⟩
 ·have:n = 306:=by omega
  subst this; exact ⟨.inr (.inr (.inr (.inr (by decide +kernel)))),by decide +kernel,by decide +kernel⟩
 ·omega
theorem zgU (led:Bool):TOk (.fresh 0 0 led) 0:=⟨.inl rfl,.nil,(fun j h=>by cases h),rfl,rfl,(show 0 * 5 < 7 * 3 by decide)⟩
theorem zhZ {t:SetTable} {i j:Nat} (up:t.place.toList.Pairwise (· < ·)) (d:t.dummies = #[]) (h:t.place[i]? = some j):t.slot j = .live i:=by
 have m:j ∈ t.place.toList:=List.mem_of_getElem? (by rw [Array.getElem?_toList]; exact h)
 cases e:t.slot j with
 | empty=>exact absurd m (zb7 up e)
 | dummy=>exact absurd e (zbe d)
 | live k =>
  have:=zbW e
  rw [← Array.getElem?_toList] at this h
  have nd:t.place.toList.Nodup:=up.imp fun h=>Nat.ne_of_lt h
  rw [(List.getElem?_inj (List.getElem?_eq_some_iff.mp this).1 nd).mp (this.trans h.symm)]
theorem zhO {α:Type} {xs:Array α} {p:Nat} {x:α} (hp:p ≤ xs.size) {i:Nat} {y:α} (h:(SetTable.insertAt xs p x)[i]? = some y):(i < p∧xs[i]? = some y) ∨ (i = p∧y = x) ∨ (p < i∧xs[i - 1]? = some y):=by
 rw [← Array.getElem?_toList,zaB] at h
 have l:(xs.toList.take p).length = p:=by rw [List.length_take,Array.length_toList]; omega
 by_cases c:i < p
 ·rw [List.getElem?_append_left (by omega),List.getElem?_take_of_lt c,Array.getElem?_toList] at h
  exact .inl ⟨c,h⟩
 ·rw [List.getElem?_append_right (by omega),l] at h
  by_cases c2:i = p
  ·subst c2
   rw [Nat.sub_self] at h
   cases h
   exact .inr (.inl ⟨rfl,rfl⟩)
  ·rw [show i - p = (i - 1 - p) + 1 by omega,List.getElem?_cons_succ,List.getElem?_drop,show p + (i - 1 - p) = i - 1 by omega,Array.getElem?_toList] at h
   exact .inr (.inr ⟨by omega,h⟩)
end STb
end L2
set_option Elab.async false
set_option linter.all false
set_option maxRecDepth 100000
namespace L2
namespace STb
open PySem
section
variable {prog:Program} {w:World} {A:Around} {E:Value->Shared->Prop} {s:Shared}
noncomputable def SObj (es:Array (Int × Value)) (ep:Nat) (t:SetTable):Obj:={ cls:=.type "set",data:=.set es ep t }
structure SetT (prog:Program) (w:World) (h:Heap) (S:Addr) (es:Array (Int × Value)) (ep:Nat) (t:SetTable) (xs:List (List Key × Addr)):Prop where
 ob:h.get? S = some (SObj es ep t)
 ok:TOk t es.size
 all:∀ e ∈ es.toList,∃ x ∈ xs,e = ((tupleKind (zae prog w)).hash x.1,Value.ref x.2)
 is:∀ x ∈ xs,(tupleKind (zae prog w)).is h x.1 x.2
 len:es.size = xs.length
 mem:∀ x ∈ xs,((tupleKind (zae prog w)).hash x.1,Value.ref x.2) ∈ es.toList
 rc:∀ (i j:Nat) (e:Int × Value),t.place[i]? = some j->es[i]? = some e->Pt t.mask (· ∈ t.place.toList) e.1 j
theorem zbY {ks:List Key} {a:Addr} {Q:Bool->Shared->Prop} (hk:(tupleKind (zae prog w)).is s.heap ks a) (h:Q false s):wpAny (model prog w) A (ofAClassStatement 8 (.ref a)) Q E s:=by
 have hT:s.TypeIs (.ref a) "tuple":=IsTupleKey.typeIs (knd:=zae prog w) hk
 obtain ⟨o,items,n,ho,_,hd,hi⟩:=(show IsTupleKey (zae prog w) s.heap ks a from hk)
 unfold ofAClassStatement
 refine wpAny_bind (wpAny_typeOf hT ?_)
 show wpAny _ _ ((pure true:Sem Bool) >>= _) _ _ s
 refine wpAny_bind (wpAny_pure ?_)
 simp only [Bool.not_true,Bool.false_eq_true,if_false]
 refine wpAny_bind (wpAny_seqItems ho hd ?_)
 dsimp only
 refine wpAny_bind ?_
 rw [← Array.forIn_toList]
 refine wpAny_forIn_list _ (fun rest r s'=>r.1 = none∧s' = s∧∀ v ∈ rest,carriedByValue v = true) _ ?_ ?_ _ _ ⟨rfl,rfl,hi.byValue⟩
 ·rintro v rest r s' ⟨hr,rfl,hall⟩
  have hv:=hall v List.mem_cons_self
  have:ofAClassStatement 7 v = pure false:=by
   cases v with
   | ref a=>simp [carriedByValue] at hv
   | _=>first | rfl | simp [ofAClassStatement] | (unfold ofAClassStatement; rfl)
  rw [this]
  refine wpAny_bind (wpAny_pure ?_)
  simp only [Bool.false_eq_true,if_false]
  exact wpAny_pure ⟨rfl,rfl,fun u hu'=>hall u (List.mem_cons_of_mem _ hu')⟩
 ·rintro ⟨r1,r2⟩ s' ⟨hr,rfl,_⟩
  simp only at hr
  subst hr
  exact wpAny_pure h
theorem zjg {ks:List Key} {a:Addr} (hk:(tupleKind (zae prog w)).is s.heap ks a) {st:List Value} (hs:∀ y ∈ st,∃ kb b,y = Value.ref b∧(tupleKind (zae prog w)).is s.heap kb b) {Q:Bool->Shared->Prop} (h:Q false s) :
  wpAny (model prog w) A (searchCouldBeSeen (.ref a) st) Q E s:=by
 unfold searchCouldBeSeen
 refine wpAny_bind ?_
 refine wpAny_forIn_list _ (fun rest r s'=>r.1 = none∧s' = s∧∀ y ∈ rest,∃ kb b,y = Value.ref b∧(tupleKind (zae prog w)).is s.heap kb b) _ ?_ ?_ _ _ ⟨rfl,rfl,hs⟩
 ·rintro y rest r s' ⟨hr,rfl,hall⟩
  obtain ⟨kb,b,rfl,hb⟩:=hall y List.mem_cons_self
  have nxt:r.1 = none∧s' = s'∧∀ y ∈ rest,∃ kb b,y = Value.ref b∧(tupleKind (zae prog w)).is s'.heap kb b:=⟨hr,rfl,fun u hu=>hall u (List.mem_cons_of_mem _ hu)⟩
  dsimp only
  split
  ·exact wpAny_pure ⟨rfl,rfl,nxt.2.2⟩
  ·refine wpAny_bind ((tupleKind (zae prog w)).quiet hk ?_)
   simp only [Bool.not_true,Bool.false_eq_true,if_false]
   refine wpAny_bind ((tupleKind (zae prog w)).quiet hb ?_)
   simp only [Bool.not_true,Bool.false_eq_true,if_false]
   refine wpAny_bind (zbY hk ?_)
   simp only [Bool.false_eq_true,if_false]
   refine wpAny_bind (zbY hb ?_)
   simp only [Bool.false_eq_true,if_false]
   exact wpAny_pure ⟨rfl,rfl,nxt.2.2⟩
 ·rintro ⟨r1,r2⟩ s' ⟨hr,rfl,_⟩
  simp only at hr
  subst hr
  exact wpAny_pure h
theorem zeZ {t:SetTable} {n:Nat} (x:TOk t n) {hashAt:Nat->Int} {h:Int} {s:SetTable.Probe} (ps:POk t s) {K b:Nat} (he:t.slot (pos t K s).j = .empty) (hK:K ≤ 10 * (t.mask + 13)) (hb:b ≤ K) {met:Option SetTable.Met} (e:t.probe hashAt h (pos t b s) = met) :
  ∃ c,b ≤ c∧c ≤ K∧(∀ d,b ≤ d->d < c->∃ i,t.slot (pos t d s).j = .live i∧hashAt i ≠ h)∧((t.slot (pos t c s).j = .empty∧met = some (.empty (pos t c s).j none)) ∨ (c < K∧∃ i,t.slot (pos t c s).j = .live i∧met = some (.candidate (pos t c s).j i (pos t (c + 1) s)))):=by
 subst e
 obtain ⟨c,h1,h2,h0,h3⟩:=go_ok x (hashAt:=hashAt) (h:=h) ps he (10 * SetTable.turns t.mask) b hb (by unfold SetTable.turns; omega)
 refine ⟨c,h1,h2,h0,?_⟩
 rcases h3 with h | ⟨h4,i,h5,_,h6⟩
 ·exact .inl h
 ·exact .inr ⟨h4,i,h5,h6⟩
theorem zcV {S a:Addr} {ks:List Key} {es:Array (Int × Value)} {ep:Nat} {t:SetTable} {xs:List (List Key × Addr)} (hu:A.units < cLine) (x:SetT prog w s.heap S es ep t xs) (hk:(tupleKind (zae prog w)).is s.heap ks a) {K:Nat} {h:Int} (eh:h = (tupleKind (zae prog w)).hash ks)
  (he:t.slot (pos t K (t.probeStart h)).j = .empty) (hK:K ≤ 10 * (t.mask + 13)) {Q:SetFound->Shared->Prop} {fuel b:Nat} {st:Option SetTable.Probe} (hb:b ≤ K) (est:st.getD (t.probeStart h) = pos t b (t.probeStart h))
  (q0:∀ c,b ≤ c->c ≤ K->(∀ d,b ≤ d->d < c->∃ i,t.slot (pos t d (t.probeStart h)).j = .live i∧(es[i]?.map (·.1)).getD 0 ≠ h)->t.slot (pos t c (t.probeStart h)).j = .empty->Q (.free (pos t c (t.probeStart h)).j false) s)
  (q1:∀ c i,b ≤ c->c < K->(∀ d,b ≤ d->d < c->∃ i,t.slot (pos t d (t.probeStart h)).j = .live i∧(es[i]?.map (·.1)).getD 0 ≠ h)->t.slot (pos t c (t.probeStart h)).j = .live i->∃ y ∈ xs,es[i]? = some ((tupleKind (zae prog w)).hash y.1,Value.ref y.2)∧(y.1 = ks->Q (.there none) s)∧(y.1 ≠ ks->wpAny (model prog w) A (setSearchFrom S (.ref a) h true fuel (some (pos t (c + 1) (t.probeStart h)))) Q E s)) :
  wpAny (model prog w) A (setSearchFrom S (.ref a) h true (fuel + 1) st) Q E s:=by
 have ps:POk t (t.probeStart h):=zcp (zb1 _ _)
 unfold setSearchFrom
 refine wpAny_bind (wpAny_setState_of x.ob rfl x.ok.fits ?_)
 dsimp only
 rw [if_neg (by rw [x.ok.odd]; simp)]
 rw [est]
 split
 ·rename_i met heq
  obtain ⟨c,c1,c2,c0,c3⟩:=zeZ x.ok ps he hK hb heq
  rcases c3 with ⟨c4,c5⟩ | ⟨c4,i,c5,c6⟩
  ·cases c5
   dsimp only
   exact wpAny_pure (q0 c c1 c2 c0 c4)
  ·cases c6
   dsimp only
   obtain ⟨y,hy,ei,qe,qn⟩:=q1 c i c1 c4 c0 c5
   have go:∀ {T:Sem SetFound},T = (do
     let some (_,y):=es[i]? | unsupported "internal:set-entry"
     let equal ← holding [y] (eqBool y (.ref a))
     let (es',_,t') ← setState S
     if true && equal then return .there none
     let some same:=t'.sameMemory t.moves t.mask | unsupported "set.changed-during-lookup:is-the-new-block-at-the-old-address"
     let still ← match (if same then t'.slot (pos t c (t.probeStart h)).j else .empty) with
      | .live i'=>match es'[i']? with
       | some (_,y')=>do pure (if ← isSame y' y then some i' else none)
       | none=>pure none
      | _=>pure none
     match still with
     | none=>rule "set.search.anew"; setSearchFrom S (.ref a) h true fuel none
     | some i'=>if equal then return .there (some i') else setSearchFrom S (.ref a) h true fuel (some (pos t (c + 1) (t.probeStart h))))->wpAny (model prog w) A T Q E s:=by
    intro T eT
    rw [eT,ei]
    dsimp only
    refine wpAny_bind (wpAny_holding ?_)
    refine (tupleKind (zae prog w)).eqBool (x:=y.1) (y:=ks) hu (x.is y hy) hk ?_
    refine wpAny_bind (wpAny_setState_of x.ob rfl x.ok.fits ?_)
    dsimp only
    by_cases ce:y.1 = ks
    ·rw [decide_eq_true ce]
     simp only [Bool.and_true,if_true]
     exact wpAny_pure (qe ce)
    ·rw [decide_eq_false ce]
     simp only [Bool.and_false,Bool.false_eq_true,if_false]
     have sm:t.sameMemory t.moves t.mask = some true:=by unfold SetTable.sameMemory; simp
     rw [sm]
     dsimp only
     rw [if_pos rfl,c5]
     dsimp only
     rw [ei]
     dsimp only
     refine wpAny_bind (wpAny_isSame_ref_self ?_)
     rw [if_pos rfl]
     refine wpAny_bind (wpAny_pure ?_)
     dsimp only
     exact qn ce
   rcases (show t.led = true ∨ t.led = false by cases t.led <;> simp) with hl | hl
   ·rw [if_neg (by rw [hl]; simp)]
    exact go rfl
   ·rw [if_pos (by rw [hl]; rfl)]
    refine wpAny_bind (zjg hk (fun z hz=>?_) ?_)
    ·obtain ⟨e,he',rfl⟩:=List.mem_map.mp hz
     have:=(Array.mem_filter.mp (Array.mem_toList_iff.mp he')).1
     obtain ⟨y2,hy2,ey2⟩:=x.all e (Array.mem_toList_iff.mpr this)
     exact ⟨y2.1,y2.2,by rw [ey2],x.is y2 hy2⟩
    ·rw [if_neg Bool.false_ne_true]
     exact go rfl
 ·rename_i hne
  obtain ⟨c,c1,c2,_,c3⟩:=zeZ x.ok ps he hK hb (met:=t.probe _ _ (pos t b (t.probeStart h))) rfl
  rcases c3 with ⟨c4,c5⟩ | ⟨c4,i,c5,c6⟩
  ·exact absurd c5 (hne _)
  ·exact absurd c6 (hne _)
theorem SetT.get {h:Heap} {S:Addr} {es:Array (Int × Value)} {ep:Nat} {t:SetTable} {xs:List (List Key × Addr)} (x:SetT prog w h S es ep t xs) {j i:Nat} (e:t.slot j = .live i):∃ y ∈ xs,es[i]? = some ((tupleKind (zae prog w)).hash y.1,Value.ref y.2):=by
 have il:i < es.size:=by rw [← x.ok.sz]; exact (Array.getElem?_eq_some_iff.mp (zbW e)).1
 obtain ⟨y,hy,ey⟩:=x.all es[i] (by rw [← Array.getElem_toList]; exact List.getElem_mem _)
 exact ⟨y,hy,by rw [Array.getElem?_eq_getElem il,ey]⟩
theorem ze3 {t:SetTable} {j i:Nat} (h:t.slot j = .live i):j ∈ t.place.toList:=List.mem_of_getElem? (by rw [Array.getElem?_toList]; exact zbW h)
theorem zfD {S a:Addr} {ks:List Key} {es:Array (Int × Value)} {ep:Nat} {t:SetTable} {xs:List (List Key × Addr)} (hu:A.units < cLine) (x:SetT prog w s.heap S es ep t xs) (hk:(tupleKind (zae prog w)).is s.heap ks a) (nw:∀ y ∈ xs,y.1 ≠ ks) {K:Nat}
  (he:t.slot (pos t K (t.probeStart ((tupleKind (zae prog w)).hash ks))).j = .empty) (hK:K ≤ 10 * (t.mask + 13)) {Q:SetFound->Shared->Prop} (q:∀ j,j ≤ t.mask->t.slot j = .empty->Pt t.mask (· ∈ t.place.toList) ((tupleKind (zae prog w)).hash ks) j->Q (.free j false) s) :
  ∀ (fuel b:Nat) (st:Option SetTable.Probe),b ≤ K->K - b < fuel->st.getD (t.probeStart ((tupleKind (zae prog w)).hash ks)) = pos t b (t.probeStart ((tupleKind (zae prog w)).hash ks))->(∀ d,d < b->pth t.mask ((tupleKind (zae prog w)).hash ks) d ∈ t.place.toList) ->
   wpAny (model prog w) A (setSearchFrom S (.ref a) ((tupleKind (zae prog w)).hash ks) true fuel st) Q E s:=by
 have ps:POk t (t.probeStart ((tupleKind (zae prog w)).hash ks)):=zcp (zb1 _ _)
 intro fuel
 induction fuel with
 | zero=>intro b st _ h; omega
 | succ fuel ih =>
  intro b st hb hf est bd
  have bd2:∀ c,(∀ d,b ≤ d->d < c->∃ i,t.slot (pos t d (t.probeStart ((tupleKind (zae prog w)).hash ks))).j = .live i∧(es[i]?.map (·.1)).getD 0 ≠ (tupleKind (zae prog w)).hash ks)->∀ d,d < c->pth t.mask ((tupleKind (zae prog w)).hash ks) d ∈ t.place.toList:=fun c c0 d hd=>by
   by_cases cb:d < b
   ·exact bd d cb
   ·obtain ⟨i,e,_⟩:=c0 d (by omega) hd
    rw [← zd9]
    exact ze3 e
  refine zcV hu x hk rfl he hK hb est (fun c c1 c2 c0 c4=>?_) fun c i c1 c4 c0 c5=>?_
  ·exact q _ (by have:=(ps.pos c).j; omega) c4 ⟨c,(zd9 t _ c).symm,bd2 c c0⟩
  ·obtain ⟨y,hy,ei⟩:=x.get c5
   refine ⟨y,hy,ei,fun z=>absurd z (nw y hy),fun _=>ih (c + 1) _ (by omega) (by omega) rfl fun d hd=>?_⟩
   by_cases cd:d = c
   ·subst cd; rw [← zd9]; exact ze3 c5
   ·exact bd2 c c0 d (by omega)
theorem zfu {S a:Addr} {ks:List Key} {es:Array (Int × Value)} {ep:Nat} {t:SetTable} {xs:List (List Key × Addr)} (hu:A.units < cLine) (x:SetT prog w s.heap S es ep t xs) (hk:(tupleKind (zae prog w)).is s.heap ks a) {z:List Key × Addr} (hz:z ∈ xs) (ez:z.1 = ks) {K:Nat}
  (he:t.slot (pos t K (t.probeStart ((tupleKind (zae prog w)).hash ks))).j = .empty) (hK:K ≤ 10 * (t.mask + 13)) {Q:SetFound->Shared->Prop} (q:Q (.there none) s) (st:Option SetTable.Probe) (est:st = none) :
   wpAny (model prog w) A (setSearchFrom S (.ref a) ((tupleKind (zae prog w)).hash ks) true 100000 st) Q E s:=by
 obtain ⟨i0,hi0⟩:=List.mem_iff_getElem?.mp (x.mem z hz)
 rw [Array.getElem?_toList,ez] at hi0
 have il:i0 < t.place.size:=by rw [x.ok.sz]; exact (Array.getElem?_eq_some_iff.mp hi0).1
 have hj0:=Array.getElem?_eq_getElem il
 obtain ⟨a0,e0,occ⟩:=x.rc i0 _ _ hj0 hi0
 dsimp only at e0 occ
 have sl0:t.slot (pos t a0 (t.probeStart ((tupleKind (zae prog w)).hash ks))).j = .live i0:=by
  rw [zd9,e0]
  exact zhZ x.ok.up x.ok.dum hj0
 have nemp:∀ d,d ≤ a0->t.slot (pos t d (t.probeStart ((tupleKind (zae prog w)).hash ks))).j ≠ .empty:=fun d hd e=>by
  by_cases c:d = a0
  ·subst c; rw [sl0] at e; cases e
  ·refine zb7 x.ok.up e ?_
   rw [zd9]
   exact occ d (by omega)
 have h0:(es[i0]?.map (·.1)).getD 0 = (tupleKind (zae prog w)).hash ks:=by rw [hi0]; rfl
 have aK:a0 < K:=by
  by_cases c:K ≤ a0
  ·exact absurd he (nemp K c)
  ·omega
 have m100:t.mask ≤ 2047:=by rcases x.ok.mask with e | e | e | e | e <;> omega
 have go:∀ (fuel b:Nat) (st:Option SetTable.Probe),b ≤ a0->K - b < fuel->st.getD (t.probeStart ((tupleKind (zae prog w)).hash ks)) = pos t b (t.probeStart ((tupleKind (zae prog w)).hash ks))->wpAny (model prog w) A (setSearchFrom S (.ref a) ((tupleKind (zae prog w)).hash ks) true fuel st) Q E s:=by
  intro fuel
  induction fuel with
  | zero=>intro b st _ h; omega
  | succ fuel ih =>
   intro b st hb hf est
   have le:∀ c,(∀ d,b ≤ d->d < c->∃ i,t.slot (pos t d (t.probeStart ((tupleKind (zae prog w)).hash ks))).j = .live i∧(es[i]?.map (·.1)).getD 0 ≠ (tupleKind (zae prog w)).hash ks)->c ≤ a0:=fun c c0=>by
    by_cases cc:c ≤ a0
    ·exact cc
    ·obtain ⟨i,e,n⟩:=c0 a0 hb (by omega)
     rw [sl0] at e
     cases e
     exact absurd h0 n
   refine zcV hu x hk rfl he hK (by omega) est (fun c c1 c2 c0 c4=>absurd c4 (nemp c (le c c0))) fun c i c1 c4 c0 c5=>?_
   by_cases ci:i = i0
   ·subst ci
    exact ⟨z,hz,by rw [ez]; exact hi0,fun _=>q,fun n=>absurd ez n⟩
   ·obtain ⟨y,hy,ei⟩:=x.get c5
    refine ⟨y,hy,ei,fun _=>q,fun _=>ih (c + 1) _ ?_ (by omega) rfl⟩
    have:=le c c0
    by_cases cc:c = a0
    ·subst cc; rw [sl0] at c5; cases c5; exact absurd rfl ci
    ·omega
 exact go 100000 0 st (Nat.zero_le _) (by omega) (by rw [est]; rfl)
theorem zdA {ks:List Key} {a:Addr} {Q:Bool->Shared->Prop} (hk:(tupleKind (zae prog w)).is s.heap ks a) (h:∀ b,Q b s):wpAny (model prog w) A (hashByValue 8 (.ref a)) Q E s:=by
 have hT:s.TypeIs (.ref a) "tuple":=IsTupleKey.typeIs (knd:=zae prog w) hk
 obtain ⟨o,items,n,ho,_,hd,hi⟩:=(show IsTupleKey (zae prog w) s.heap ks a from hk)
 unfold hashByValue
 refine wpAny_bind (wpAny_specialOf hT F.slot_tuple_hash.lookup ?_)
 show wpAny _ _ (seqItems? (.ref a) >>= _) _ _ s
 refine wpAny_bind (wpAny_seqItems ho hd ?_)
 refine wpAny_bind ?_
 show wpAny _ _ (forIn items _ _) _ _ s
 rw [← Array.forIn_toList]
 refine wpAny_forIn_list _ (fun rest r s'=>r.1 = none∧s' = s∧∀ v ∈ rest,carriedByValue v = true) _ ?_ ?_ _ _ ⟨rfl,rfl,hi.byValue⟩
 ·rintro v rest r s' ⟨hr,rfl,hall⟩
  have hv:=hall v List.mem_cons_self
  have:∃ b,hashByValue 7 v = pure b:=by
   cases v with
   | ref a=>simp [carriedByValue] at hv
   | _=>first | exact ⟨_,rfl⟩ | (unfold hashByValue; exact ⟨_,rfl⟩)
  obtain ⟨b,eb⟩:=this
  rw [eb]
  refine wpAny_bind (wpAny_pure ?_)
  cases b with
  | true =>
   simp only [Bool.not_true,Bool.false_eq_true,if_false]
   exact wpAny_pure ⟨rfl,rfl,fun u hu'=>hall u (List.mem_cons_of_mem _ hu')⟩
  | false =>
   simp only [Bool.not_false,if_true]
   exact wpAny_pure (wpAny_pure (h _))
 ·rintro ⟨r1,r2⟩ s' ⟨hr,rfl,_⟩
  simp only at hr
  subst hr
  exact wpAny_pure (h _)
theorem zhq {h h':Heap} {S b:Addr} {ks:List Key} {es:Array (Int × Value)} {ep:Nat} {t:SetTable} (ho:h.get? S = some (SObj es ep t)) (sb:Heap.SameBut S h h') (k:(tupleKind (zae prog w)).is h ks b):(tupleKind (zae prog w)).is h' ks b:=by
 obtain ⟨o,items,n,h1,h2,h3,h4⟩:=(show IsTupleKey (zae prog w) h ks b from k)
 have ne:b ≠ S:=fun e=>by rw [e,ho] at h1; cases h1; cases h3
 exact ⟨o,items,n,(sb.2 b ne).trans h1,h2,h3,h4⟩
theorem zjc {α β:Type} {f:α->Option β}:∀ {l:List α} {i:Nat} {e:β},(∀ k ∈ l,∃ y,f k = some y)->(l.filterMap f)[i]? = some e->∃ k,l[i]? = some k∧f k = some e
 | [],i,e,_,h=>by simp at h
 | x :: l,i,e,hs,h=>by
  obtain ⟨y,hy⟩:=hs x List.mem_cons_self
  rw [List.filterMap_cons,hy] at h
  cases i with
  | zero=>cases h; exact ⟨x,rfl,hy⟩
  | succ i=>exact zjc (l:=l) (fun k hk=>hs k (List.mem_cons_of_mem _ hk)) h
set_option maxHeartbeats 1000000 in
theorem ziA {S a:Addr} {ks:List Key} {es:Array (Int × Value)} {ep:Nat} {t:SetTable} {xs:List (List Key × Addr)} {Q:Bool->Shared->Prop} (hu:A.units < cLine) (x:SetT prog w s.heap S es ep t xs) (hk:(tupleKind (zae prog w)).is s.heap ks a) (nw:∀ y ∈ xs,y.1 ≠ ks) (hn:xs.length < 1000)
  (q:∀ h' es' ep' t',Heap.SameBut S s.heap h'->SetT prog w h' S es' ep' t' (xs ++ [(ks,a)])->∀ tk,s.toks ≤ tk->Q true { s with heap:=h',toks:=tk }) :
  wpAny (model prog w) A (setAdd S (.ref a)) Q E s:=by
 unfold setAdd
 refine wpAny_holding ?_
 refine wpAny_bind ((tupleKind (zae prog w)).pyHash (k:=ks) hu hk ?_)
 generalize hs1:({ s with toks:=s.toks + (tupleKind (zae prog w)).draws ks }:Shared) = s1
 have eh:s1.heap = s.heap:=by rw [← hs1]
 have q1:∀ h' es' ep' t',Heap.SameBut S s1.heap h'->SetT prog w h' S es' ep' t' (xs ++ [(ks,a)])->Q true { s1 with heap:=h' }:=fun h' es' ep' t' h1 h2=>by
  rw [eh] at h1
  have:=q h' es' ep' t' h1 h2 (s.toks + (tupleKind (zae prog w)).draws ks) (Nat.le_add_right _ _)
  rw [← hs1]; exact this
 rw [← eh] at x hk
 clear q hs1 eh
 unfold setAddHashed setAddHashedIn
 refine wpAny_holding (wpAny_bind (wpAny_setState_of x.ob rfl x.ok.fits ?_))
 dsimp only
 rw [show byScan (.ref a) es = false by rfl,if_neg Bool.false_ne_true]
 obtain ⟨K,hK,he⟩:=x.ok.comes ((tupleKind (zae prog w)).hash ks)
 unfold setSearch
 have m100:t.mask ≤ 2047:=by rcases x.ok.mask with e | e | e | e | e <;> omega
 refine wpAny_bind (zfD hu x hk nw he hK (fun j hj ej pj=>?_) 100000 0 none (Nat.zero_le _) (by omega) rfl fun d hd=>by omega)
 dsimp only
 refine wpAny_bind (wpAny_setState_of x.ob rfl x.ok.fits ?_)
 dsimp only
 obtain ⟨p1,p2,p3,p4,p5⟩:=x.ok.put hj ej
 have sz1:(SetTable.insertAt es (SetTable.below t.place j) ((tupleKind (zae prog w)).hash ks,Value.ref a)).size = es.size + 1:=by
  rw [← Array.length_toList,zaB,List.length_append,List.length_cons,List.length_take,List.length_drop,Array.length_toList]
  have:=(zbU (j:=j) x.ok.up).1
  rw [x.ok.sz] at this
  omega
 have all1:∀ e ∈ (SetTable.insertAt es (SetTable.below t.place j) ((tupleKind (zae prog w)).hash ks,Value.ref a)).toList,∃ y ∈ xs ++ [(ks,a)],e = ((tupleKind (zae prog w)).hash y.1,Value.ref y.2):=by
  intro e hE
  rw [zaB] at hE
  have old:e ∈ es.toList->∃ y ∈ xs ++ [(ks,a)],e = ((tupleKind (zae prog w)).hash y.1,Value.ref y.2):=fun m=>by
   obtain ⟨y,hy,ey⟩:=x.all e m
   exact ⟨y,List.mem_append_left _ hy,ey⟩
  rcases List.mem_append.mp hE with h | h
  ·exact old (List.mem_of_mem_take h)
  ·rcases List.mem_cons.mp h with rfl | h
   ·exact ⟨(ks,a),by simp,rfl⟩
   ·exact old (List.mem_of_mem_drop h)
 have bp:SetTable.below t.place j ≤ es.size:=by rw [← x.ok.sz]; exact (zbU (j:=j) x.ok.up).1
 have inc:∀ {α:Type} (xs:Array α) (z:α) (p:Nat) (q:α),q ∈ xs.toList->q ∈ (SetTable.insertAt xs p z).toList:=fun xs z p q hq=>by
  rw [zaB]
  rw [← List.take_append_drop p xs.toList] at hq
  rcases List.mem_append.mp hq with h | h
  ·exact List.mem_append_left _ h
  ·exact List.mem_append_right _ (List.mem_cons_of_mem _ h)
 have mem1:∀ y ∈ xs ++ [(ks,a)],((tupleKind (zae prog w)).hash y.1,Value.ref y.2) ∈ (SetTable.insertAt es (SetTable.below t.place j) ((tupleKind (zae prog w)).hash ks,Value.ref a)).toList:=fun y hy=>by
  rcases List.mem_append.mp hy with h | h
  ·exact inc _ _ _ _ (x.mem y h)
  ·rw [List.mem_singleton.mp h,zaB]; simp
 have rc1:∀ (i j':Nat) (e:Int × Value),(SetTable.insertAt t.place (SetTable.below t.place j) j)[i]? = some j'->(SetTable.insertAt es (SetTable.below t.place j) ((tupleKind (zae prog w)).hash ks,Value.ref a))[i]? = some e->Pt t.mask (· ∈ (SetTable.insertAt t.place (SetTable.below t.place j) j).toList) e.1 j':=fun i j' e g1 g2=>by
  rcases zhO (by rw [x.ok.sz]; exact bp) g1 with ⟨a1,a2⟩ | ⟨a1,a2⟩ | ⟨a1,a2⟩ <;> rcases zhO bp g2 with ⟨b1,b2⟩ | ⟨b1,b2⟩ | ⟨b1,b2⟩ <;> (try omega)
  ·exact (x.rc _ _ _ a2 b2).mono fun q hq=>inc _ _ _ _ hq
  ·rw [a2,b2]; exact pj.mono fun q hq=>inc _ _ _ _ hq
  ·exact (x.rc _ _ _ a2 b2).mono fun q hq=>inc _ _ _ _ hq
 rw [p1,p2]
 generalize SetTable.insertAt es (SetTable.below t.place j) ((tupleKind (zae prog w)).hash ks,Value.ref a) = es1 at sz1 all1 mem1 rc1 ⊢
 generalize SetTable.insertAt t.place (SetTable.below t.place j) j = pl1 at p3 p4 p5 rc1 ⊢
 have len1:es1.size = (xs ++ [(ks,a)]).length:=by rw [sz1,x.len]; simp
 have room:=x.ok.room
 have zl:es1.size ≤ sizeLine:=by rw [sizeLine_eq,len1]; simp; omega
 have fin:∀ pln:Bool,wpAny (model prog w) A (do
   storeSet S es1 { t with place:=pl1,plain:=pln }
   if !false && SetTable.tooFull { t with place:=pl1,plain:=pln } then setRelay S (SetTable.grown (es.size + 1))
   return true) Q E s1:=by
  intro pln
  refine wpAny_bind (wpAny_storeSet_of x.ob rfl ?_ zl)
  have hg:(s1.heap.update S (Obj.putSet es1 { t with place:=pl1,plain:=pln })).get? S = some (SObj es1 (ep + 1) { t with place:=pl1,plain:=pln }):=by
   have:=Heap.get?_update_self (Obj.putSet es1 { t with place:=pl1,plain:=pln }) x.ob (by rw [putSet_of _ _ rfl]; rfl)
   rw [putSet_of _ _ rfl] at this
   exact this
  have sb1:=Heap.SameBut.update s1.heap S (Obj.putSet es1 { t with place:=pl1,plain:=pln })
  generalize s1.heap.update S (Obj.putSet es1 { t with place:=pl1,plain:=pln }) = h1 at hg sb1 ⊢
  have fl:SetTable.tooFull { t with place:=pl1,plain:=pln } = decide ((es.size + 1) * 5 ≥ t.mask * 3):=by
   unfold SetTable.tooFull SetTable.fill
   rw [x.ok.dum]
   show decide ((pl1.size + 0) * 5 ≥ t.mask * 3) = _
   rw [p5]
  have is1:∀ y ∈ xs ++ [(ks,a)],(tupleKind (zae prog w)).is h1 y.1 y.2:=fun y hy=>by
   rcases List.mem_append.mp hy with h | h
   ·exact zhq x.ob sb1 (x.is y h)
   ·rw [List.mem_singleton.mp h]; exact zhq x.ob sb1 hk
  rw [fl]
  by_cases c:(es.size + 1) * 5 ≥ t.mask * 3
  ·rw [if_pos (by simpa using c)]
   have g:=zia x.ok.mask room c (by rw [x.len]; exact hn)
   have ft1:SetTable.fits { t with place:=pl1,plain:=pln } es1.size = true:=by
    unfold SetTable.fits SetTable.fill
    rw [x.ok.dum]
    simp only [p5,sz1,beq_self_eq_true,Bool.true_and,decide_eq_true_eq]
    show es.size + 1 + 0 ≤ t.mask
    rcases x.ok.mask with e | e | e | e | e <;> omega
   obtain ⟨t2,order,e2,ok2,_,_,mk2,pm,pt2⟩:=zik g.1 t.finger (SetTable.movedTo { t with place:=pl1,plain:=pln } (SetTable.sizeAbove (SetTable.grown (es.size + 1)) - 1)) t.led pln (hs:=es1.map (·.1)) (by rw [Array.size_map,sz1]; exact g.2.1)
   rw [Array.size_map] at ok2 pm
   have op:=zfB (es:=es1) pm
   have sz2:(order.filterMap (es1[·]?)).size = es1.size:=by
    have:=op.length_eq
    rwa [Array.length_toList,Array.length_toList] at this
   refine wpAny_bind ?_
   unfold setRelay
   refine wpAny_bind (wpAny_setState_of (s:={ s1 with heap:=h1 }) hg rfl ft1 ?_)
   dsimp only
   rw [if_neg (by rw [sizeLine_eq]; have:=g.2.2; omega)]
   refine wpAny_bind ?_
   have e3:SetTable.relaid { t with place:=pl1,plain:=pln } (es1.map (·.1)) (SetTable.grown (es.size + 1)) = some (t2,order):=e2
   rw [e3]
   show wpAny _ _ (if ((order.filterMap (es1[·]?)).size != es1.size) = true then _ else _) _ _ _
   rw [if_neg (by rw [sz2]; simp)]
   refine wpAny_pure ?_
   refine wpAny_storeSet_of (s:={ s1 with heap:=h1 }) hg rfl ?_ (by rw [sz2]; exact zl)
   have hg2:(h1.update S (Obj.putSet (order.filterMap (es1[·]?)) t2)).get? S = some (SObj (order.filterMap (es1[·]?)) (ep + 1 + 1) t2):=by
    have:=Heap.get?_update_self (Obj.putSet (order.filterMap (es1[·]?)) t2) hg (by rw [putSet_of _ _ rfl]; rfl)
    rw [putSet_of _ _ rfl] at this
    exact this
   have sb2:=Heap.SameBut.update h1 S (Obj.putSet (order.filterMap (es1[·]?)) t2)
   refine wpAny_pure (q1 _ _ _ _ (sb1.trans sb2) ⟨hg2,by rw [sz2]; exact ok2,fun e hE=>all1 e (op.mem_iff.mp hE),fun y hy=>zhq hg sb2 (is1 y hy),by rw [sz2,len1],fun y hy=>op.mem_iff.mpr (mem1 y hy),fun i j' e g1 g2=>?_⟩)
   rw [← Array.getElem?_toList,Array.toList_filterMap] at g2
   obtain ⟨k,k1,k2⟩:=zjc (fun k hk=>by
    have:=List.mem_range.mp (pm.mem_iff.mp hk)
    exact ⟨_,Array.getElem?_eq_getElem this⟩) g2
   rw [Array.getElem?_toList] at k1
   have:=pt2 i j' k g1 k1
   rw [Array.getD_eq_getD_getElem?,Array.getElem?_map,k2] at this
   rw [mk2]
   exact this
  ·rw [if_neg (by simpa using c)]
   refine wpAny_pure (q1 h1 es1 (ep + 1) _ sb1 ⟨hg,⟨x.ok.mask,p3,p4,x.ok.dum,?_,?_⟩,all1,is1,len1,mem1,rc1⟩)
   ·show pl1.size = _; rw [p5,sz1]
   ·show es1.size * 5 < t.mask * 3; rw [sz1]; omega
 have two:∀ b:Bool,(if b = true then ({ t with place:=pl1 }:SetTable) else { t with place:=pl1,plain:=false }) = { t with place:=pl1,plain:=if b then t.plain else false }:=fun b=>by cases b <;> rfl
 by_cases c:t.plain = true
 ·rw [if_pos c]
  refine wpAny_bind (zdA hk fun b=>?_)
  rw [two]
  exact fin _
 ·rw [if_neg c]
  refine wpAny_bind (wpAny_pure ?_)
  rw [two]
  exact fin _
theorem zfW {S a:Addr} {ks:List Key} {es:Array (Int × Value)} {ep:Nat} {t:SetTable} {xs:List (List Key × Addr)} {Q:Bool->Shared->Prop} (hu:A.units < cLine) (x:SetT prog w s.heap S es ep t xs) (hk:(tupleKind (zae prog w)).is s.heap ks a) {z:List Key × Addr} (hz:z ∈ xs) (ez:z.1 = ks)
  (q:∀ tk,s.toks ≤ tk->Q false { s with toks:=tk }):wpAny (model prog w) A (setAdd S (.ref a)) Q E s:=by
 unfold setAdd
 refine wpAny_holding ?_
 refine wpAny_bind ((tupleKind (zae prog w)).pyHash (k:=ks) hu hk ?_)
 have q1:=q (s.toks + (tupleKind (zae prog w)).draws ks) (Nat.le_add_right _ _)
 generalize hs1:({ s with toks:=s.toks + (tupleKind (zae prog w)).draws ks }:Shared) = s1 at q1 ⊢
 have eh:s1.heap = s.heap:=by rw [← hs1]
 rw [← eh] at x hk
 clear q hs1 eh
 unfold setAddHashed setAddHashedIn
 refine wpAny_holding (wpAny_bind (wpAny_setState_of x.ob rfl x.ok.fits ?_))
 dsimp only
 rw [show byScan (.ref a) es = false by rfl,if_neg Bool.false_ne_true]
 obtain ⟨K,hK,he⟩:=x.ok.comes ((tupleKind (zae prog w)).hash ks)
 unfold setSearch
 refine wpAny_bind (zfu hu x hk hz ez he hK ?_ none rfl)
 dsimp only
 exact wpAny_pure q1
end
section
variable {prog:Program} {w:World} {A:Around} {R:Result->Shared->Prop} {I:Addr} {fp wr:List Addr} {G:Array GenState->Array GenState->Prop} {n:Nat} {P:Nat->Value->Prop} {St:Nat->Shared->Prop}
theorem zgv (W:WalksS prog w A.in1 I fp wr G n P St) (S:Addr) (hSf:S ∉ fp) (J:Nat->Heap->Prop)
  (hJ:∀ i h h',J i h->(∀ b o,b ∉ wr->h.get? b = some o->h'.get? b = some o)->J i h')
  (hadd:∀ i (s:Shared) v (Q:Bool->Shared->Prop) (E:Value->Shared->Prop),i < n->P i v->J i s.heap->(∀ b h' tk,Heap.SameBut S s.heap h'->J (i + 1) h'->s.toks ≤ tk->Q b { s with heap:=h',toks:=tk })->wpAny (model prog w) A.in1 (setAdd S v) Q E s) :
  ∀ (k i:Nat) (s:Shared),n - i = k->i ≤ n->St i s->J i s.heap ->
   (∀ s',Moved (S :: wr) G s s'->J n s'.heap->R (.ok (.ret .none)) s') ->
   codeAny (model prog w) A (.builtin "set.update.loop" ⟨[.ref S,.ref I],[]⟩) R s:=by
 have hSw:S ∉ wr:=fun h=>hSf (W.sub _ h)
 have hsub:∀ b ∈ wr,b ∈ S :: wr:=fun b hb=>List.mem_cons_of_mem _ hb
 intro k
 induction k with
 | zero =>
  intro i s hk hi hst hS hR
  have hin:i = n:=by omega
  subst hin
  refine codeAny_builtin PyProof.Rows.F.entry_set_update_loop ?_
  rw [Around.under_plainId PyProof.Rows.F.plain_set_update_loop _]
  show wpAny _ A.in1 (pyNext (.ref I) >>= _) _ _ s
  refine wpAny_bind (W.done s _ _ hst fun s' hm=>?_)
  show wpAny _ A.in1 (ret Value.none) _ _ s'
  exact wpAny_pure (hR s' (hm.mono hsub) (hJ _ _ _ hS fun b o hb e=>hm.heap b o hb e))
 | succ k ih =>
  intro i s hk hi hst hS hR
  have hlt:i < n:=by omega
  refine codeAny_builtin PyProof.Rows.F.entry_set_update_loop ?_
  rw [Around.under_plainId PyProof.Rows.F.plain_set_update_loop _]
  show wpAny _ A.in1 (pyNext (.ref I) >>= _) _ _ s
  refine wpAny_bind (W.item i s _ _ hlt hst fun v s' hP hst' hm=>?_)
  have hS':J i s'.heap:=hJ _ _ _ hS fun b o hb e=>hm.heap b o hb e
  show wpAny _ A.in1 (holding [v] (setAdd S v) >>= _) _ _ s'
  refine wpAny_bind (wpAny_holding ?_)
  refine hadd i s' v _ _ hlt hP hS' fun b h' tk hsb hSi htk=>?_
  refine wpAny_pure ⟨plainId_quiet PyProof.Rows.F.plain_set_update_loop _,ih (i + 1) _ (by omega) hlt (W.frame _ s' _ _ hst' htk fun b hb o e=>?_) hSi fun s'' hm'' hS''=>?_⟩
  ·rw [hsb.2 b (fun h:b = S=>hSf (by rw [← h]; exact hb))]; exact e
  ·refine hR s'' (Moved.trans W.gtrans ((hm.mono hsub).then_heap htk fun b o hb e=>?_) hm'') hS''
   rw [hsb.2 b (fun h:b = S=>hb (by rw [h]; exact List.mem_cons_self))]; exact e
end
section
variable {prog:Program} {w:World} {A:Around} {E:Value->Shared->Prop} {s:Shared}
set_option maxHeartbeats 3200000 in
theorem zdO {l:Addr} {items:Array Value} (J:Nat->Heap->Prop) {Q:Value->Shared->Prop}
  (hh:A.handled = none) (hl:s.heap.IsList l items)
  (h0:J 0 (s.heap.push { cls:=.type "set",dict:=none,data:=.set #[] 0 (.fresh 0 0 (!w.params.followText "set-order")) }))
  (hJ:∀ i h h',J i h->(∀ b o,b ≤ s.heap.objs.size->h.get? b = some o->h'.get? b = some o)->J i h')
  (hadd:∀ i (B:Around) (s1:Shared) v (Q:Bool->Shared->Prop) (E:Value->Shared->Prop),B.units ≤ A.units + 8->items[i]? = some v->J i s1.heap->(∀ b h' tk,Heap.SameBut s.heap.objs.size s1.heap h'->J (i + 1) h'->s1.toks ≤ tk->Q b { s1 with heap:=h',toks:=tk })->wpAny (model prog w) B (setAdd s.heap.objs.size v) Q E s1)
  (h:∀ (h':Heap) (tk:Nat),J items.size h'->(∀ b o,b < s.heap.objs.size->s.heap.get? b = some o->h'.get? b = some o)->Q (.ref s.heap.objs.size) { s with heap:=h',toks:=tk }) :
  wpAny (model prog w) A (call (.type "set") [.ref l]) Q E s:=by
 obtain ⟨c,tl,hmro⟩:=F.called_set.mro
 have hmade:=F.called_set.made
 have hsub:=F.called_set.sub
 refine wpAny_call (codeAny_of_tree ?_)
 show wpAny _ _ (callAny (.type "set") _) _ _ _
 refine wpAny_pure ⟨Code.quiet_builtin _ (by decide +kernel),codeAny_builtin F.entry_type_call ?_⟩
 rw [Around.under_plain (weight_type_call_type "set" [.ref l] []) rfl]
 have h1:=F.called_set.notType
 have h2:=F.called_set.canCreate
 have hct:=F.typeCall_set_1 (.ref l)
 repeat (any_goals (first | assumption | wp_step))
 refine codeAny_mono (zc1 (.ref l) (E:=E) (Q₁:=fun obj s₁=>obj = .ref s.heap.objs.size∧s₁ = { s with heap:=s.heap.push { cls:=.type "set",dict:=none,data:=.set #[] 0 (.fresh 0 0 (!w.params.followText "set-order")) } }) ⟨rfl,rfl⟩) fun r s₁ hr=>?_
 revert h0
 generalize (!w.params.followText "set-order") = led at hr
 intro h0
 cases r with
 | error e=>exact hr
 | ok fl =>
  cases fl with
  | ret obj =>
   obtain ⟨rfl,rfl⟩:=hr
   have hS:(s.heap.push { cls:=.type "set",dict:=none,data:=.set #[] 0 (.fresh 0 0 led) }).get? s.heap.objs.size = some { cls:=.type "set",dict:=none,data:=.set #[] 0 (.fresh 0 0 led) }:=Heap.get?_push_size _ rfl
   have hT:Shared.TypeIs { s with heap:=s.heap.push { cls:=.type "set",dict:=none,data:=.set #[] 0 (.fresh 0 0 led) } } (.ref s.heap.objs.size) "set":=⟨_,hS,rfl⟩
   have hli:=F.called_set.init.lookup
   have hbi:=F.called_set.init.bind (.ref s.heap.objs.size)
   repeat (any_goals (first | assumption | wp_step))
   refine codeAny_mono (codeAny_call_builtin (R:=wants (fun r s₂=>r = .none∧∃ h' tk,s₂ = { s with heap:=h',toks:=tk }∧J items.size h' ∧
     (∀ b o,b < s.heap.objs.size->s.heap.get? b = some o->h'.get? b = some o)) E) F.called_set.init.plain F.entry_set_init (check_set_init_1 hT ?_)) fun r₂ s₂ hr₂=>?_
   ·obtain ⟨ol,hol,hcl,nl,hdl⟩:=hl
    obtain ⟨ocls,odict,odata,oslots⟩:=ol
    simp only at hcl hdl
    subst hcl; subst hdl
    have hol':(s.heap.push { cls:=.type "set",dict:=none,data:=.set #[] 0 (.fresh 0 0 led) }).get? l = some { cls:=.type "list",dict:=odict,data:=.seq items nl,slots:=oslots }:=Heap.get?_push_of_some _ hol
    have hsls:=F.sub_list_set
    have hslf:=F.sub_list_frozenset
    have hne:(Value.type "list" == Value.type "dict") = false:=by decide
    have hl1:(s.heap.push { cls:=.type "set",dict:=none,data:=.set #[] 0 (.fresh 0 0 led) }).IsList l items:=⟨_,hol',rfl,nl,rfl⟩
    unfold Builtin.«set.__init__» noKeywords Builtin.Frozenset.updateFrom
    generalize hPI:pyIter = PI
    wp_walk
    subst hPI
    refine wpAny_pyIter_list hl1 ?_
    refine wpAny_bind (wpAny_runValue ?_)
    have hlS:l < s.heap.objs.size:=Heap.lt_size hol
    have hh3:A.in1.in1.in1.handled = none:=by simp [hh]
    have hneI:l ≠ (s.heap.push { cls:=.type "set",dict:=none,data:=.set #[] 0 (.fresh 0 0 led) }).objs.size:=by
     rw [Heap.size_push]; exact Nat.ne_of_lt (Nat.lt_succ_of_lt hlS)
    have hSf:s.heap.objs.size ∉ [(s.heap.push { cls:=.type "set",dict:=none,data:=.set #[] 0 (.fresh 0 0 led) }).objs.size,l]:=by
     rw [Heap.size_push]; simp only [List.mem_cons,List.mem_singleton,List.not_mem_nil,or_false,not_or]
     exact ⟨Nat.ne_of_lt (Nat.lt_succ_self _),Nat.ne_of_gt hlS⟩
    refine zgv ((Walks.list hh3 _ l hneI items).toS) s.heap.objs.size hSf J (fun i h h' j k=>hJ i h h' j fun b o hb e=>k b o (by rw [Heap.size_push]; exact fun z=>absurd (List.mem_singleton.mp z) (Nat.ne_of_lt (Nat.lt_succ_of_le hb))) e) (fun i s1 v Q E hi hp j k=>hadd i _ s1 v Q E (by simp only [Around.in1_units]; omega) hp j k) (items.size - 0) 0 _ (by omega) (Nat.zero_le _)
     ⟨⟨_,Heap.get?_push_size _ rfl,rfl,rfl⟩,(hl1.push _)⟩ (hJ _ _ _ h0 fun b o hb e=>Heap.get?_push_of_some _ e) ?hR
    case hR =>
     intro s' hm hS'
     obtain ⟨h',g',d',tk',os'⟩:=s'
     have eg:g' = s.gens:=hm.gens
     have ed:d' = s.drawn:=hm.drawn
     have eo:os' = s.os:=hm.os
     subst eg; subst ed; subst eo
     show wpAny _ _ _ _ _ _
     refine wpAny_pure ?_
     show wpAny _ _ (ret Value.none) _ _ _
     refine wpAny_pure ⟨rfl,h',tk',rfl,hS',fun b o hb e=>?_⟩
     have hb1:b ≠ s.heap.objs.size:=Nat.ne_of_lt hb
     have hb2:b ≠ (s.heap.push { cls:=.type "set",dict:=none,data:=.set #[] 0 (.fresh 0 0 led) }).objs.size:=by
      rw [Heap.size_push]; exact Nat.ne_of_lt (Nat.lt_succ_of_lt hb)
     exact hm.heap b o (by simp only [List.mem_cons,List.mem_singleton,List.not_mem_nil,or_false,not_or]; exact ⟨hb1,hb2⟩) (Heap.get?_push_of_some _ (Heap.get?_push_of_some _ e))
   ·cases r₂ with
    | error e=>exact hr₂
    | ok fl₂ =>
     cases fl₂ with
     | ret r =>
      obtain ⟨rfl,h',tk,rfl,hS',hk'⟩:=hr₂
      repeat (any_goals (first | assumption | wp_step))
      exact h _ _ hS' hk'
     | _=>exact hr₂.elim
  | _=>exact hr.elim
end
end STb
open PySem PySem.Spec PyProof.Rows STb
noncomputable def SetN (a:Addr) (n:Nat):HO:=.ext fun h=>∃ o es ep t,h.get? a = some o∧o.ExactSet∧o.data = .set es ep t∧t.fits es.size = true∧es.size = n
section
variable {X:Cx}
theorem call_lenSet:zbN X (.builtin "len") (fun xs H Q=>∃ a n,xs = [.ref a]∧H a = some (SetN a n)∧n ≤ 1000∧Q (.int n) H):=by
 intro pins s σ H xs us Q I r h
 obtain ⟨a,n,rfl,ha,n1,q⟩:=h
 obtain ⟨u,rfl,ru⟩:=zcZ r
 cases ru
 obtain ⟨⟨o,es,ep,t,hg,hx,hd,hf,hn⟩,_,_⟩:=I.hok a _ ha
 subst hn
 refine call_len_set hg hx hd hf (by omega) ⟨.int es.size,H,I.tok _,⟨_,rfl⟩,q⟩
noncomputable def dc {α:Type} [DecidableEq α]:List α->Nat
 | []=>0
 | x :: l=>dc l + if x ∈ l then 0 else 1
theorem zje {α:Type} [DecidableEq α]:∀ l:List α,dc l ≤ l.length
 | []=>Nat.le_refl _
 | x :: l=>by have:=zje l; unfold dc; rw [List.length_cons]; split <;> omega
theorem zgR {α β γ:Type} [DecidableEq β] [DecidableEq γ] (f:α->β) (g:α->γ):∀ l:List α,(∀ x ∈ l,∀ y ∈ l,f x = f y ↔ g x = g y)->dc (l.map f) = dc (l.map g)
 | [],_=>rfl
 | x :: l,h=>by
  have ih:=zgR f g l fun a ha b hb=>h a (List.mem_cons_of_mem _ ha) b (List.mem_cons_of_mem _ hb)
  have m:f x ∈ l.map f ↔ g x ∈ l.map g:=by
   rw [List.mem_map,List.mem_map]
   exact ⟨fun ⟨a,ha,e⟩=>⟨a,ha,(h a (List.mem_cons_of_mem _ ha) x List.mem_cons_self).mp e⟩,fun ⟨a,ha,e⟩=>⟨a,ha,(h a (List.mem_cons_of_mem _ ha) x List.mem_cons_self).mpr e⟩⟩
  rw [List.map_cons,List.map_cons]
  unfold dc
  rw [ih]
  by_cases c:f x ∈ l.map f
  ·rw [if_pos c,if_pos (m.mp c)]
  ·rw [if_neg c,if_neg (fun z=>c (m.mpr z))]
theorem zg3 {α:Type} [DecidableEq α]:∀ {l xs:List α},xs.Nodup->(∀ a,a ∈ xs ↔ a ∈ l)->xs.length = dc l
 | [],xs,n,h=>by
  cases xs with
  | nil=>rfl
  | cons a xs=>exact absurd ((h a).mp List.mem_cons_self) List.not_mem_nil
 | x :: l,xs,n,h=>by
  unfold dc
  by_cases c:x ∈ l
  ·rw [if_pos c]
   refine zg3 (l:=l) n fun a=>(h a).trans ?_
   rw [List.mem_cons]
   exact ⟨fun z=>z.elim (fun e=>e ▸ c) id,.inr⟩
  ·rw [if_neg c,← zg3 (l:=l) (xs:=xs.erase x) (n.erase x) fun a=>?_]
   ·have m:=(h x).mpr List.mem_cons_self
    have:=List.length_pos_of_mem m
    rw [List.length_erase_of_mem m]
    omega
   ·rw [n.mem_erase_iff,h a,List.mem_cons]
    exact ⟨fun ⟨z1,z2⟩=>z2.resolve_left z1,fun z=>⟨fun e=>c (e ▸ z),.inr z⟩⟩
theorem zdH (hc:X.calm = true) (hu:X.A.units + 64 < cLine):zbN X (.type "set") (fun xs H Q=>∃ (l:Addr) (as:List Addr) (ks:List (List Key)),xs = [.ref l]∧H l = some (.lst (as.map V.ref))∧as.length = ks.length∧(∀ (i:Nat) (b:Addr) (k:List Key),as[i]? = some b->ks[i]? = some k->H b = some (.tup (k.map kV)))∧ks.length ≤ 1000 ∧
  ∀ a:Addr,H a = none->Q (.ref a) (upd H a (SetN a (dc ks)))):=by
 intro pins s σ H xs us Q I r h
 obtain ⟨l,as,ks,rfl,hl,la,hat,n1,q⟩:=h
 obtain ⟨u,rfl,ru⟩:=zcZ r
 cases ru
 obtain ⟨its,rv,p,hz⟩:=I.list (.of hl)
 have lits:its.length = ks.length:=by rw [← rv.length,List.length_map,la]
 have iat:∀ (i:Nat) (v:Value),its[i]? = some v->∃ b k,as[i]? = some b∧ks[i]? = some k∧v = .ref b:=fun i v hv=>by
  have il:=(List.getElem?_eq_some_iff.mp hv).1
  have h1:=List.getElem?_eq_getElem (l:=as) (i:=i) (by omega)
  have h2:=List.getElem?_eq_getElem (l:=ks) (i:=i) (by omega)
  obtain ⟨u,hu2,ru⟩:=rv.get (i:=i) (x:=.ref (as[i]'(by omega))) (by rw [List.getElem?_map,h1]; rfl)
  rw [hv] at hu2
  cases hu2
  exact ⟨_,_,h1,h2,ru⟩
 have bl:∀ b ∈ as,∀ k,H b = some (.tup k)->b < s.heap.objs.size:=fun b _ k hb=>(I.hok b _ hb).lt
 refine zdO (items:=its.toArray)
  (fun i h=>∃ es ep t xs,SetT X.prog X.w h s.heap.objs.size es ep t xs∧(xs.map (·.1)).Nodup∧(∀ z ∈ xs,z.2 ∈ as)∧xs.length ≤ i∧(∀ k,k ∈ xs.map (·.1) ↔ k ∈ ks.take i)∧∀ (j:Nat) (b:Addr) (k:List Key),as[j]? = some b->ks[j]? = some k->(tupleKind (zae X.prog X.w)).is h k b)
  (I.ok.hd hc) p.isList ⟨#[],0,.fresh 0 0 _,[],⟨Heap.get?_push_size _ rfl,zgU _,fun e he=>by simp at he,fun x hx=>by simp at hx,by simp,fun x hx=>by simp at hx,fun i j e h1=>by simp [SetTable.fresh] at h1⟩,List.nodup_nil,fun z hz=>by simp at hz,Nat.le_refl _,fun k=>by simp,fun j b k h1 h2=>?_⟩ (fun i h h' j k=>?_) (fun i B s1 v Q E hB hv j k=>?_) fun h' tk j hk=>?_
 ·obtain ⟨o,items,n,e1,e2,e3,e4⟩:=(show IsTupleKey (zae X.prog X.w) s.heap k b from zcQ I.hok (hat j b k h1 h2))
  exact ⟨o,items,n,Heap.get?_push_of_some _ e1,e2,e3,e4⟩
 ·obtain ⟨es,ep,t,xs,x,nd,xa,xl,xm,y⟩:=j
  have kp:∀ (b:Addr) (kk:List Key),b ∈ as->(tupleKind (zae X.prog X.w)).is h kk b->(tupleKind (zae X.prog X.w)).is h' kk b:=fun b kk mb hb=>by
   obtain ⟨o,items,n,e1,e2,e3,e4⟩:=(show IsTupleKey (zae X.prog X.w) h kk b from hb)
   obtain ⟨jj,hj⟩:=List.mem_iff_getElem?.mp mb
   have h2:=List.getElem?_eq_getElem (l:=ks) (i:=jj) (by have:=(List.getElem?_eq_some_iff.mp hj).1; omega)
   exact ⟨o,items,n,k b o (Nat.le_of_lt (bl b mb _ (hat jj b _ hj h2))) e1,e2,e3,e4⟩
  exact ⟨es,ep,t,xs,⟨k _ _ (Nat.le_refl _) x.ob,x.ok,x.all,fun z hz=>kp z.2 z.1 (xa z hz) (x.is z hz),x.len,x.mem,x.rc⟩,nd,xa,xl,xm,fun j b kk h1 h2=>kp b kk (List.mem_of_getElem? h1) (y j b kk h1 h2)⟩
 ·obtain ⟨es,ep,t,xs,x,nd,xa,xl,xm,y⟩:=j
  rw [List.getElem?_toArray] at hv
  obtain ⟨b,kk,h1,h2,rfl⟩:=iat i v hv
  have il:=(List.getElem?_eq_some_iff.mp h2).1
  have tk1:ks.take (i + 1) = ks.take i ++ [kk]:=by rw [List.take_succ,h2]; rfl
  by_cases c:kk ∈ xs.map (·.1)
  ·obtain ⟨z,hz,ez⟩:=List.mem_map.mp c
   refine zfW (by omega) x (y i b kk h1 h2) hz ez fun tk htk=>?_
   refine k _ _ _ ⟨rfl,fun _ _=>rfl⟩ ⟨es,ep,t,xs,x,nd,xa,by omega,fun k'=>?_,y⟩ htk
   rw [xm k',tk1,List.mem_append,List.mem_singleton]
   exact ⟨.inl,fun z=>z.elim id fun e=>by rw [e]; exact (xm kk).mp c⟩
  ·refine ziA (by omega) x (y i b kk h1 h2) (fun z hz e=>c (List.mem_map.mpr ⟨z,hz,e⟩)) (by omega) fun h' es' ep' t' sb x' tk htk=>k _ _ _ sb ⟨es',ep',t',_,x',?_,?_,?_,fun k'=>?_,fun j b2 k2 g1 g2=>zhq x.ob sb (y j b2 k2 g1 g2)⟩ htk
   ·rw [List.map_append]
    exact List.nodup_append.mpr ⟨nd,by simp,fun a ha a' ha' e=>by rw [List.map_singleton,List.mem_singleton] at ha'; have e2:a = kk:=e.trans ha'; exact c (e2 ▸ ha)⟩
   ·intro z hz
    rcases List.mem_append.mp hz with h | h
    ·exact xa z h
    ·rw [List.mem_singleton.mp h]; exact List.mem_of_getElem? h1
   ·rw [List.length_append,List.length_singleton]; omega
   ·rw [List.map_append,List.mem_append,xm k',tk1,List.mem_append]; rfl
 ·obtain ⟨es,ep,t,xs,x,nd,xa,xl,xm,y⟩:=j
  have en:es.size = dc ks:=by
   rw [x.len,← List.length_map (f:=(·.1)),zg3 nd fun k=>?_]
   rw [xm k,List.size_toArray,lits,List.take_length]
  refine ⟨.ref s.heap.objs.size,_,I.laid (t':=tk) (o:=SetN s.heap.objs.size (dc ks)) (fun b u e=>hk b u (Heap.lt_size e) e) (Nat.le_refl _) ?_,rfl,q _ (I.hok.fresh (Nat.le_refl _))⟩
  exact ⟨⟨_,es,ep,t,x.ob,⟨rfl,rfl,rfl⟩,rfl,x.ok.fits,en⟩,⟨_,x.ob⟩,fun ha hb ⟨o,es,ep,t,h1,r⟩ k=>⟨o,es,ep,t,k _ h1,r⟩⟩
theorem zbk (hc:X.calm = true):zbN X (.type "set") (fun xs H Q=>∃ (l:Addr) (ns:List Int),xs = [.ref l]∧H l = some (.lst (ns.map V.int))∧ns.length ≤ 1000∧∀ a:Addr,H a = none->Q (.ref a) (upd H a (SetN a (dc ns)))):=by
 intro pins s σ H xs us Q I r h
 obtain ⟨l,ns,rfl,hl,n1,q⟩:=h
 obtain ⟨u,rfl,ru⟩:=zcZ r
 cases ru
 obtain ⟨its,rv,p,hz⟩:=I.list (.of hl)
 have lits:its.length = ns.length:=by rw [← rv.length,List.length_map]
 have ia:PyProof.Rows.IntsAre its ns:=by
  clear hl p hz lits q n1
  induction ns generalizing its with
  | nil=>cases rv; exact .nil
  | cons n ns ih =>
   cases rv with
   | cons r rr=>obtain ⟨t,rfl⟩:=r; exact .cons n t (ih _ rr)
 refine call_set_list (items:=its.toArray) (ns:=ns) (I.ok.hd hc) p.isList (by rw [List.toList_toArray]; exact ia) (by rw [List.size_toArray,lits]; unfold scanBound; omega) fun h' tk hS hk=>?_
 have en:(PyProof.Rows.firstMet (fun i=>ns.getD i 0) its.toArray.size).length = dc ns:=by
  rw [List.size_toArray,lits]
  have nd:∀ i,(PyProof.Rows.firstMet (fun i=>ns.getD i 0) i).Nodup:=fun i=>by
   induction i with
   | zero=>exact List.nodup_nil
   | succ i ih =>
    rw [PyProof.Rows.firstMet_succ]
    unfold step_dedup
    split
    ·exact ih
    ·rename_i c
     refine List.nodup_append.mpr ⟨ih,by simp,fun a ha a' ha' e=>c ?_⟩
     rw [List.mem_singleton] at ha'
     rw [List.any_eq_true]
     exact ⟨a,ha,by rw [e,ha']; simp⟩
  refine zg3 (nd _) fun a=>?_
  have e1:((PyProof.Rows.firstMet (fun i=>ns.getD i 0) ns.length).any (· == a) = true) ↔ a ∈ PyProof.Rows.firstMet (fun i=>ns.getD i 0) ns.length:=by
   rw [List.any_eq_true]
   exact ⟨fun ⟨y,h1,h2⟩=>by rw [← eq_of_beq h2]; exact h1,fun h1=>⟨a,h1,by simp⟩⟩
  rw [← e1,PyProof.Rows.firstMet_any]
  have e2:(List.range ns.length).map (fun i=>ns.getD i 0) = ns:=by
   apply List.ext_getElem
   ·simp
   ·intro i h1 h2
    rw [List.getElem_map,List.getElem_range,List.getD_eq_getElem?_getD,List.getElem?_eq_getElem h2]
    rfl
  rw [e2,List.any_eq_true]
  exact ⟨fun ⟨y,h1,h2⟩=>by rw [← eq_of_beq h2]; exact h1,fun h1=>⟨a,h1,by simp⟩⟩
 rw [en] at hS
 obtain ⟨o,es,ep,t,ho,hx,hd,_,_,_,hf,hn⟩:=hS
 refine ⟨.ref s.heap.objs.size,_,I.laid (t':=tk) (o:=SetN s.heap.objs.size (dc ns)) (fun b u e=>hk b u (Heap.lt_size e) e) (Nat.le_refl _) ?_,rfl,q _ (I.hok.fresh (Nat.le_refl _))⟩
 exact ⟨⟨_,es,ep,t,ho,hx,hd,hf,hn⟩,⟨_,ho⟩,fun ha hb ⟨o,es,ep,t,h1,r⟩ k=>⟨o,es,ep,t,k _ h1,r⟩⟩
end
end L2
set_option Elab.async false
set_option linter.all false
set_option maxRecDepth 100000
namespace L2
open PySem PySem.Spec PyProof.Rows
theorem zk_getattr:typeLookup (.type "zip") "__getattr__" = pure none:=by rw [typeLookup_type,builtinLookup_eq_fast]; kernel_rfl
theorem zk_miss:typeLookup (.type "zip") "keys" = pure none:=by rw [typeLookup_type,builtinLookup_eq_fast]; kernel_rfl
theorem zk_entry:entryFor table "zip.__getattribute__" = some Builtin.«object.__getattribute__» :=
 entryFor_alias (id':="object.__getattribute__") (by kernel_rfl) (by decide +kernel) (by decide +kernel) (by kernel_rfl)
theorem zk_loop:entryFor table "dict.update.loop" = some Builtin.«dict.update.loop»:=entryFor_of_tree (by kernel_rfl)
theorem zht (a:Addr) (fs:Array Value) (u:Tok):Meets (Builtin.«object.__getattribute__» ⟨[.ref a,.str "keys" u],[]⟩) (fun A R s=>s.heap.get? a = some { cls:=.type "zip",data:=.fields fs }∧raisesAttr (.ref a) "keys" A R s) :=
 Meets.of_wp fun prog w A R s hs=>by
  obtain ⟨hp,g,d,tk,os⟩:=s
  obtain ⟨hx,hs⟩:=hs
  have hT:(⟨hp,g,d,tk,os⟩:Shared).TypeIs (.ref a) "zip":=⟨_,hx,rfl⟩
  have hmiss:=zk_miss
  unfold Builtin.«object.__getattribute__»
  repeat (any_goals (first | assumption | wp_step))
  try simp only [show (["__module__","__name__","__qualname__","__doc__","__annotations__"]:List Str).contains "keys" = false by decide +kernel,Bool.false_eq_true,if_false]
  repeat (any_goals (first | assumption | wp_step))
  exact wpAny_raiseAttrError hs.1 hs.2 (attrMsg_fits (by decide +kernel) (by size_fits))
section
variable {prog:Program} {w:World} {A:Around}
theorem zfm {E:Value->Shared->Prop} {s:Shared} {z:Addr} {fs:Array Value} {Q:Option Value->Shared->Prop} (hh:A.handled = none) (hx:s.heap.get? z = some { cls:=.type "zip",data:=.fields fs })
  (q:∀ h' tk,(∀ b o,s.heap.get? b = some o->h'.get? b = some o)->Q none { s with heap:=h',toks:=tk }):wpAny (model prog w) A (getAttr? (.ref z) "keys") Q E s:=by
 obtain ⟨hp,g,d,tk,os⟩:=s
 have hT:∀ tk',(⟨hp,g,d,tk',os⟩:Shared).TypeIs (.ref z) "zip":=fun _=>⟨_,hx,rfl⟩
 have f1:=sub_AttributeError
 have f3:=F.slot_zip_getattribute.lookup
 have f4:=F.slot_zip_getattribute.bind (.ref z)
 have f5:=zk_getattr
 unfold getAttr? getAttrBy? getAttrBy
 repeat (any_goals (first | assumption | exact hT _ | ((with_reducible show wpAny _ _ (call (Value.builtin "zip.__getattribute__") _ _) _ _ _); refine call_meets F.slot_zip_getattribute (hT _) zk_entry (F.args_zip_getattribute_2 _ _) (zht z fs _) ⟨hx,hh,fun h' tk' e hx'=>?_⟩) | wp_step))
 obtain ⟨t',u',he⟩:=hx'.there
 show wpAny _ _ (getattributeRaised _ _ _ _ _ _ _) _ _ _
 unfold getattributeRaised
 repeat (any_goals (first | assumption | wp_step))
 exact q _ _ hx'.keeps
set_option maxHeartbeats 2000000 in
theorem zgJ {R:Result->Shared->Prop} {s:Shared} {s0:Heap} {z ti to i j d1 d2 D:Addr} {n:Nat} {P1 P2:Nat->Value->Prop} {S1 S2:Nat->Heap->Prop} (hh:A.handled = none)
  (N1:NxSrc prog w i d1 n P1 S1) (N2:NxSrc prog w j d2 n P2 S2) (ap:[i,j,ti,to,z].Nodup) (n1:d1 ∉ [j,to,z]) (n2:d2 ∉ [i,to,z]) (nD:D ∉ [i,j,ti,to,z]) (nD1:d1 ≠ D) (nD2:d2 ≠ D) (hD0:s0.get? D = none) (n1000:n ≤ 1000)
  (kvs:Nat->List (Key × V)) (kl:∀ k,(kvs k).length ≤ k) (ks:∀ k v u,P1 k v->P2 k u->∃ key y,(zae prog w).is key v = true∧RelV y u∧kvs (k + 1) = putK (kvs k) key y)
  (fin:∀ (h':Heap) (tk:Nat) (vs:List (Key × Value)),h'.DictOf (zae prog w) D vs->KV (kvs n) vs->(∀ c o,c ∉ [z,to,i,j]->s0.get? c = some o->h'.get? c = some o)->R (.ok (.ret .none)) { s with heap:=h',toks:=tk }) :
  ∀ (m k:Nat) (h:Heap) (tk:Nat) (vs:List (Key × Value)) (a b:Value),n - k = m->k ≤ n->h.DictOf (zae prog w) D vs->KV (kvs k) vs->ZAt h z ti to->IsPair h ti (.ref i) (.ref j)->IsPair h to a b->S1 k h->S2 k h->(∀ c o,c ∉ [z,to,i,j]->s0.get? c = some o->h.get? c = some o) ->
   codeAny (model prog w) A (.builtin "dict.update.loop" ⟨[.ref D,.ref z,rawInt k,.none],[]⟩) R { s with heap:=h,toks:=tk }:=by
 have ap':=ap
 have nD':=nD
 simp only [List.nodup_cons,List.mem_cons,List.not_mem_nil,or_false,not_or,not_false_eq_true,List.nodup_nil,and_true] at ap' nD'
 have dn:D ∉ [z,to,i,j]:=by simp; exact ⟨nD'.2.2.2.2,nD'.2.2.2.1,nD'.1,nD'.2.1⟩
 intro m
 induction m with
 | zero =>
  intro k h tk vs a b hm kn hD rl hz ht ho h1 h2 K
  have ek:k = n:=by omega
  subst ek
  refine codeAny_builtin zk_loop ?_
  simp only [List.mem_cons,List.not_mem_nil,or_false,not_or] at n1
  refine wpAny_bind (zeV (show (A.under _).handled = none from hh) N1 ap'.1.2.2.2 n1.2.2 hz ht h1 fun h' k'=>?_)
  obtain ⟨o,es,ep,hg,hr⟩:=hD
  exact wpAny_bind (wpAny_pure (wpAny_pure (fin h' tk vs ⟨o,es,ep,k' D _ dn hg,hr⟩ rl fun c o hc q=>k' c o hc (K c o hc q))))
 | succ m ih =>
  intro k h tk vs a b hm kn hD rl hz ht ho h1 h2 K
  refine codeAny_builtin zk_loop ?_
  refine wpAny_bind (zeS N1 N2 ap n1 n2 hz ht ho (by omega) h1 h2 fun r v u a' b' h' tk' pv pu hr hp hz' ho' s1' s2' k'=>?_)
  obtain ⟨key,y,hk,ry,ek⟩:=ks k v u pv pu
  obtain ⟨o,es,ep,hg,hrr⟩:=hD
  have hD':h'.DictOf (zae prog w) D vs:=⟨o,es,ep,k' D _ dn hg,hrr⟩
  refine wpAny_bind (wpAny_holding ?_)
  refine wpAny_bind (wpAny_tryCatch ?_)
  unfold Builtin.Dict.pairItems
  refine wpAny_bind (wpAny_typeOf (T:="tuple") ⟨_,hp,rfl⟩ ?_)
  rw [if_pos (by decide)]
  refine wpAny_bind (wpAny_seqItems hp rfl ?_)
  refine wpAny_pure ?_
  show wpAny _ _ (holding [v,u] (dictSet D v u)) _ _ _
  have lv:vs.length ≤ 1000:=by have:=kl k; rw [rl.length] at this; omega
  refine wpAny_holding (wpAny_dictSet_pairs (hsz:=by rw [sizeLine_eq]; omega) hk hD' fun hL hD2 sb=>?_)
  have gD:∃ q,hL.get? D = some q:=let ⟨q,_,_,hq,_⟩:=hD2; ⟨q,hq⟩
  have kL:∀ c,c ≠ D->hL.get? c = h'.get? c:=fun c hc=>sb.2 c hc
  refine wpAny_pure ⟨by first | rfl | with_unfolding_all rfl,ih (k + 1) hL (tk' + 1) _ a' b' (by omega) (by omega) hD2 (by rw [ek]; exact rl.put key ry) ?_ ?_ ?_ ?_ ?_ fun c o hc q=>?_⟩
  ·obtain ⟨f0,f1,ez,hf⟩:=hz'
   refine ⟨f0,f1,by rw [kL z (Ne.symm nD'.2.2.2.2)]; exact ez,?_⟩
   rcases hf with e0 | ⟨aa,oo,e0,ha⟩
   ·exact .inl e0
   ·by_cases q:aa = D
    ·obtain ⟨qq,hq⟩:=gD
     exact .inr ⟨aa,qq,e0,by rw [q]; exact hq⟩
    ·exact .inr ⟨aa,oo,e0,by rw [kL aa q]; exact ha⟩
  ·show hL.get? ti = _
   rw [kL ti (Ne.symm nD'.2.2.1)]
   exact k' ti _ (by simp; exact ⟨ap'.2.2.1.2,ap'.2.2.1.1,fun q=>ap'.1.2.1 q.symm,fun q=>ap'.2.1.1 q.symm⟩) ht
  ·show hL.get? to = _
   rw [kL to (Ne.symm nD'.2.2.2.1)]
   exact ho'
  ·exact N1.frame _ h' hL s1' fun b o hb q=>by
    rw [kL b (by rcases hb with rfl | rfl; exact Ne.symm nD'.1; exact nD1)]; exact q
  ·exact N2.frame _ h' hL s2' fun b o hb q=>by
    rw [kL b (by rcases hb with rfl | rfl; exact Ne.symm nD'.2.1; exact nD2)]; exact q
  ·have ncD:c ≠ D:=fun z=>by rw [z,hD0] at q; cases q
   rw [kL c ncD]
   exact k' c o hc (K c o hc q)
set_option maxHeartbeats 2000000 in
theorem zdn {E:Value->Shared->Prop} {Q:Value->Shared->Prop} {s:Shared} {z ti to i j d1 d2:Addr} {n:Nat} {P1 P2:Nat->Value->Prop} {S1 S2:Nat->Heap->Prop} (hh:A.handled = none)
  (N1:NxSrc prog w i d1 n P1 S1) (N2:NxSrc prog w j d2 n P2 S2) (ap:[i,j,ti,to,z].Nodup) (n1:d1 ∉ [j,to,z]) (n2:d2 ∉ [i,to,z]) (t1:d1 < s.heap.objs.size) (t2:d2 < s.heap.objs.size) (n1000:n ≤ 1000)
  (hz:IsZip s.heap z ti to .none) (ht:IsPair s.heap ti (.ref i) (.ref j)) (ho:IsPair s.heap to .none .none) (h1:S1 0 s.heap) (h2:S2 0 s.heap)
  (kvs:Nat->List (Key × V)) (k0:kvs 0 = []) (kl:∀ k,(kvs k).length ≤ k) (ks:∀ k v u,P1 k v->P2 k u->∃ key y,(zae prog w).is key v = true∧RelV y u∧kvs (k + 1) = putK (kvs k) key y)
  (fin:∀ (D:Addr) (h':Heap) (tk:Nat) (vs:List (Key × Value)),D = s.heap.objs.size->h'.DictOf (zae prog w) D vs->KV (kvs n) vs->(∀ c o,c ∉ [z,to,i,j]->s.heap.get? c = some o->h'.get? c = some o)->Q (.ref D) { s with heap:=h',toks:=tk }) :
  wpAny (model prog w) A (call (.type "dict") [.ref z]) Q E s:=by
 refine callType_codes (Q₁:=fun obj s₁=>obj = .ref s.heap.objs.size∧s₁ = { s with heap:=s.heap.push { cls:=.type "dict",data:=.dict #[] } }) PySem.F.kt_called_dict (PySem.F.kt_typeCall_dict_1 _) PySem.F.entry_dict_init (kt_code_dict_new _ ⟨rfl,rfl⟩) ?_
 rintro obj s₁ ⟨rfl,rfl⟩
 have hnew:(s.heap.push { cls:=.type "dict",data:=.dict #[] }).DictOf (zae prog w) s.heap.objs.size []:=Heap.DictOf.new s.heap
 have kp:∀ c o,s.heap.get? c = some o->(s.heap.push { cls:=.type "dict",data:=.dict #[] }).get? c = some o:=fun c o q=>Heap.get?_push_of_some _ q
 have lt:∀ c o,s.heap.get? c = some o->c ≠ s.heap.objs.size:=fun c o q=>Nat.ne_of_lt (Heap.lt_size q)
 have hD0:s.heap.get? s.heap.objs.size = none:=by
  cases q:s.heap.get? s.heap.objs.size with
  | none=>rfl
  | some o=>exact absurd rfl (lt _ o q)
 have fin2:=fin s.heap.objs.size
 clear fin
 revert hnew kp lt hD0 fin2
 generalize (s.heap.push { cls:=.type "dict",data:=.dict #[] }) = hE
 generalize hsz:s.heap.objs.size = D at t1 t2 ⊢
 intro hnew kp lt hD0 fin2
 refine ⟨hnew.typeIs,PySem.F.args_dict_init_2 _ _,?_⟩
 unfold Builtin.«dict.__init__»
 refine wpAny_bind ?_
 unfold Builtin.Dict.selfAndRest
 refine wpAny_bind (wpAny_notOrdered_dict hnew.typeIs ?_)
 show wpAny _ _ (pure (D,[Value.ref z])) _ _ _
 refine wpAny_pure ?_
 show wpAny _ _ (Builtin.Dict.updateFrom "dict.__init__" D (.ref z) [] .none) _ _ _
 unfold Builtin.Dict.updateFrom
 have zE:=kp _ _ hz
 refine wpAny_bind (wpAny_typeOf (T:="zip") ⟨_,zE,rfl⟩ ?_)
 rw [if_pos (by decide)]
 refine wpAny_bind (zfm (by simpa using hh) zE fun hF tk kF=>?_)
 rw [if_pos (by rfl)]
 refine wpAny_bind (wpAny_rule ?_)
 refine wpAny_bind (wpAny_pyIter_zip (kF _ _ zE) ?_)
 have kH:∀ c o,s.heap.get? c = some o->hF.get? c = some o:=fun c o q=>kF c o (kp c o q)
 have hD:hF.DictOf (zae prog w) D []:=let ⟨o,es,ep,hg,hr⟩:=hnew; ⟨o,es,ep,kF _ _ hg,hr⟩
 obtain ⟨oi,ei⟩:=N1.there _ _ h1
 obtain ⟨oj,ej⟩:=N2.there _ _ h2
 refine wpAny_pure ⟨by first | rfl | with_unfolding_all rfl,?_⟩
 refine zgJ (s:=s) (s0:=s.heap) (D:=D) (by simpa using hh) N1 N2 ap n1 n2 ?_ (Nat.ne_of_lt t1) (Nat.ne_of_lt t2) hD0 n1000 kvs kl ks (fun h' tk vs g1 g2 g3=>⟨rfl,fin2 h' tk vs rfl g1 g2 g3⟩) n 0 hF tk [] .none .none rfl (Nat.zero_le _) hD (by rw [k0]; exact .nil) ⟨.none,false,kH _ _ hz,.inl rfl⟩ (kH _ _ ht) (kH _ _ ho) (N1.frame _ _ _ h1 fun b o _ q=>kH b o q) (N2.frame _ _ _ h2 fun b o _ q=>kH b o q) fun c o _ q=>kH c o q
 simp only [List.mem_cons,List.not_mem_nil,or_false,not_or]
 exact ⟨fun q=>lt i _ ei q.symm,fun q=>lt j _ ej q.symm,fun q=>lt ti _ ht q.symm,fun q=>lt to _ ho q.symm,fun q=>lt z _ hz q.symm⟩
end
end L2
set_option Elab.async false
set_option linter.all false
set_option maxRecDepth 100000
namespace L2
open PySem PySem.Spec PyProof.Rows
noncomputable def za0 (ps:List (Key × V)):List (Key × V):=ps.foldl (fun a p=>putK a p.1 p.2) []
theorem zeB (ps:List (Key × V)) (p:Key × V):za0 (ps ++ [p]) = putK (za0 ps) p.1 p.2:=by unfold za0; rw [List.foldl_append]; rfl
theorem zbw (ps:List (Key × V)):(za0 ps).length ≤ ps.length:=by
 have:∀ (l:List (Key × V)) (a:List (Key × V)),(l.foldl (fun a p=>putK a p.1 p.2) a).length ≤ a.length + l.length:=by
  intro l
  induction l with
  | nil=>intro a; exact Nat.le_refl _
  | cons p l ih =>
   intro a
   have h1:=ih (putK a p.1 p.2)
   have h2:=zaD a p.1 p.2
   rw [List.foldl_cons,List.length_cons]
   omega
 have h:=this ps []
 rw [List.length_nil,Nat.zero_add] at h
 exact h
noncomputable def ze9 (K:PySem.W.Frag) (ta:TA):TE:=fun σ H Q=>ta σ H fun vs H1=>∃ (p q:Addr) (ks:List Key) (ys:List V),vs = [.ref p,.ref q]∧SqL K H1 p (ks.map kV)∧SqL K H1 q ys∧ks.length = ys.length∧ks.length ≤ 1000 ∧
 ∀ D:Addr,H1 D = none->Q (.ref D) (upd H1 D (.dK (za0 (ks.zip ys))))
section
variable {X:Cx} {e1 e2:Expr} {ta:TA} {p p1 pos pos1:Pos} {K:PySem.W.Frag}
set_option maxHeartbeats 2000000 in
theorem zcY (hk:X.K = K) (hc:X.calm = true) (hg:Gl X "dict") (hm:X.mg "dict" = none) (hg2:Gl X "zip") (hm2:X.mg "zip" = none) (ha:PA X [e1,e2] ta)
  (hs:starEach [e1,e2] X.env = (false,eval e1 X.env) :: starEach [e2] X.env:=by rfl) (hp:(backTo pos1 (starEach [e2] X.env)).any (·.1) = false:=by rfl) :
  PE X (.Call (.Name "dict" p) [.Call (.Name "zip" p1) [e1,e2] [] pos1] [] pos) (ze9 K ta):=by
 subst hk
 intro pins s σ H Q I h
 refine wpAny_Call_Name_kw (zbs I hg hm (u:=.type "dict") (by decide +kernel) ?_)
 refine PyProof.Rows.callWith_type1 (Calls.spliced_cons ?_) rfl rfl
 refine wpAny_Call_Name_kw (zbs I hg2 hm2 (u:=.type "zip") (by decide +kernel) ?_)
 refine PyProof.Rows.callWith_type1 (thn (ha pos1 pins s σ H _ I h) fun us s1 zq=>?_) hs hp
 obtain ⟨vs,H1,I1,r1,px,qx,ks,ys,ev,sx,sy,le,l1000,q⟩:=zq
 subst ev
 obtain ⟨u,v,rfl,ru,rv⟩:=zh6 r1
 obtain ⟨oI,fI,pI,nI⟩:=zeU I1 ru (.inr (.inl ⟨px,rfl,sx⟩))
 obtain ⟨oJ,fJ,pJ,nJ⟩:=zeU I1 rv (.inr (.inl ⟨qx,rfl,sy⟩))
 refine zgN fI fJ (fun A E Q q=>pI s1 (fun b o g=>g) A E Q q) (fun A E Q q=>pJ _ (fun b o g=>Heap.get?_push_of_some _ g) A E Q q) fun i j ti to z h' ei ej k gi gj ni nj nti nto nz pt po pz nd=>Calls.spliced_nil ?_
 obtain ⟨d1,P1,S1,hd1,N1,b1,st1⟩:=nI i ni
 obtain ⟨d2,P2,S2,hd2,N2,b2,st2⟩:=nJ j nj
 rw [List.length_map] at N1
 rw [← le] at N2
 have nd':=nd
 simp only [List.nodup_cons,List.mem_cons,List.not_mem_nil,or_false,not_or,not_false_eq_true,List.nodup_nil,and_true] at nd'
 have off:∀ {d c:Addr} {o:Obj},s1.heap.get? d = some o->s1.heap.get? c = none->d ≠ c:=fun g n e=>by rw [e,n] at g; cases g
 have t1:∃ o,h'.get? d1 = some o:=by
  rcases hd1 with rfl | ⟨o,g⟩
  ·exact ⟨_,gi⟩
  ·exact ⟨o,k _ _ g⟩
 have t2:∃ o,h'.get? d2 = some o:=by
  rcases hd2 with rfl | ⟨o,g⟩
  ·exact ⟨_,gj⟩
  ·exact ⟨o,k _ _ g⟩
 refine zdn (A:=X.A) (I1.ok.hd hc) N1 N2 nd ?_ ?_ (by obtain ⟨o,g⟩:=t1; exact Heap.lt_size g) (by obtain ⟨o,g⟩:=t2; exact Heap.lt_size g) l1000 pz pt po (st1 h' k gi) (st2 h' k gj) (fun k=>za0 ((ks.zip ys).take k)) rfl (fun k=>Nat.le_trans (zbw _) (by rw [List.length_take]; exact Nat.min_le_left _ _)) (fun k v u h1 h2=>?_) fun D h2 tk vs hD gD rl K2=>?_
 ·simp only [List.mem_cons,List.not_mem_nil,or_false,not_or]
  rcases hd1 with rfl | ⟨o,g⟩
  ·exact ⟨nd'.1.1,nd'.1.2.2.1,nd'.1.2.2.2⟩
  ·exact ⟨off g nj,off g nto,off g nz⟩
 ·simp only [List.mem_cons,List.not_mem_nil,or_false,not_or]
  rcases hd2 with rfl | ⟨o,g⟩
  ·exact ⟨fun z=>nd'.1.1 z.symm,nd'.2.1.2.1,nd'.2.1.2.2⟩
  ·exact ⟨off g ni,off g nto,off g nz⟩
 ·obtain ⟨y1,hy1,ry1⟩:=b1 k v h1
  obtain ⟨y2,hy2,ry2⟩:=b2 k u h2
  rw [List.getElem?_map] at hy1
  cases ek:ks[k]? with
  | none=>rw [ek] at hy1; cases hy1
  | some key =>
   rw [ek] at hy1
   cases hy1
   refine ⟨key,y2,zei ry1,ry2,?_⟩
   show za0 ((ks.zip ys).take (k + 1)) = _
   have hz:(ks.zip ys)[k]? = some (key,y2):=by rw [List.getElem?_zip_eq_some]; exact ⟨ek,hy2⟩
   rw [List.take_succ,hz]
   exact zeB _ _
 ·have kk:∀ b u,s1.heap.get? b = some u->h2.get? b = some u:=fun b u g=>K2 b u (by
   simp only [List.mem_cons,List.not_mem_nil,or_false,not_or]
   exact ⟨off g nz,off g nto,off g ni,off g nj⟩) (k b u g)
  have sz:s1.heap.objs.size ≤ D:=by
   rw [hD]
   have:i < h'.objs.size:=Heap.lt_size gi
   rw [ei] at this
   exact Nat.le_of_lt this
  have ll:=zbw ((ks.zip ys).take ks.length)
  have l2:((ks.zip ys).take ks.length) = ks.zip ys:=List.take_of_length_le (by rw [List.length_zip]; omega)
  rw [l2] at rl ll
  rw [List.length_zip] at ll
  refine ⟨.ref D,_,I1.laid (t':=tk) (o:=.dK (za0 (ks.zip ys))) kk sz ⟨by rw [sizeLine_eq]; omega,?_,vs,rl,gD⟩,rfl,q D (I1.hok.fresh sz)⟩
  have hb:sysModules < s1.heap.objs.size:=I1.big
  exact beq_eq_false_iff_ne.mpr (Ne.symm (Nat.ne_of_lt (Nat.lt_of_lt_of_le hb sz)))
end
end L2
set_option Elab.async false
set_option linter.all false
set_option maxRecDepth 100000
namespace L2
theorem lq1 (us:List PySem.Value) (h:us.length=1):∃ a,us=[a]:=by
 cases us with
 | nil=>cases h
 | cons a us=>cases us with
  | nil=>exact ⟨a,rfl⟩
  | cons b us=>exact absurd h (by simp)
theorem lqS {n:Nat} (us:List PySem.Value) (h:us.length=n+1):∃ a vs,us=a::vs∧vs.length=n:=by
 cases us with
 | nil=>cases h
 | cons a us=>exact ⟨a,us,rfl,Nat.succ.inj h⟩
theorem lq2 (us:List PySem.Value) (h:us.length=2):∃ a b,us=[a,b]:=by
 obtain ⟨a,vs,rfl,q⟩:=lqS us h
 obtain ⟨b,rfl⟩:=lq1 vs q
 exact ⟨a,b,rfl⟩
theorem lq3 (us:List PySem.Value) (h:us.length=3):∃ a b c,us=[a,b,c]:=by
 obtain ⟨a,vs,rfl,q⟩:=lqS us h
 obtain ⟨b,c,rfl⟩:=lq2 vs q
 exact ⟨a,b,c,rfl⟩
theorem lq4 (us:List PySem.Value) (h:us.length=4):∃ a b c d,us=[a,b,c,d]:=by
 obtain ⟨a,vs,rfl,q⟩:=lqS us h
 obtain ⟨b,c,d,rfl⟩:=lq3 vs q
 exact ⟨a,b,c,d,rfl⟩
theorem lq5 (us:List PySem.Value) (h:us.length=5):∃ a b c d e,us=[a,b,c,d,e]:=by
 obtain ⟨a,vs,rfl,q⟩:=lqS us h
 obtain ⟨b,c,d,e,rfl⟩:=lq4 vs q
 exact ⟨a,b,c,d,e,rfl⟩
theorem lq6 (us:List PySem.Value) (h:us.length=6):∃ a b c d e f,us=[a,b,c,d,e,f]:=by
 obtain ⟨a,vs,rfl,q⟩:=lqS us h
 obtain ⟨b,c,d,e,f,rfl⟩:=lq5 vs q
 exact ⟨a,b,c,d,e,f,rfl⟩
end L2
namespace Law
open PySem L2
local macro_rules | `(tactic| simp! [$ls,*])=>`(tactic| simp only [tSeq,tAsg,zbV,tVar,tC,tOp,tUn,rI0,rI,rU,tCB,zcn,tNil,tRet,tRetN,tIfS,zeq,tB,tAnd,tOr,tNot,zhS,tOrV,ziv,tIf,zgZ,tNext,zed,zho,tIsN,zjq,L2.start,List.map_cons,List.map_nil,List.length_cons,List.length_nil,List.nil_append,List.cons_append,List.append_nil,Nat.reduceAdd,Nat.reduceSub,Nat.sub_self,List.replicate_succ,List.replicate_zero,List.set_cons_zero,List.set_cons_succ,List.getElem?_cons_zero,List.getElem?_cons_succ,Option.some.injEq,V.int.injEq,V.bl.injEq,V.str.injEq,V.ref.injEq,List.cons.injEq,exists_eq_left',exists_eq_left,exists_and_left,and_true,true_and,if_true,if_false,ite_true,ite_false,Bool.true_eq_false,Bool.false_eq_true,decide_eq_true_eq,Bool.not_true,Bool.not_false,Bool.not_eq_true',decide_eq_false_iff_not,reduceCtorEq,false_and,and_false,exists_false,tTup,tLst,sizeLine_eq,Nat.reduceLeDiff,Nat.zero_le,rEq,rNe,rIxF,rEqF,gSub,rSetL,HO.lst.injEq,HO.tup.injEq,HO.ins.injEq,HO.dK.injEq,ze2,zgi,zfk,zfX,zfJ,zhP,zge,zgu,zdx,zgn,ze5,zfF,zgw,zfK,zhA,zbl,zeW,zfc,zfd,zfa,ze4,zd1,zeh,zec,isTys,and_assoc,zdu,zgK,zix,ziQ,ziO,zad,V.ty.injEq,eq_self_iff_true,and_self,String.reduceEq,or_false,or_true,false_or,true_or,Bool.or_true,Bool.or_false,Bool.true_or,Bool.false_or,Bool.and_false,Bool.false_and,Bool.and_true,Bool.true_and,String.reduceBEq,beq_self_eq_true,zfV,zif,zdG,zfh,zd3,zd4,sFld,tFld,tDNewK,zfO,zhF,EX,zih,zie,zhB,Nat.reduceLT,Option.join_some,Option.join_none,not_true_eq_false,not_false_eq_true,zh4,gNil,zhJ,rEqE,tAug,ipI,$ls,*])
noncomputable def top (i : Nat) : Stmt := PySem.Challenge.pw_knownholds_k08_whole_ways_are_alike.main.body.getD i (.Pass ⟨0, 0, 0, 0⟩)
noncomputable abbrev s_head:Stmt:=top 6
noncomputable abbrev s_Yard___init:Stmt:=zbj (top 7) 0
noncomputable abbrev s_Yard_make:Stmt:=zbj (top 7) 1
noncomputable abbrev s_Yard_is_thing:Stmt:=zbj (top 7) 2
noncomputable abbrev s_Yard_size_of:Stmt:=zbj (top 7) 3
noncomputable abbrev s_Yard_word:Stmt:=zbj (top 7) 4
noncomputable abbrev s_Yard_set_word:Stmt:=zbj (top 7) 5
noncomputable abbrev s_Yard_words_from:Stmt:=zbj (top 7) 6
noncomputable abbrev s_Yard_holds_of:Stmt:=zbj (top 7) 7
noncomputable abbrev s_Yard_numbers_of:Stmt:=zbj (top 7) 8
noncomputable abbrev s_lay_held:Stmt:=top 9
noncomputable abbrev s_lay_words:Stmt:=top 10
noncomputable abbrev s_carted:Stmt:=top 11
noncomputable abbrev s_law_bag:Stmt:=top 13
noncomputable abbrev s_law_draw:Stmt:=top 14
noncomputable abbrev s_law_more:Stmt:=top 15
noncomputable abbrev s_law_whole:Stmt:=top 16
noncomputable abbrev s_law_start:Stmt:=top 17
noncomputable abbrev s_law_worth:Stmt:=top 18
noncomputable abbrev s_law_size:Stmt:=top 19
noncomputable abbrev s_law_many:Stmt:=top 20
noncomputable abbrev s_law_hold:Stmt:=top 21
noncomputable abbrev s_law_field:Stmt:=top 22
noncomputable abbrev s_law_filled:Stmt:=top 23
noncomputable abbrev s_law_roots:Stmt:=top 24
noncomputable abbrev s_law_free:Stmt:=top 25
noncomputable abbrev s_law_thing:Stmt:=top 26
noncomputable abbrev s_law_alike:Stmt:=top 27
noncomputable abbrev s_law_partners:Stmt:=top 28
noncomputable abbrev s_law_gone:Stmt:=top 29
noncomputable abbrev s_law:Stmt:=top 30
set_option genInjectivity false in
set_option genSizeOf false in
structure Ad where
 c_Yard:Addr
 f_head:Addr
 d_head:FuncData
 f_Yard___init:Addr
 d_Yard___init:FuncData
 f_Yard_make:Addr
 d_Yard_make:FuncData
 f_Yard_is_thing:Addr
 d_Yard_is_thing:FuncData
 f_Yard_size_of:Addr
 d_Yard_size_of:FuncData
 f_Yard_word:Addr
 d_Yard_word:FuncData
 f_Yard_set_word:Addr
 d_Yard_set_word:FuncData
 f_Yard_words_from:Addr
 d_Yard_words_from:FuncData
 f_Yard_holds_of:Addr
 d_Yard_holds_of:FuncData
 f_Yard_numbers_of:Addr
 d_Yard_numbers_of:FuncData
 f_lay_held:Addr
 d_lay_held:FuncData
 f_lay_words:Addr
 d_lay_words:FuncData
 f_carted:Addr
 d_carted:FuncData
 f_law_bag:Addr
 d_law_bag:FuncData
 f_law_draw:Addr
 d_law_draw:FuncData
 f_law_more:Addr
 d_law_more:FuncData
 f_law_whole:Addr
 d_law_whole:FuncData
 f_law_start:Addr
 d_law_start:FuncData
 f_law_worth:Addr
 d_law_worth:FuncData
 f_law_size:Addr
 d_law_size:FuncData
 f_law_many:Addr
 d_law_many:FuncData
 f_law_hold:Addr
 d_law_hold:FuncData
 f_law_field:Addr
 d_law_field:FuncData
 f_law_filled:Addr
 d_law_filled:FuncData
 f_law_roots:Addr
 d_law_roots:FuncData
 f_law_free:Addr
 d_law_free:FuncData
 f_law_thing:Addr
 d_law_thing:FuncData
 f_law_alike:Addr
 d_law_alike:FuncData
 f_law_partners:Addr
 d_law_partners:FuncData
 f_law_gone:Addr
 d_law_gone:FuncData
 f_law:Addr
 d_law:FuncData
 c_NoSpot:Addr
 c_NoThing:Addr
structure Txt (K:PySem.W.Frag) (mg:Str->Option Value) (a:Ad):Prop where
 cl_Yard:Cls K a.c_Yard
 m_Yard:mg "Yard" = some (.ref a.c_Yard)
 M_Yard:Mk K a.c_Yard a.f_Yard___init
 n_free:zbX K a.c_Yard "free"
 n_words:zbX K a.c_Yard "words"
 n_sizes:zbX K a.c_Yard "sizes"
 x_NoSpot:XCls K a.c_NoSpot
 m_NoSpot:mg "NoSpot" = some (.ref a.c_NoSpot)
 x_NoThing:XCls K a.c_NoThing
 m_NoThing:mg "NoThing" = some (.ref a.c_NoThing)
 F_head:Fun K "head" "head" s_head a.f_head a.d_head
 b_head:zaE K a.d_head ["h","m"] []
 m_head:mg "head" = some (.ref a.f_head)
 F_Yard___init:Fun K "__init__" "Yard.__init__" s_Yard___init a.f_Yard___init a.d_Yard___init
 b_Yard___init:zaE K a.d_Yard___init ["self","start"] []
 F_Yard_make:Fun K "make" "Yard.make" s_Yard_make a.f_Yard_make a.d_Yard_make
 b_Yard_make:zaE K a.d_Yard_make ["self","h","m"] []
 M_Yard_make:Meth K a.c_Yard "make" a.f_Yard_make
 F_Yard_is_thing:Fun K "is_thing" "Yard.is_thing" s_Yard_is_thing a.f_Yard_is_thing a.d_Yard_is_thing
 b_Yard_is_thing:zaE K a.d_Yard_is_thing ["self","at"] []
 M_Yard_is_thing:Meth K a.c_Yard "is_thing" a.f_Yard_is_thing
 F_Yard_size_of:Fun K "size_of" "Yard.size_of" s_Yard_size_of a.f_Yard_size_of a.d_Yard_size_of
 b_Yard_size_of:zaE K a.d_Yard_size_of ["self","at"] []
 M_Yard_size_of:Meth K a.c_Yard "size_of" a.f_Yard_size_of
 F_Yard_word:Fun K "word" "Yard.word" s_Yard_word a.f_Yard_word a.d_Yard_word
 b_Yard_word:zaE K a.d_Yard_word ["self","spot"] []
 M_Yard_word:Meth K a.c_Yard "word" a.f_Yard_word
 F_Yard_set_word:Fun K "set_word" "Yard.set_word" s_Yard_set_word a.f_Yard_set_word a.d_Yard_set_word
 b_Yard_set_word:zaE K a.d_Yard_set_word ["self","spot","word"] []
 M_Yard_set_word:Meth K a.c_Yard "set_word" a.f_Yard_set_word
 F_Yard_words_from:Fun K "words_from" "Yard.words_from" s_Yard_words_from a.f_Yard_words_from a.d_Yard_words_from
 b_Yard_words_from:zaE K a.d_Yard_words_from ["self","first","many"] []
 M_Yard_words_from:Meth K a.c_Yard "words_from" a.f_Yard_words_from
 F_Yard_holds_of:Fun K "holds_of" "Yard.holds_of" s_Yard_holds_of a.f_Yard_holds_of a.d_Yard_holds_of
 b_Yard_holds_of:zaE K a.d_Yard_holds_of ["self","at"] []
 M_Yard_holds_of:Meth K a.c_Yard "holds_of" a.f_Yard_holds_of
 F_Yard_numbers_of:Fun K "numbers_of" "Yard.numbers_of" s_Yard_numbers_of a.f_Yard_numbers_of a.d_Yard_numbers_of
 b_Yard_numbers_of:zaE K a.d_Yard_numbers_of ["self","at"] []
 M_Yard_numbers_of:Meth K a.c_Yard "numbers_of" a.f_Yard_numbers_of
 F_lay_held:Fun K "lay_held" "lay_held" s_lay_held a.f_lay_held a.d_lay_held
 b_lay_held:zaE K a.d_lay_held ["yard","fresh","holds","places","pairs"] []
 m_lay_held:mg "lay_held" = some (.ref a.f_lay_held)
 F_lay_words:Fun K "lay_words" "lay_words" s_lay_words a.f_lay_words a.d_lay_words
 b_lay_words:zaE K a.d_lay_words ["fresh","first","words"] []
 m_lay_words:mg "lay_words" = some (.ref a.f_lay_words)
 F_carted:Fun K "carted" "carted" s_carted a.f_carted a.d_carted
 b_carted:zaE K a.d_carted ["yard","roots"] []
 m_carted:mg "carted" = some (.ref a.f_carted)
 F_law_bag:Fun K "_law_bag" "_law_bag" s_law_bag a.f_law_bag a.d_law_bag
 b_law_bag:zaE K a.d_law_bag ["script"] []
 m_law_bag:mg "_law_bag" = some (.ref a.f_law_bag)
 F_law_draw:Fun K "_law_draw" "_law_draw" s_law_draw a.f_law_draw a.d_law_draw
 b_law_draw:zaE K a.d_law_draw ["bag","many"] []
 m_law_draw:mg "_law_draw" = some (.ref a.f_law_draw)
 F_law_more:Fun K "_law_more" "_law_more" s_law_more a.f_law_more a.d_law_more
 b_law_more:zaE K a.d_law_more ["bag"] []
 m_law_more:mg "_law_more" = some (.ref a.f_law_more)
 F_law_whole:Fun K "_law_whole" "_law_whole" s_law_whole a.f_law_whole a.d_law_whole
 b_law_whole:zaE K a.d_law_whole ["found"] []
 m_law_whole:mg "_law_whole" = some (.ref a.f_law_whole)
 F_law_start:Fun K "_law_start" "_law_start" s_law_start a.f_law_start a.d_law_start
 b_law_start:zaE K a.d_law_start ["bag"] []
 m_law_start:mg "_law_start" = some (.ref a.f_law_start)
 F_law_worth:Fun K "_law_worth" "_law_worth" s_law_worth a.f_law_worth a.d_law_worth
 b_law_worth:zaE K a.d_law_worth ["bag"] []
 m_law_worth:mg "_law_worth" = some (.ref a.f_law_worth)
 F_law_size:Fun K "_law_size" "_law_size" s_law_size a.f_law_size a.d_law_size
 b_law_size:zaE K a.d_law_size ["bag"] []
 m_law_size:mg "_law_size" = some (.ref a.f_law_size)
 F_law_many:Fun K "_law_many" "_law_many" s_law_many a.f_law_many a.d_law_many
 b_law_many:zaE K a.d_law_many ["bag"] []
 m_law_many:mg "_law_many" = some (.ref a.f_law_many)
 F_law_hold:Fun K "_law_hold" "_law_hold" s_law_hold a.f_law_hold a.d_law_hold
 b_law_hold:zaE K a.d_law_hold ["bag","things","k","chain"] []
 m_law_hold:mg "_law_hold" = some (.ref a.f_law_hold)
 F_law_field:Fun K "_law_field" "_law_field" s_law_field a.f_law_field a.d_law_field
 b_law_field:zaE K a.d_law_field ["yard","things","k","j","worth"] []
 m_law_field:mg "_law_field" = some (.ref a.f_law_field)
 F_law_filled:Fun K "_law_filled" "_law_filled" s_law_filled a.f_law_filled a.d_law_filled
 b_law_filled:zaE K a.d_law_filled ["bag","yard"] []
 m_law_filled:mg "_law_filled" = some (.ref a.f_law_filled)
 F_law_roots:Fun K "_law_roots" "_law_roots" s_law_roots a.f_law_roots a.d_law_roots
 b_law_roots:zaE K a.d_law_roots ["bag","things"] []
 m_law_roots:mg "_law_roots" = some (.ref a.f_law_roots)
 F_law_free:Fun K "_law_free" "_law_free" s_law_free a.f_law_free a.d_law_free
 b_law_free:zaE K a.d_law_free ["start","things"] []
 m_law_free:mg "_law_free" = some (.ref a.f_law_free)
 F_law_thing:Fun K "_law_thing" "_law_thing" s_law_thing a.f_law_thing a.d_law_thing
 b_law_thing:zaE K a.d_law_thing ["yard","hold"] []
 m_law_thing:mg "_law_thing" = some (.ref a.f_law_thing)
 F_law_alike:Fun K "_law_alike" "_law_alike" s_law_alike a.f_law_alike a.d_law_alike
 b_law_alike:zaE K a.d_law_alike ["yard","by","hold","new"] []
 m_law_alike:mg "_law_alike" = some (.ref a.f_law_alike)
 F_law_partners:Fun K "_law_partners" "_law_partners" s_law_partners a.f_law_partners a.d_law_partners
 b_law_partners:zaE K a.d_law_partners ["found","roots"] []
 m_law_partners:mg "_law_partners" = some (.ref a.f_law_partners)
 F_law_gone:Fun K "_law_gone" "_law_gone" s_law_gone a.f_law_gone a.d_law_gone
 b_law_gone:zaE K a.d_law_gone ["bag","yard","by","holds","news"] []
 m_law_gone:mg "_law_gone" = some (.ref a.f_law_gone)
 F_law:Fun K "law" "law" s_law a.f_law a.d_law
 b_law:zaE K a.d_law ["script"] []
 m_law:mg "law" = some (.ref a.f_law)
 z_abs:mg "abs" = none
 z_bool:mg "bool" = none
 z_dict:mg "dict" = none
 z_enumerate:mg "enumerate" = none
 z_int:mg "int" = none
 z_isinstance:mg "isinstance" = none
 z_len:mg "len" = none
 z_list:mg "list" = none
 z_max:mg "max" = none
 z_range:mg "range" = none
 z_set:mg "set" = none
 z_sum:mg "sum" = none
 z_tuple:mg "tuple" = none
 z_zip:mg "zip" = none
theorem sc_head:FnScope ["h","m"] ["h","m"] (zak s_head):=⟨rfl,rfl,rfl,by decide +kernel,rfl,by decide +kernel,by decide +kernel⟩
theorem sc_Yard___init:FnScope ["self","start"] ["self","start"] (zak s_Yard___init):=⟨rfl,rfl,rfl,by decide +kernel,rfl,by decide +kernel,by decide +kernel⟩
theorem sc_Yard_make:FnScope ["self","h","m","at","spot"] ["self","h","m"] (zak s_Yard_make):=⟨rfl,rfl,rfl,by decide +kernel,rfl,by decide +kernel,by decide +kernel⟩
theorem sc_Yard_is_thing:FnScope ["self","at"] ["self","at"] (zak s_Yard_is_thing):=⟨rfl,rfl,rfl,by decide +kernel,rfl,by decide +kernel,by decide +kernel⟩
theorem sc_Yard_size_of:FnScope ["self","at"] ["self","at"] (zak s_Yard_size_of):=⟨rfl,rfl,rfl,by decide +kernel,rfl,by decide +kernel,by decide +kernel⟩
theorem sc_Yard_word:FnScope ["self","spot"] ["self","spot"] (zak s_Yard_word):=⟨rfl,rfl,rfl,by decide +kernel,rfl,by decide +kernel,by decide +kernel⟩
theorem sc_Yard_set_word:FnScope ["self","spot","word"] ["self","spot","word"] (zak s_Yard_set_word):=⟨rfl,rfl,rfl,by decide +kernel,rfl,by decide +kernel,by decide +kernel⟩
theorem sc_Yard_words_from:FnScope ["self","first","many"] ["self","first","many"] (zak s_Yard_words_from):=⟨rfl,rfl,rfl,by decide +kernel,rfl,by decide +kernel,by decide +kernel⟩
theorem sc_Yard_holds_of:FnScope ["self","at","size"] ["self","at"] (zak s_Yard_holds_of):=⟨rfl,rfl,rfl,by decide +kernel,rfl,by decide +kernel,by decide +kernel⟩
theorem sc_Yard_numbers_of:FnScope ["self","at","size"] ["self","at"] (zak s_Yard_numbers_of):=⟨rfl,rfl,rfl,by decide +kernel,rfl,by decide +kernel,by decide +kernel⟩
theorem sc_lay_held:FnScope ["yard","fresh","holds","places","pairs","hold","size"] ["yard","fresh","holds","places","pairs"] (zak s_lay_held):=⟨rfl,rfl,rfl,by decide +kernel,rfl,by decide +kernel,by decide +kernel⟩
theorem sc_lay_words:FnScope ["fresh","first","words","k","word"] ["fresh","first","words"] (zak s_lay_words):=⟨rfl,rfl,rfl,by decide +kernel,rfl,by decide +kernel,by decide +kernel⟩
theorem sc_carted:FnScope ["yard","roots","fresh","places","pairs","done","old","now","holds"] ["yard","roots"] (zak s_carted):=⟨rfl,rfl,rfl,by decide +kernel,rfl,by decide +kernel,by decide +kernel⟩
theorem sc_law_bag:FnScope ["script","stir","cell"] ["script"] (zak s_law_bag):=⟨rfl,rfl,rfl,by decide +kernel,rfl,by decide +kernel,by decide +kernel⟩
theorem sc_law_draw:FnScope ["bag","many","found"] ["bag","many"] (zak s_law_draw):=⟨rfl,rfl,rfl,by decide +kernel,rfl,by decide +kernel,by decide +kernel⟩
theorem sc_law_more:FnScope ["bag"] ["bag"] (zak s_law_more):=⟨rfl,rfl,rfl,by decide +kernel,rfl,by decide +kernel,by decide +kernel⟩
theorem sc_law_whole:FnScope ["found"] ["found"] (zak s_law_whole):=⟨rfl,rfl,rfl,by decide +kernel,rfl,by decide +kernel,by decide +kernel⟩
theorem sc_law_start:FnScope ["bag"] ["bag"] (zak s_law_start):=⟨rfl,rfl,rfl,by decide +kernel,rfl,by decide +kernel,by decide +kernel⟩
theorem sc_law_worth:FnScope ["bag"] ["bag"] (zak s_law_worth):=⟨rfl,rfl,rfl,by decide +kernel,rfl,by decide +kernel,by decide +kernel⟩
theorem sc_law_size:FnScope ["bag"] ["bag"] (zak s_law_size):=⟨rfl,rfl,rfl,by decide +kernel,rfl,by decide +kernel,by decide +kernel⟩
theorem sc_law_many:FnScope ["bag","way"] ["bag"] (zak s_law_many):=⟨rfl,rfl,rfl,by decide +kernel,rfl,by decide +kernel,by decide +kernel⟩
theorem sc_law_hold:FnScope ["bag","things","k","chain"] ["bag","things","k","chain"] (zak s_law_hold):=⟨rfl,rfl,rfl,by decide +kernel,rfl,by decide +kernel,by decide +kernel⟩
theorem sc_law_field:FnScope ["yard","things","k","j","worth","at","holds","numbers"] ["yard","things","k","j","worth"] (zak s_law_field):=⟨rfl,rfl,rfl,by decide +kernel,rfl,by decide +kernel,by decide +kernel⟩
theorem sc_law_filled:FnScope ["bag","yard","many","chain","things","k","h","m","j"] ["bag","yard"] (zak s_law_filled):=⟨rfl,rfl,rfl,by decide +kernel,rfl,by decide +kernel,by decide +kernel⟩
theorem sc_law_roots:FnScope ["bag","things","roots","way","many","k"] ["bag","things"] (zak s_law_roots):=⟨rfl,rfl,rfl,by decide +kernel,rfl,by decide +kernel,by decide +kernel⟩
theorem sc_law_free:FnScope ["start","things"] ["start","things"] (zak s_law_free):=⟨rfl,rfl,rfl,by decide +kernel,rfl,by decide +kernel,by decide +kernel⟩
theorem sc_law_thing:FnScope ["yard","hold","h","m"] ["yard","hold"] (zak s_law_thing):=⟨rfl,rfl,rfl,by decide +kernel,rfl,by decide +kernel,by decide +kernel⟩
theorem sc_law_alike:FnScope ["yard","by","hold","new","some"] ["yard","by","hold","new"] (zak s_law_alike):=⟨rfl,rfl,rfl,by decide +kernel,rfl,by decide +kernel,by decide +kernel⟩
theorem sc_law_partners:FnScope ["found","roots","partner","one"] ["found","roots"] (zak s_law_partners):=⟨rfl,rfl,rfl,by decide +kernel,rfl,by decide +kernel,by decide +kernel⟩
theorem sc_law_gone:FnScope ["bag","yard","by","holds","news","there","back","k","at","hold","j","new"] ["bag","yard","by","holds","news"] (zak s_law_gone):=⟨rfl,rfl,rfl,by decide +kernel,rfl,by decide +kernel,by decide +kernel⟩
theorem sc_law:FnScope ["script","bag","twice","start","yard","things","free","roots","by","thing","news","k","found","hold","new"] ["script"] (zak s_law):=⟨rfl,rfl,rfl,by decide +kernel,rfl,by decide +kernel,by decide +kernel⟩
section
variable {P:Program} {w:World} {K:PySem.W.Frag} {mg:Str->Option Value} {base:Heap} {a:Ad}
structure BagOk (cs:List Int) (i v st n:Int):Prop where
 i0:0 ≤ i
 i1:i ≤ cs.length
 v0:0 ≤ v
 s0:0 ≤ st
 s1:st < 2147483647
 n0:0 ≤ n
noncomputable def bagL (c:Addr) (i v st n:Int):List V:=[.ref c,.int i,.int v,.int st,.int n]
structure BagAt (H:Hp) (b c:Addr) (cs:List Int):Prop where
 ex:∃ i v st n,H b = some (.lst (bagL c i v st n))∧BagOk cs i v st n
 at_:H c = some (.lst (cs.map V.int))
 ne:c ≠ b
 pos:∀ z ∈ cs,0 ≤ z
 len:cs.length ≤ 63
noncomputable def Kp (b:Addr) (H H':Hp):Prop:=∀ q o,H q = some o->q ≠ b->H' q = some o
theorem Kp.refl {b:Addr} {H:Hp}:Kp b H H:=fun _ _ h _=>h
theorem Kp.trans {b:Addr} {H H1 H2:Hp} (x:Kp b H H1) (y:Kp b H1 H2):Kp b H H2:=fun q o h n=>y q o (x q o h n) n
theorem Kp.laid {b p:Addr} {H H1:Hp} {u:HO} (x:Kp b H H1) (hp:H1 p = none):Kp b H (upd H1 p u):=fun q o h n=>zan (x q o h n) hp
theorem Kp.at_ {b:Addr} {H:Hp} {u:HO}:Kp b H (upd H b u):=fun q o h n=>by rw [zag n]; exact h
theorem BagAt.laid {H:Hp} {b c p:Addr} {cs:List Int} {u:HO} (x:BagAt H b c cs) (hp:H p = none):BagAt (upd H p u) b c cs:=by
 obtain ⟨⟨i,v,st,n,e,k⟩,h2,ne,pos,len⟩:=x
 exact ⟨⟨i,v,st,n,zan e hp,k⟩,zan h2 hp,ne,pos,len⟩
theorem BagAt.other {H:Hp} {b c p:Addr} {cs:List Int} {u:HO} (x:BagAt H b c cs) (h1:p ≠ b) (h2:p ≠ c):BagAt (upd H p u) b c cs:=by
 obtain ⟨⟨i,v,st,n,e,k⟩,h3,ne,pos,len⟩:=x
 exact ⟨⟨i,v,st,n,by rw [zag h1.symm]; exact e,k⟩,by rw [zag h2.symm]; exact h3,ne,pos,len⟩
theorem BagAt.keep {H H':Hp} {b c:Addr} {cs:List Int} (x:BagAt H b c cs) (hs:∀ q o,H q = some o->H' q = some o):BagAt H' b c cs:=by
 obtain ⟨⟨i,v,st,n,e,k⟩,h3,ne,pos,len⟩:=x
 exact ⟨⟨i,v,st,n,hs _ _ e,k⟩,hs _ _ h3,ne,pos,len⟩
theorem zir {x:Int} (h0:0 ≤ x):0 ≤ x ^ 3:=Int.pow_nonneg h0
noncomputable def sp_draw:Sp:=fun vs H Q _=>∃ (b c:Addr) (cs:List Int) (many:Int),vs = [.ref b,.int many]∧BagAt H b c cs∧0 < many∧many ≤ 10 ^ 70∧∀ (r:Int) (H':Hp),0 ≤ r->r < many->BagAt H' b c cs->Kp b H H'->Q (.int r) H'
theorem ixN5_0:ixN 5 0 = some 0:=rfl
theorem ixN5_1:ixN 5 1 = some 1:=rfl
theorem ixN5_2:ixN 5 2 = some 2:=rfl
theorem ixN5_3:ixN 5 3 = some 3:=rfl
theorem ixN5_4:ixN 5 4 = some 4:=rfl
set_option maxHeartbeats 4000000 in
theorem zaj (T:Txt K mg a):FnOk P w K mg base (CX1 P w) 1 a.f_law_draw a.d_law_draw ["bag","many"] sp_draw:=by
 refine T.F_law_draw.okC sc_law_draw (fun vs H Q E h=>?_) (fun cdv A outer s H vs Q E hr h=>?_)
 ·obtain ⟨b,c,cs,m,rfl,_⟩:=h
  rfl
 ·obtain ⟨b,c,cs,m,rfl,⟨⟨i,v,st,n,hb,i0,i1,v0,s0,s1,n0⟩,hc,ne,pos,len⟩,m0,m1,q⟩:=h
  have hu:=zaX hr
  refine ⟨_,(zac (zaS (PW.pt (zdK (zar op_eq (zax ix_F (pv 0) zab (fun _ _=>rfl)) zab (zaw _)) (zcF (zar op_lt (zax ix_F (pv 0) zab (fun _ _=>rfl)) (zam call_lenF (by rfl) T.z_len (by decide +kernel) (zaa (zax ix_F (pv 0) zab (fun _ _=>rfl)) pa_nil)) (zaw _))))) (zac (zbI (zax ix_F (zax ix_F (pv 0) zab (fun _ _=>rfl)) (zax ix_F (pv 0) zab (fun _ _=>rfl)) (fun _ _=>rfl)) (zcL (pv 0) zab set_list))
   (zaf (zbI (zat op_add (zax ix_F (pv 0) zab (fun _ _=>rfl)) zab) (zcL (pv 0) zab set_list)))) (zaf (zaS (zar op_eq (zax ix_F (pv 0) zab (fun _ _=>rfl)) zab (zaw _)) (zac (zbI (zat op_add (zax ix_F (pv 0) zab (fun _ _=>rfl)) zab) (zcL (pv 0) zab set_list))
   (zac (zbI (zat op_mod (zat op_add (zat op_add (zat op_add (zat op_pow (zax ix_F (pv 0) zab (fun _ _=>rfl)) zab) (zat op_mul zab (zax ix_F (pv 0) zab (fun _ _=>rfl)))) (zat op_mul zab (zax ix_F (pv 0) zab (fun _ _=>rfl)))) zab) zab) (zcL (pv 0) zab set_list))
   (zaf (zaq (zat op_mod (zat op_fdivB (zax ix_F (pv 0) zab (fun _ _=>rfl)) zab) (pv 1)))))) pss_nil)))
   (zac (zau (i:=2) sc_law_draw.nd (by rfl) (Or.inl rfl) (zat op_mod (zax ix_F (pv 0) zab (fun _ _=>rfl)) (pv 1)))
   (zac (zbI (zat op_fdivB (zax ix_F (pv 0) zab (fun _ _=>rfl)) (pv 1)) (zcL (pv 0) zab set_list))
   (zaf (zaq (pv 2)))))),?_⟩
  simp! [hb,hc,bagL,ixN5_0,ixN5_1,ixN5_2,ixN5_3,ixN5_4,zbb,List.length_map]
  have fin:∀ (r i' v' st' n':Int),0 ≤ r->r < m->BagOk cs i' v' st' n'->Q (.int r) (upd H b (.lst [.ref c,.int i',.int v',.int st',.int n'])):=fun r i' v' st' n' h1 h2 h3 =>
   q r _ h1 h2 ⟨⟨i',v',st',n',zad,h3⟩,by rw [zag ne]; exact hc,ne,pos,len⟩ Kp.at_
  have e3:(3:Int).toNat = 3:=rfl
  rw [e3]
  have p3:=zir s0
  have B1:CPow st 3∧CMul 69621 st∧CMul 1009 (n + 1)∧(0:Int) < 2147483647∧zhw ((st ^ 3 + 69621 * st + 1009 * (n + 1) + 1) % 2147483647) 16∧0 < m∧Q (V.int ((st ^ 3 + 69621 * st + 1009 * (n + 1) + 1) % 2147483647 / 16 % m)) (upd H b (HO.lst [V.ref c,V.int i,V.int v,V.int ((st ^ 3 + 69621 * st + 1009 * (n + 1) + 1) % 2147483647),V.int (n + 1)])):=by
   refine ⟨⟨by decide,by decide,by omega⟩,.inl ⟨by decide,by decide⟩,.inl ⟨by decide,by decide⟩,by decide,⟨by decide,by decide⟩,m0,?_⟩
   generalize (st ^ 3 + 69621 * st + 1009 * (n + 1) + 1) = y
   exact fin _ _ _ _ _ (Int.emod_nonneg _ (by omega)) (Int.emod_lt_of_pos _ m0) ⟨i0,i1,v0,by omega,by omega,by omega⟩
  have B2:0 < m∧zhw v m∧Q (V.int (v % m)) (upd H b (HO.lst [V.ref c,V.int i,V.int (v / m),V.int st,V.int n])) :=
   ⟨m0,⟨m0,m1⟩,fin _ _ _ _ _ (Int.emod_nonneg _ (by omega)) (Int.emod_lt_of_pos _ m0) ⟨i0,i1,Int.ediv_nonneg v0 (by omega),s0,s1,n0⟩⟩
  have B3:i < cs.length->∃ x,atI (cs.map V.int) i = some x∧∃ i_1,x = V.int i_1∧0 < m∧∃ i_2,x = V.int i_2∧zhw i_2 m∧Q (V.int (i_1 % m)) (upd H b (HO.lst [V.ref c,V.int (i + 1),V.int (i_2 / m),V.int st,V.int n])):=fun hi=>by
   have hj:i.toNat < cs.length:=by omega
   have e1:(cs.map V.int)[i.toNat]? = some (V.int cs[i.toNat]):=by rw [List.getElem?_map,List.getElem?_eq_getElem hj]; rfl
   have e2:=zaU e1
   rw [show ((i.toNat:Nat):Int) = i by omega] at e2
   have p:=pos _ (List.getElem_mem hj)
   refine ⟨_,e2,_,rfl,m0,_,rfl,⟨m0,m1⟩,?_⟩
   exact fin _ _ _ _ _ (Int.emod_nonneg _ (by omega)) (Int.emod_lt_of_pos _ m0) ⟨by omega,by omega,Int.ediv_nonneg p (by omega),s0,s1,n0⟩
  refine ite2 (fun h1=>ite2 B3 fun h2=>ite2 (fun _=>B1) fun _=>B2) fun h1=>ite2 (fun _=>B1) fun _=>B2
theorem cut63 (ns:List Int):∃ zs:List Int,cutV (ns.map V.int) none (some 63) = zs.map V.int∧zs.length ≤ 63∧zs.length ≤ ns.length:=by
 refine ⟨(ns.drop (HT.sIx (ns.map V.int).length 0 none)).take (HT.sIx (ns.map V.int).length (ns.map V.int).length (some 63) - HT.sIx (ns.map V.int).length 0 none),?_,?_,?_⟩
 ·unfold cutV
  rw [List.map_take,List.map_drop]
 ·rw [List.length_take,List.length_drop,List.length_map]
  have:HT.sIx ns.length ns.length (some 63) ≤ 63:=by unfold HT.sIx; simp; omega
  omega
 ·rw [List.length_take,List.length_drop]; omega
noncomputable def ziD (K:PySem.W.Frag):Sp:=fun vs H Q _=>∃ (r:Addr) (ns:List Int),vs = [.ref r]∧SqL K H r (ns.map V.int)∧∀ (b c:Addr) (cs:List Int) (H':Hp),H b = none->H c = none->BagAt H' b c cs->Same H H'->Q (.ref b) H'
set_option maxHeartbeats 4000000 in
theorem zfC (T:Txt K mg a):FnOk P w K mg base (CX1 P w) 1 a.f_law_bag a.d_law_bag ["script"] (ziD K):=by
 refine T.F_law_bag.okC sc_law_bag (fun vs H Q E h=>?_) (fun cdv A outer s H vs Q E hr h=>?_)
 ·obtain ⟨r,ns,rfl,_⟩:=h
  rfl
 ·obtain ⟨r,ns,rfl,hS,q⟩:=h
  have hu:=zaX hr
  obtain ⟨zs,ez,lz,_⟩:=cut63 ns
  refine ⟨_,(zac (zau (i:=1) sc_law_bag.nd (by rfl) (Or.inl rfl) zab)
   (zac (za6 PassesOwn.never (by rfl) (zbc (zcr sl_list (pv 0) po_none (zdy zab))) (zas (i:=2) sc_law_bag.nd (by rfl) (Or.inl rfl))
   (zaf (zau (i:=1) sc_law_bag.nd (by rfl) (Or.inl rfl) (zat op_mod (zat op_add (zat op_add (zat op_mul (pv 1) zab) (zat op_mod (pv 2) zab)) zab) zab))))
   (zaf (zaq (zbu (zaa (zbr (N':=["cell"]) (cap:=[none]) ⟨rfl,(by decide +kernel),(by decide +kernel),(by rfl),rfl,(by rfl)⟩ (by rfl) (zbc (zcr sl_list (pv 0) po_none (zdy zab))) (fun C_ ex_ s_ H_=>(zas (i:=0) (show (["cell"]:List Str).Nodup by decide +kernel) (by rfl) (Or.inl rfl))) za3 (fun C_ ex_ s_ H_=>zby) (fun C_ ex_ s_ H_=>(zat op_mod (zam call_abs (by rfl) T.z_abs (by decide +kernel) (zaa (pv 0) pa_nil)) (zat op_pow zab zab)))) (zaa zab (zaa zab (zaa (pv 1) (zaa zab pa_nil)))))))))),?_⟩
  refine ⟨_,rfl,63,rfl,r,_,rfl,hS,fun l1 hl1=>?_⟩
  rw [ez]
  refine ⟨l1,rfl,⟨_,.of zad⟩,zdh (xs:=zs.map V.int) (fun i σ H2=>∃ (st:Int) (v2:Option V),σ = [some (.ref r),some (.int st),v2]∧H2 = upd H l1 (.lst (zs.map V.int))∧0 ≤ st∧st < 2147483647)
   ⟨7,_,rfl,rfl,by decide,by decide⟩ (fun i σ H2 _ ⟨_,_,_,e,_⟩=>by rw [e]; exact .of zad) ?_ ?_⟩
  ·rintro i x σ H2 hi ⟨st,v2,rfl,rfl,s0,s1⟩
   obtain ⟨z,_,rfl⟩:=zaG hi
   simp! []
   exact ⟨.inr ⟨by decide,by decide⟩,by decide,by decide,Int.emod_nonneg _ (by decide),Int.emod_lt_of_pos _ (by decide)⟩
  ·rintro σ H2 ⟨st,v2,rfl,rfl,s0,s1⟩
   have hS1:SqL K (upd H l1 (.lst (zs.map V.int))) r (ns.map V.int):=(Same.laid hl1).seq hS
   refine ⟨_,rfl,63,rfl,r,_,rfl,hS1,fun l2 hl2=>?_⟩
   rw [ez]
   refine ⟨l2,rfl,⟨_,.of zad⟩,fun D hD=>?_⟩
   refine zdM (xs:=zs.map V.int) (fun i ys H2=>∃ ws:List Int,ys = ws.map V.int∧ws.length = i∧(∀ z ∈ ws,0 ≤ z)∧H2 = upd (upd (upd H l1 (.lst (zs.map V.int))) l2 (.lst (zs.map V.int))) D (.lst ys))
    ⟨[],rfl,rfl,by simp,rfl⟩ (fun i ys H2 _ ⟨ws,e1,e2,_,e3⟩=>?_) (by rw [sizeLine_eq]; simp; omega) ?_ ?_
   ·rw [e3]
    exact ⟨.of (zan zad hD),zad,by rw [e1]; simp; omega⟩
   ·rintro i x ys H2 hi ⟨ws,rfl,e2,e3,rfl⟩
    obtain ⟨z,_,rfl⟩:=zaG hi
    simp! [tTrue,zaT]
    refine ⟨⟨by decide,by decide,by decide⟩,by decide,ws ++ [(if z < 0 then -z else z) % 10 ^ Int.toNat 60],by simp,by simp; omega,?_,zbb⟩
    intro y hy
    rcases List.mem_append.mp hy with hy | hy
    ·exact e3 y hy
    ·rw [List.mem_singleton.mp hy]
     exact Int.emod_nonneg _ (by decide)
   ·rintro ys H2 ⟨ws,rfl,e2,e3,rfl⟩
    simp! []
    intro b hb
    have n1:H b = none:=Same.free (((Same.laid hl1).step hl2).step hD) hb
    have n2:H D = none:=Same.free ((Same.laid hl1).step hl2) hD
    rw [List.length_map] at e2
    exact q b D ws _ n1 n2 ⟨⟨0,0,st,0,zad,by decide,by omega,by decide,s0,s1,by decide⟩,zan zad hb,zah zad hb,e3,by omega⟩ ((((Same.laid hl1).step hl2).step hD).step hb)
end
local macro_rules | `(tactic| walk_at "rd")=>`(tactic| simp only [tSeq,tAsg,zbV,tVar,tC,tOp,tUn,rI0,rI,rU,tCB,zcn,tNil,tRet,tRetN,tIfS,zeq,tB,tAnd,tOr,tNot,zhS,tOrV,ziv,tIf,zgZ,tNext,zed,zho,tIsN,zjq,L2.start,List.map_cons,List.map_nil,List.length_cons,List.length_nil,List.nil_append,List.cons_append,List.append_nil,Nat.reduceAdd,Nat.reduceSub,Nat.sub_self,List.replicate_succ,List.replicate_zero,List.set_cons_zero,List.set_cons_succ,List.getElem?_cons_zero,List.getElem?_cons_succ,Option.some.injEq,V.int.injEq,V.bl.injEq,V.str.injEq,V.ref.injEq,List.cons.injEq,exists_eq_left',exists_eq_left,exists_and_left,and_true,true_and,if_true,if_false,ite_true,ite_false,Bool.true_eq_false,Bool.false_eq_true,decide_eq_true_eq,Bool.not_true,Bool.not_false,Bool.not_eq_true',decide_eq_false_iff_not,reduceCtorEq,false_and,and_false,exists_false,tTup,tLst,sizeLine_eq,Nat.reduceLeDiff,Nat.zero_le,rEq,rNe,rIxF,rEqF,gSub,rSetL,HO.lst.injEq,HO.tup.injEq,HO.ins.injEq,HO.dK.injEq,ze2,zgi,zfk,zfX,zfJ,zhP,zge,zgu,zdx,zgn,ze5,zfF,zgw,zfK,zhA,zbl,zeW,zfc,zfd,zfa,ze4,zd1,zeh,zec,isTys,and_assoc,zdu,zgK,zix,ziQ,ziO,zad,V.ty.injEq,eq_self_iff_true,and_self,String.reduceEq,or_false,or_true,false_or,true_or,Bool.or_true,Bool.or_false,Bool.true_or,Bool.false_or,Bool.and_false,Bool.false_and,Bool.and_true,Bool.true_and,String.reduceBEq,beq_self_eq_true,zfV,zif,zdG,zfh,zd3,zd4,sFld,tFld,tDNewK,zfO,zhF,EX,zih,zie,zhB,Nat.reduceLT,Option.join_some,Option.join_none,not_true_eq_false,not_false_eq_true,zh4,gNil,zhJ,rEqE,tAug,ipI])
section
variable {P:Program} {w:World} {K:PySem.W.Frag} {mg:Str->Option Value} {base:Heap} {a:Ad}
theorem zh8 (x d:Nat) (h:d < 16):(16 * x) &&& d = 0:=by
 have e1:d &&& 15 = d % 16:=Nat.and_two_pow_sub_one_eq_mod d 4
 have e2:(16 * x) &&& 15 = (16 * x) % 16:=Nat.and_two_pow_sub_one_eq_mod (16 * x) 4
 have e3:d % 16 = d:=Nat.mod_eq_of_lt h
 have e4:(16 * x) % 16 = 0:=by omega
 have f1:d &&& 15 = d:=e1.trans e3
 have f2:(16 * x) &&& (d &&& 15) = ((16 * x) &&& 15) &&& d:=by rw [Nat.and_comm d 15,Nat.and_assoc]
 rw [f1,e2,e4,Nat.zero_and] at f2
 exact f2
theorem ziJ {v d:Int} (h0:0 ≤ v) (d0:0 ≤ d) (d1:d < 16):Builtin.bitOr (v * 16) d = 16 * v + d:=by
 have e:(v * 16).toNat &&& d.toNat = 0:=by
  have q:(v * 16).toNat = 16 * v.toNat:=by omega
  rw [q]
  exact zh8 _ _ (by omega)
 rw [PyProof.Rows.bitOr_and,PyProof.Rows.bitAnd_pp (by omega) d0,e]
 simp; omega
noncomputable def sp_head:Sp:=fun vs H Q _=>∃ h m:Int,vs = [.int h,.int m]∧0 ≤ h∧h ≤ 9∧0 ≤ m∧m ≤ 9∧Q (.int (16 * h + m)) H
theorem zh2 (T:Txt K mg a):FnOk P w K mg base (CX1 P w) 1 a.f_head a.d_head ["h","m"] sp_head:=by
 refine T.F_head.okC sc_head (fun vs H Q E h=>?_) (fun cdv A outer s H vs Q E hr h=>?_)
 ·obtain ⟨h,m,rfl,_⟩:=h
  rfl
 ·obtain ⟨h,m,rfl,h0,h1,m0,m1,q⟩:=h
  refine ⟨_,(zaf (zaq (zat op_or (zat op_shl (pv 0) zab) (pv 1)))),?_⟩
  walk_at "rd"
  refine ⟨⟨by decide,by decide,by omega⟩,?_⟩
  show Q (.int (Builtin.bitOr (h * 2 ^ Int.toNat 4) m)) H
  rw [show (h * 2 ^ Int.toNat 4:Int) = h * 16 from rfl,ziJ h0 m0 (by omega)]
  exact q
noncomputable def zhV (C:Addr):Sp:=fun vs H Q _=>∃ (x dx:Addr) (st:Int),vs = [.ref x,.int st]∧H x = some (.ins C dx []) ∧
 ∀ (dw ds:Addr) (H':Hp),H dw = none->H ds = none->YardAt C H' ⟨x,dx,dw,ds⟩ (fun _=>none) [] st->Fr (· = x) H H'->Q .non H'
theorem zbG (T:Txt K mg a):FnOk P w K mg base (CX1 P w) 1 a.f_Yard___init a.d_Yard___init ["self","start"] (zhV a.c_Yard):=by
 refine T.F_Yard___init.okC sc_Yard___init (fun vs H Q E h=>?_) (fun cdv A outer s H vs Q E hr h=>?_)
 ·obtain ⟨x,dx,st,rfl,_⟩:=h
  rfl
 ·obtain ⟨x,dx,st,rfl,hx,q⟩:=h
  refine ⟨_,(zac (zfe (pv 0) (pv 1) (by rfl))
   (zac (zfe (pv 0) pe_dnewK (by rfl))
   (zaf (zfe (pv 0) pe_dnewK (by rfl))))),?_⟩
  simp! [T.cl_Yard,T.n_free,T.n_words,T.n_sizes,hx,zbb,zi4]
  intro dw hdw
  have n1:x ≠ dw:=zah zad hdw
  simp! [T.cl_Yard,T.n_free,T.n_words,T.n_sizes,hx,zag n1,zad,zbb,zi9]
  intro ds hds
  have n2:x ≠ ds:=zah zad hds
  have h1:H dw = none:=by rw [zag n1.symm] at hdw; exact hdw
  have n3:dw ≠ ds:=zah (by rw [zag n1.symm]; exact zad) hds
  have h2:H ds = none:=by rw [zag n2.symm,zag n3.symm,zag n2.symm] at hds; exact hds
  simp! [T.cl_Yard,T.n_free,T.n_words,T.n_sizes,hx,zag n1,zag n2,zad,zbb,zi6]
  refine q dw ds _ h1 h2 ⟨zad,⟨[],?_,fun z=>rfl,Nat.zero_le _⟩,⟨[],?_,rfl,(by simp),fun z _=>rfl⟩,n3⟩ ?_
  ·rw [zag n1.symm,zag n3,zag n1.symm]; exact zad
  ·rw [zag n2.symm]; exact zad
  ·refine Fr.trans (Fr.trans (Fr.trans (Fr.trans (Fr.put (p:=x) rfl ?_) (.laid hdw)) (Fr.put (p:=x) rfl ?_)) (.laid hds)) (Fr.put (p:=x) rfl ?_)
   ·exact zbA hx
   ·exact zbA (by rw [zag n1]; exact zad)
   ·exact zbA (by rw [zag n2]; exact zad)
end
section
variable {P:Program} {w:World} {K:PySem.W.Frag} {mg:Str->Option Value} {base:Heap} {a:Ad}
noncomputable def zgD (W:Int->Option Int) (f h m:Int):Int->Option Int:=fun z=>if z = f then some (16 * h + m) else if f < z∧z < f + 1 + h + m then some 0 else W z
noncomputable def zhY (C:Addr):Sp:=fun vs H Q _=>∃ (y:Yd) (h m f:Int) (W:Int->Option Int) (S:List (Int × Int × Int)),vs = [.ref y.p,.int h,.int m]∧0 ≤ h∧h ≤ 9∧0 ≤ m∧m ≤ 9∧YardAt C H y W S f∧(∀ t ∈ S,t.1 ≠ f)∧S.length ≤ 1000 ∧
 ∀ H',YardAt C H' y (zgD W f h m) (S ++ [(f,h,m)]) (f + 1 + h + m)->Fr (YM y) H H'->Q (.int f) H'
set_option maxHeartbeats 1000000 in
theorem zck (T:Txt K mg a):FnOk P w K mg base (CX1 P w) 2 a.f_Yard_make a.d_Yard_make ["self","h","m"] (zhY a.c_Yard):=by
 refine T.F_Yard_make.okC sc_Yard_make (fun vs H Q E h=>?_) (fun cdv A outer s H vs Q E hr h=>?_)
 ·obtain ⟨y,h,m,f,W,S,rfl,_⟩:=h
  rfl
 ·obtain ⟨y,h,m,f,W,S,rfl,h0,h1,m0,m1,⟨hp,⟨kw,hw,vw,lw⟩,⟨ks,hs,ek,vk,nk⟩,ne⟩,nf,lS,q⟩:=h
  have hu:=zaX hr
  have np1:y.p ≠ y.dw:=zg4 hp hw (by intro z; cases z)
  have np2:y.p ≠ y.ds:=zg4 hp hs (by intro z; cases z)
  refine ⟨_,(zac (zau (i:=3) sc_Yard_make.nd (by rfl) (Or.inl rfl) (za5 (pv 0) (by rfl)))
   (zac (za4 hu (za5 (pv 0) (by rfl)) (pv 3) (zcW (zaa (pv 1) (zaa (pv 2) pa_nil))) (by rfl))
   (zac (za4 hu (za5 (pv 0) (by rfl)) (pv 3) (zai (zh2 T) (hr.mono (by decide)) (by rfl) T.m_head T.F_head.kp T.b_head .nil zao (zaa (pv 1) (zaa (pv 2) pa_nil))) (by rfl))
   (zac (zfe (pv 0) (zat op_add (zat op_add (zat op_add (pv 3) zab) (pv 1)) (pv 2)) (by rfl))
   (zac (za6 PassesOwn.never (by rfl) (zdZ (by rfl) T.z_range (zaa (zat op_add (pv 3) zab) (zaa (za5 (pv 0) (by rfl)) pa_nil))) (zas (i:=4) sc_Yard_make.nd (by rfl) (Or.inl rfl))
   (zaf (za4 hu (za5 (pv 0) (by rfl)) (pv 4) zab (by rfl))))
   (zaf (zaq (pv 3)))))))),?_⟩
  simp! [T.cl_Yard,T.n_free,T.n_words,T.n_sizes,hp,zcw,zbm,zbB,zcj]
  intro t1 ht1
  have lk:ks.length = S.length:=by have:=congrArg List.length ek; simpa using this
  have e1:upd H t1 (.tup [.int h,.int m]) y.p = some (.ins a.c_Yard y.dx (yF y f)):=zan hp ht1
  have e2:upd H t1 (.tup [.int h,.int m]) y.ds = some (.dK ks):=zan hs ht1
  have e3:upd H t1 (.tup [.int h,.int m]) y.dw = some (.dK kw):=zan hw ht1
  simp! [T.cl_Yard,T.n_free,T.n_words,T.n_sizes,e1,e2,e3,zcw,zbm,zbB,zcj,zag np1,zag np2,zag ne,zag ne.symm,zag np1.symm,zag np2.symm,zhz]
  refine ⟨by omega,h,m,rfl,h0,h1,m0,m1,?_⟩
  simp! [T.cl_Yard,T.n_free,T.n_words,T.n_sizes,e1,e2,e3,zcw,zbm,zbB,zcj,zag np1,zag np2,zag ne,zag ne.symm,zag np1.symm,zag np2.symm,zhz]
  refine ⟨by omega,?_⟩
  have w1:valV ks (.inl f) = none:=nk f nf
  have eks:putK ks (.inl f) (.ref t1) = ks ++ [(.inl f,.ref t1)]:=zg6 _ w1
  have F0:Fr (YM y) H (upd (upd (upd (upd H t1 (.tup [.int h,.int m])) y.ds (.dK (putK ks (.inl f) (.ref t1)))) y.dw (.dK (putK kw (.inl f) (.int (16 * h + m))))) y.p (.ins a.c_Yard y.dx (yF y (f + 1 + h + m)))) :=
   (((Fr.laid ht1).trans (.put (.inr (.inr rfl)) (zbg e2))).trans (.put (.inr (.inl rfl)) (zbg (by rw [zag ne]; exact e3)))).trans (.put (.inl rfl) (zbA (by rw [zag np1,zag np2]; exact e1)))
  have g1:(upd (upd (upd (upd H t1 (.tup [.int h,.int m])) y.ds (.dK (putK ks (.inl f) (.ref t1)))) y.dw (.dK (putK kw (.inl f) (.int (16 * h + m))))) y.p (.ins a.c_Yard y.dx (yF y (f + 1 + h + m)))) y.p = some (.ins a.c_Yard y.dx (yF y (f + 1 + h + m))):=zad
  have g2:(upd (upd (upd (upd H t1 (.tup [.int h,.int m])) y.ds (.dK (putK ks (.inl f) (.ref t1)))) y.dw (.dK (putK kw (.inl f) (.int (16 * h + m))))) y.p (.ins a.c_Yard y.dx (yF y (f + 1 + h + m)))) y.dw = some (.dK (putK kw (.inl f) (.int (16 * h + m)))):=by rw [zag np1.symm]; exact zad
  have g3:(upd (upd (upd (upd H t1 (.tup [.int h,.int m])) y.ds (.dK (putK ks (.inl f) (.ref t1)))) y.dw (.dK (putK kw (.inl f) (.int (16 * h + m))))) y.p (.ins a.c_Yard y.dx (yF y (f + 1 + h + m)))) y.ds = some (.dK (putK ks (.inl f) (.ref t1))):=by rw [zag np2.symm,zag ne.symm]; exact zad
  have g4:(upd (upd (upd (upd H t1 (.tup [.int h,.int m])) y.ds (.dK (putK ks (.inl f) (.ref t1)))) y.dw (.dK (putK kw (.inl f) (.int (16 * h + m))))) y.p (.ins a.c_Yard y.dx (yF y (f + 1 + h + m)))) t1 = some (.tup [.int h,.int m]):=by
   rw [zag (zah hp ht1).symm,zag (zah hw ht1).symm,zag (zah hs ht1).symm]; exact zad
  revert F0 g1 g2 g3 g4
  generalize (upd (upd (upd (upd H t1 (.tup [.int h,.int m])) y.ds (.dK (putK ks (.inl f) (.ref t1)))) y.dw (.dK (putK kw (.inl f) (.int (16 * h + m))))) y.p (.ins a.c_Yard y.dx (yF y (f + 1 + h + m)))) = H0
  intro F0 g1 g2 g3 g4
  refine forA (H1:=H0) (f + 1) (f + 1 + h + m) ?_ (fun i σ H2=>∃ (kw2:List (Key × V)) (v4:Option V),σ = [some (.ref y.p),some (.int h),some (.int m),some (.int f),v4]∧Fr (· = y.dw) H0 H2∧H2 y.dw = some (.dK kw2)∧kw2.length ≤ 19 * S.length + 1 + i ∧
   (∀ z,valV kw2 (.inl z) = (if z = f then some (16 * h + m) else if f < z∧z < f + 1 + i then some 0 else W z).map V.int)) ?_ ?_ ?_
  ·intro Q2 hQ
   simp! [T.cl_Yard,T.n_free,T.n_words,T.n_sizes,g1,zcw]
   exact hQ
  ·have:=zaD kw (.inl f) (.int (16 * h + m))
   refine ⟨_,_,rfl,.refl,g2,by omega,fun z=>?_⟩
   rw [zaV,vw]
   by_cases c:z = f
   ·rw [if_pos (by rw [c]),if_pos c]; rfl
   ·rw [if_neg (fun e=>c (by cases e; rfl)),if_neg c,if_neg (by omega)]
  ·rintro i σ H2 hi ⟨kw2,v4,rfl,F,gw,lw2,vw2⟩
   have g1':=F.keep _ _ g1 np1
   simp! [T.cl_Yard,T.n_free,T.n_words,T.n_sizes,g1',gw,zbm]
   have:=zaD kw2 (.inl (f + 1 + (i:Int))) (.int 0)
   refine ⟨by omega,F.trans (.put rfl (zbg gw)),by omega,fun z=>?_⟩
   rw [zaV,vw2]
   by_cases c:z = f + 1 + i
   ·rw [if_pos (by rw [c]),if_neg (by omega),if_pos (by omega)]; rfl
   ·rw [if_neg (fun e=>c (by cases e; rfl))]
    by_cases c2:z = f
    ·rw [if_pos c2,if_pos c2]
    ·rw [if_neg c2,if_neg c2]
     by_cases c3:f < z∧z < f + 1 + i
     ·rw [if_pos c3,if_pos (by omega)]
     ·rw [if_neg c3,if_neg (by omega)]
  ·rintro σ H2 ⟨kw2,v4,rfl,F,gw,lw2,vw2⟩
   refine ⟨_,rfl,q H2 ⟨F.keep _ _ g1 np1,⟨kw2,gw,fun z=>?_,?_⟩,⟨_,F.keep _ _ g3 (Ne.symm ne),?_,fun t ht=>?_,fun z hz=>?_⟩,ne⟩ ?_⟩
   ·rw [vw2]
    unfold zgD
    by_cases c:z = f
    ·rw [if_pos c,if_pos c]
    ·rw [if_neg c,if_neg c]
     by_cases c3:f < z∧z < f + 1 + h + m
     ·rw [if_pos c3,if_pos (by omega)]
     ·rw [if_neg c3,if_neg (by omega)]
   ·rw [List.length_append,List.length_cons,List.length_nil]; omega
   ·rw [eks,List.map_append,List.map_append,ek]; rfl
   ·rcases List.mem_append.mp ht with ht | ht
    ·obtain ⟨q1,e1',e2'⟩:=vk t ht
     refine ⟨q1,?_,F.tups _ _ (F0.tups _ _ e2')⟩
     rw [zaV,if_neg (fun e=>nf t ht (by cases e; rfl))]; exact e1'
    ·rw [List.mem_singleton.mp ht]
     refine ⟨t1,by rw [zaV,if_pos rfl],F.tups _ _ g4⟩
   ·rw [zaV,if_neg (fun e=>hz _ (List.mem_append_right _ (List.mem_singleton.mpr rfl)) (by cases e; rfl))]
    exact nk z fun t ht=>hz t (List.mem_append_left _ ht)
   ·exact F0.trans (F.mono fun q e=>.inr (.inl e))
end
section
variable {P:Program} {w:World} {K:PySem.W.Frag} {mg:Str->Option Value} {base:Heap} {a:Ad}
noncomputable def zim (C X:Addr):Sp:=fun vs H Q E=>∃ (y:Yd) (z f:Int) (W:Int->Option Int) (S:List (Int × Int × Int)),vs = [.ref y.p,.int z]∧YardAt C H y W S f∧z.natAbs.log2 < 1920 ∧
 (∀ h m q,(z,h,m) ∈ S->H q = some (.tup [.int h,.int m])->Q (.ref q) H)∧((∀ t ∈ S,t.1 ≠ z)->E (.ref X) none H)
theorem zaK (T:Txt K mg a):FnOk P w K mg base (CX1 P w) 1 a.f_Yard_size_of a.d_Yard_size_of ["self","at"] (zim a.c_Yard a.c_NoThing):=by
 refine T.F_Yard_size_of.okX sc_Yard_size_of (fun vs H Q E h=>?_) (fun cdv A outer s H vs Q E hr h=>?_)
 ·obtain ⟨y,z,f,W,S,rfl,_⟩:=h
  rfl
 ·obtain ⟨y,z,f,W,S,rfl,⟨hp,_,⟨ks,hs,ek,vk,nk⟩,ne⟩,lz,q1,q2⟩:=h
  have hu:=zaX hr
  refine ⟨_,(zac (zaS (zcE (zbh hu (pv 1) (za5 (pv 0) (by rfl)))) (zaf (zdj (by rfl) T.x_NoThing (by rfl) T.m_NoThing flies_cx (zaa (zen (by decide) (pv 1)) pa_nil))) pss_nil)
   (zaf (zaq (zaJ hu (za5 (pv 0) (by rfl)) (pv 1) (fun _ _=>rfl))))),?_⟩
  simp! [T.cl_Yard,T.n_free,T.n_words,T.n_sizes,hp,hs,zbB,zcj,lz]
  by_cases c:∀ t ∈ S,t.1 ≠ z
  ·rw [nk z c]
   rw [if_pos (by rfl)]
   exact fun _=>q2 c
  ·have ⟨t,ht,e⟩:∃ t ∈ S,t.1 = z:=by
    by_cases d:∃ t ∈ S,t.1 = z
    ·exact d
    ·exact absurd (fun t ht e=>d ⟨t,ht,e⟩) c
   obtain ⟨q,e1,e2⟩:=vk t ht
   subst e
   rw [e1,if_neg (by simp)]
   exact ⟨_,rfl,q1 t.2.1 t.2.2 q ht e2⟩
noncomputable def zh9 (C X:Addr):Sp:=fun vs H Q E=>∃ (y:Yd) (z f:Int) (W:Int->Option Int) (S:List (Int × Int × Int)),vs = [.ref y.p,.int z]∧YardAt C H y W S f∧z.natAbs.log2 < 1920 ∧
 (∀ x,W z = some x->Q (.int x) H)∧(W z = none->E (.ref X) none H)
theorem zcf (T:Txt K mg a):FnOk P w K mg base (CX1 P w) 1 a.f_Yard_word a.d_Yard_word ["self","spot"] (zh9 a.c_Yard a.c_NoSpot):=by
 refine T.F_Yard_word.okX sc_Yard_word (fun vs H Q E h=>?_) (fun cdv A outer s H vs Q E hr h=>?_)
 ·obtain ⟨y,z,f,W,S,rfl,_⟩:=h
  rfl
 ·obtain ⟨y,z,f,W,S,rfl,⟨hp,⟨kw,hw,vw,lw⟩,_,ne⟩,lz,q1,q2⟩:=h
  have hu:=zaX hr
  refine ⟨_,(zac (zaS (zcE (zbh hu (pv 1) (za5 (pv 0) (by rfl)))) (zaf (zdj (by rfl) T.x_NoSpot (by rfl) T.m_NoSpot flies_cx (zaa (zen (by decide) (pv 1)) pa_nil))) pss_nil)
   (zaf (zaq (zaJ hu (za5 (pv 0) (by rfl)) (pv 1) (fun _ _=>rfl))))),?_⟩
  simp! [T.cl_Yard,T.n_free,T.n_words,T.n_sizes,hp,hw,zbm,zcj,lz,vw]
  cases e:W z with
  | none=>exact fun _=>q2 e
  | some x=>exact ⟨_,rfl,q1 x e⟩
end
section
variable {P:Program} {w:World} {K:PySem.W.Frag} {mg:Str->Option Value} {base:Heap} {a:Ad}
noncomputable def ziC (C X:Addr):Sp:=fun vs H Q E=>∃ (y:Yd) (z v f:Int) (W:Int->Option Int) (S:List (Int × Int × Int)),vs = [.ref y.p,.int z,.int v]∧YardAt C H y W S f∧S.length ≤ 1000∧z.natAbs.log2 < 1920 ∧
 (∀ x H',W z = some x->(∀ t ∈ S,t.1 ≠ z)->YardAt C H' y (fun z'=>if z' = z then some v else W z') S f->Fr (· = y.dw) H H'->Q .non H')∧((W z = none ∨ ∃ t ∈ S,t.1 = z)->E (.ref X) none H)
theorem zbp (T:Txt K mg a):FnOk P w K mg base (CX1 P w) 1 a.f_Yard_set_word a.d_Yard_set_word ["self","spot","word"] (ziC a.c_Yard a.c_NoSpot):=by
 refine T.F_Yard_set_word.okX sc_Yard_set_word (fun vs H Q E h=>?_) (fun cdv A outer s H vs Q E hr h=>?_)
 ·obtain ⟨y,z,v,f,W,S,rfl,_⟩:=h
  rfl
 ·obtain ⟨y,z,v,f,W,S,rfl,⟨hp,⟨kw,hw,vw,lw⟩,⟨ks,hs,ek,vk,nk⟩,ne⟩,lS,lz,q1,q2⟩:=h
  have hu:=zaX hr
  have np1:y.p ≠ y.dw:=zg4 hp hw (by intro z; cases z)
  refine ⟨_,(zac (zaS (PW.pt (zb8 (zcE (zbh hu (pv 1) (za5 (pv 0) (by rfl)))) (zbH (zcE (zgf hu (pv 1) (za5 (pv 0) (by rfl))))))) (zaf (zdj (by rfl) T.x_NoSpot (by rfl) T.m_NoSpot flies_cx (zaa (zen (by decide) (pv 1)) pa_nil))) pss_nil)
   (zaf (za4 hu (za5 (pv 0) (by rfl)) (pv 1) (pv 2) (by rfl)))),?_⟩
  simp! [T.cl_Yard,T.n_free,T.n_words,T.n_sizes,hp,hw,hs,zbm,zbB,zcj,lz,vw]
  cases e:W z with
  | none=>exact fun _=>q2 (.inl e)
  | some x =>
   show if (valV ks (.inl z)).isSome = true then _ else _
   by_cases c:∀ t ∈ S,t.1 ≠ z
   ·rw [nk z c]
    rw [if_neg (by simp)]
    refine ⟨by omega,q1 x _ e c ⟨by rw [zag np1]; exact hp,⟨_,zad,fun z'=>?_,?_⟩,⟨ks,by rw [zag ne.symm]; exact hs,ek,fun t ht=>?_,nk⟩,ne⟩ (.put rfl (zbg hw))⟩
    ·rw [zaV,vw]
     by_cases d:z' = z
     ·rw [if_pos (by rw [d]),if_pos d]; rfl
     ·rw [if_neg (fun e=>d (by cases e; rfl)),if_neg d]
    ·rw [zb9 (by rw [vw,e]; rfl)]; exact lw
    ·obtain ⟨q,e1,e2⟩:=vk t ht
     exact ⟨q,e1,(Fr.put (M:=(· = y.dw)) rfl (zbg hw)).tups _ _ e2⟩
   ·have ⟨t,ht,et⟩:∃ t ∈ S,t.1 = z:=by
     by_cases d:∃ t ∈ S,t.1 = z
     ·exact d
     ·exact absurd (fun t ht e=>d ⟨t,ht,e⟩) c
    obtain ⟨q,e1,e2⟩:=vk t ht
    rw [← et,e1,if_pos (by rfl)]
    exact fun _=>q2 (.inr ⟨t,ht,et⟩)
end
section
variable {P:Program} {w:World} {K:PySem.W.Frag} {mg:Str->Option Value} {base:Heap} {a:Ad}
noncomputable def ziB (C:Addr):Sp:=fun vs H Q _=>∃ (y:Yd) (z n f:Int) (W:Int->Option Int) (S:List (Int × Int × Int)) (xs:List Int),vs = [.ref y.p,.int z,.int n]∧YardAt C H y W S f∧n = xs.length∧n ≤ 1000 ∧
 (∀ (i:Nat) (x:Int),xs[i]? = some x->W (z + i) = some x)∧∀ q H',Same H H'->H q = none->H' q = some (.tup (xs.map V.int))->Q (.ref q) H'
theorem za8 (T:Txt K mg a):FnOk P w K mg base (CX1 P w) 1 a.f_Yard_words_from a.d_Yard_words_from ["self","first","many"] (ziB a.c_Yard):=by
 refine T.F_Yard_words_from.okC sc_Yard_words_from (fun vs H Q E h=>?_) (fun cdv A outer s H vs Q E hr h=>?_)
 ·obtain ⟨y,z,n,f,W,S,xs,rfl,_⟩:=h
  rfl
 ·obtain ⟨y,z,n,f,W,S,xs,rfl,⟨hp,⟨kw,hw,vw,lw⟩,_,ne⟩,en,ln,hx,q⟩:=h
  have hu:=zaX hr
  refine ⟨_,(zaf (zaq (zaR call_tuple_of (by rfl) T.z_tuple (by decide +kernel) (zaa (zbr (N':=["spot","self"]) (cap:=[none,some 0]) ⟨rfl,(by decide +kernel),(by decide +kernel),(by rfl),rfl,(by rfl)⟩ (by rfl) (zdZ (by rfl) T.z_range (zaa (pv 1) (zaa (zat op_add (pv 1) (pv 2)) pa_nil))) (fun C_ ex_ s_ H_=>(zas (i:=0) (show (["spot","self"]:List Str).Nodup by decide +kernel) (by rfl) (Or.inl rfl))) za3 (fun C_ ex_ s_ H_=>zby) (fun C_ ex_ s_ H_=>(zaJ (by exact hu) (zit (K:=K) (by rfl) (pv 1) (by rfl)) (pv 0) (fun _ _=>rfl)))) pa_nil)))),?_⟩
  simp! []
  refine compA (H1:=H) z (z + n) ?_ (fun D i ys H2=>ys = (xs.take i).map V.int∧H2 = upd H D (.lst ys)) (fun D hD=>⟨rfl,rfl⟩) ?_ (by rw [sizeLine_eq]; omega) ?_ ?_
  ·intro Q2 h2
   simp! []
   exact h2
  ·rintro D hD i ys H2 hi ⟨rfl,rfl⟩
   exact ⟨zad,by simp; omega⟩
  ·rintro D hD i ys H2 hi ⟨rfl,rfl⟩
   have hi2:i < xs.length:=by omega
   have e1:upd H D (.lst ((xs.take i).map V.int)) y.p = some (.ins a.c_Yard y.dx (yF y f)):=zan hp hD
   have e2:upd H D (.lst ((xs.take i).map V.int)) y.dw = some (.dK kw):=zan hw hD
   have e3:=hx i _ (List.getElem?_eq_getElem hi2)
   simp! [tTrue,zaT,T.cl_Yard,T.n_words,e1,e2,zbm,vw,e3,Option.map_some,zbb]
   rw [List.take_succ,List.getElem?_eq_getElem hi2,List.map_append]; rfl
  ·rintro D hD ys H2 ⟨rfl,rfl⟩
   have et:xs.take (z + n - z).toNat = xs:=by rw [List.take_of_length_le]; omega
   rw [et]
   refine ⟨_,rfl,_,.inl ⟨.of zad,fun l hl=>?_⟩⟩
   have nl:H l = none:=by rw [zag (zah zad hl).symm] at hl; exact hl
   exact q l _ ((Same.laid hD).step hl) nl zad
noncomputable def zg8 (C:Addr):Sp:=fun vs H Q _=>∃ (y:Yd) (z f:Int) (W:Int->Option Int) (S:List (Int × Int × Int)) (xs ns:List Int),vs = [.ref y.p,.int z]∧YardAt C H y W S f∧(z,(xs.length:Int),(ns.length:Int)) ∈ S∧xs.length ≤ 9∧ns.length ≤ 9∧z.natAbs.log2 < 1920 ∧
 (∀ (i:Nat) (x:Int),(xs ++ ns)[i]? = some x->W (z + 1 + i) = some x)∧(∀ t ∈ S,t.1 = z->t = (z,(xs.length:Int),(ns.length:Int)))∧∀ q H',Same H H'->H q = none->H' q = some (.tup (xs.map V.int))->Q (.ref q) H'
theorem zbn (T:Txt K mg a):FnOk P w K mg base (CX1 P w) 2 a.f_Yard_holds_of a.d_Yard_holds_of ["self","at"] (zg8 a.c_Yard):=by
 refine T.F_Yard_holds_of.okC sc_Yard_holds_of (fun vs H Q E h=>?_) (fun cdv A outer s H vs Q E hr h=>?_)
 ·obtain ⟨y,z,f,W,S,xs,ns,rfl,_⟩:=h
  rfl
 ·obtain ⟨y,z,f,W,S,xs,ns,rfl,hy,hz,l1,l2,lz,hx,inj,q⟩:=h
  have hu:=zaX hr
  have hp:=hy.ins
  refine ⟨_,(zac (zau (i:=2) sc_Yard_holds_of.nd (by rfl) (Or.inl rfl) (zaH (pv 0) T.cl_Yard T.M_Yard_size_of (zaK T) (hr.mono (by decide)) T.b_Yard_size_of .nil zao (zaa (pv 1) pa_nil)))
   (zaf (zaq (zaH (pv 0) T.cl_Yard T.M_Yard_words_from (za8 T) (hr.mono (by decide)) T.b_Yard_words_from .nil zao (zaa (zat op_add (pv 1) zab) (zaa (zax ix_F (pv 2) zab (fun _ _=>rfl)) pa_nil)))))),?_⟩
  simp! [hp,zaI]
  refine ⟨y,z,f,W,S,rfl,hy,lz,fun h m t ht e=>?_,fun h=>absurd rfl (h _ hz)⟩
  have et:=inj _ ht rfl
  simp only [Prod.mk.injEq] at et
  obtain ⟨_,rfl,rfl⟩:=et
  simp! [hp,zaI,e]
  refine ⟨y,z + 1,xs.length,f,W,S,xs,rfl,hy,rfl,by omega,fun i x hi=>hx i x ?_,q⟩
  have hl:=(List.getElem?_eq_some_iff.mp hi).1
  rw [List.getElem?_append_left hl]; exact hi
noncomputable def zic (C:Addr):Sp:=fun vs H Q _=>∃ (y:Yd) (z f:Int) (W:Int->Option Int) (S:List (Int × Int × Int)) (xs ns:List Int),vs = [.ref y.p,.int z]∧YardAt C H y W S f∧(z,(xs.length:Int),(ns.length:Int)) ∈ S∧xs.length ≤ 9∧ns.length ≤ 9∧z.natAbs.log2 < 1920 ∧
 (∀ (i:Nat) (x:Int),(xs ++ ns)[i]? = some x->W (z + 1 + i) = some x)∧(∀ t ∈ S,t.1 = z->t = (z,(xs.length:Int),(ns.length:Int)))∧∀ q H',Same H H'->H q = none->H' q = some (.tup (ns.map V.int))->Q (.ref q) H'
theorem zbQ (T:Txt K mg a):FnOk P w K mg base (CX1 P w) 2 a.f_Yard_numbers_of a.d_Yard_numbers_of ["self","at"] (zic a.c_Yard):=by
 refine T.F_Yard_numbers_of.okC sc_Yard_numbers_of (fun vs H Q E h=>?_) (fun cdv A outer s H vs Q E hr h=>?_)
 ·obtain ⟨y,z,f,W,S,xs,ns,rfl,_⟩:=h
  rfl
 ·obtain ⟨y,z,f,W,S,xs,ns,rfl,hy,hz,l1,l2,lz,hx,inj,q⟩:=h
  have hu:=zaX hr
  have hp:=hy.ins
  refine ⟨_,(zac (zau (i:=2) sc_Yard_numbers_of.nd (by rfl) (Or.inl rfl) (zaH (pv 0) T.cl_Yard T.M_Yard_size_of (zaK T) (hr.mono (by decide)) T.b_Yard_size_of .nil zao (zaa (pv 1) pa_nil)))
   (zaf (zaq (zaH (pv 0) T.cl_Yard T.M_Yard_words_from (za8 T) (hr.mono (by decide)) T.b_Yard_words_from .nil zao (zaa (zat op_add (zat op_add (pv 1) zab) (zax ix_F (pv 2) zab (fun _ _=>rfl))) (zaa (zax ix_F (pv 2) zab (fun _ _=>rfl)) pa_nil)))))),?_⟩
  simp! [hp,zaI]
  refine ⟨y,z,f,W,S,rfl,hy,lz,fun h m t ht e=>?_,fun h=>absurd rfl (h _ hz)⟩
  have et:=inj _ ht rfl
  simp only [Prod.mk.injEq] at et
  obtain ⟨_,rfl,rfl⟩:=et
  simp! [hp,zaI,e]
  refine ⟨y,z + 1 + xs.length,ns.length,f,W,S,ns,rfl,hy,rfl,by omega,fun i x hi=>?_,q⟩
  have:=hx (xs.length + i) x (by rw [List.getElem?_append_right (by omega),Nat.add_sub_cancel_left]; exact hi)
  rw [← this]; congr 1; omega
end
section
variable {P:Program} {w:World} {K:PySem.W.Frag} {mg:Str->Option Value} {base:Heap} {a:Ad}
theorem zcR {s f:Int} {ts:List Th} {t:Th} (L:Lay s ts f) (ht:t ∈ ts):∀ u ∈ ts.map thTri,u.1 = t.1->u = (t.1,(t.2.1.length:Int),(t.2.2.length:Int)):=fun u hu e=>by
 obtain ⟨t',ht',rfl⟩:=List.mem_map.mp hu
 have:=L.inj ht' ht e
 subst this
 rfl
theorem zbz {s f:Int} {ts:List Th} {t:Th} (L:Lay s ts f) (ht:t ∈ ts):∀ (i:Nat) (x:Int),(t.2.1 ++ t.2.2)[i]? = some x->zav ts (t.1 + 1 + i) = some x:=fun i x hx=>by
 have hl:=(List.getElem?_eq_some_iff.mp hx).1
 rw [List.length_append] at hl
 rw [L.word ht (by omega) (by unfold thSz; omega)]
 unfold zay thW
 rw [if_neg (by omega),show (t.1 + 1 + (i:Int) - t.1).toNat = i + 1 by omega,List.getElem?_cons_succ]
 exact hx
noncomputable def zal (ts:List Th):Int->List Int->List (Int × Int)
 | _,[]=>[]
 | f,z :: r=>(z,f) :: zal ts (f + thSz (thAt ts z)) r
noncomputable def zaQ (ts:List Th):Int->List Int->Int
 | f,[]=>f
 | f,z :: r=>zaQ ts (f + thSz (thAt ts z)) r
theorem zbE {ts:List Th} {z:Int}:∀ {ord:List Int} {f:Int},zal ts f (ord ++ [z]) = zal ts f ord ++ [(z,zaQ ts f ord)]
 | [],f=>rfl
 | y :: r,f=>by
  show (y,f) :: zal ts _ (r ++ [z]) = _
  rw [zbE]; rfl
theorem zdd {ts:List Th} {z:Int}:∀ {ord:List Int} {f:Int},zaQ ts f (ord ++ [z]) = zaQ ts f ord + thSz (thAt ts z)
 | [],f=>rfl
 | y :: r,f=>by
  show zaQ ts _ (r ++ [z]) = _
  rw [zdd]; rfl
theorem zaz {ts:List Th}:∀ {ord:List Int} {f:Int},(zal ts f ord).map (·.1) = ord
 | [],_=>rfl
 | z :: r,f=>by
  show z :: (zal ts _ r).map (·.1) = _
  rw [zaz]
theorem zaC {ts:List Th} {ord:List Int} {f:Int}:(zal ts f ord).length = ord.length:=by
 have:=congrArg List.length (zaz (ts:=ts) (ord:=ord) (f:=f))
 rw [List.length_map] at this
 exact this
noncomputable def zbd (ts:List Th) (p:Int × Int):Th:=(p.2,List.replicate (thAt ts p.1).2.1.length 0,List.replicate (thAt ts p.1).2.2.length 0)
theorem zdz {ts:List Th} {p:Int × Int}:thSz (zbd ts p) = thSz (thAt ts p.1):=by unfold zbd thSz; simp
noncomputable def zbv (ts:List Th) (f:Int) (ord:List Int):List Th:=(zal ts f ord).map (zbd ts)
theorem zbi {ts:List Th}:∀ {ord:List Int} {f:Int},Lay f (zbv ts f ord) (zaQ ts f ord)
 | [],f=>rfl
 | z :: r,f=>⟨rfl,by
  have:=zbi (ts:=ts) (ord:=r) (f:=f + thSz (thAt ts z))
  rw [zdz]
  exact this⟩
noncomputable def plK (ps:List (Int × Int)):List (Key × V):=(Sum.inl 0,V.int 0) :: ps.map fun p=>(Sum.inl p.1,V.int p.2)
theorem zdq {ps:List (Int × Int)} {z:Int}:valV (plK ps) (.inl z) = if z = 0 then some (.int 0) else (ps.lookup z).map V.int:=by
 unfold plK
 by_cases c:z = 0
 ·rw [if_pos c,zaO (by rw [c])]
 ·rw [if_neg c,zaP (fun e=>c (by injection e with e; exact e.symm))]
  induction ps with
  | nil=>rfl
  | cons p r ih =>
   rw [List.map_cons,List.lookup_cons]
   by_cases d:z = p.1
   ·have b:(z == p.1) = true:=by simpa using d
    rw [zaO (by rw [d]),b]; rfl
   ·have b:(z == p.1) = false:=by simpa using d
    rw [zaP (fun e=>d (by injection e with e; exact e.symm)),b]
    exact ih
theorem zbL {ps:List (Int × Int)} {z:Int}:ps.lookup z = none ↔ z ∉ ps.map (·.1):=by
 induction ps with
 | nil=>simp
 | cons p r ih =>
  rw [List.lookup_cons,List.map_cons,List.mem_cons,not_or]
  by_cases d:z = p.1
  ·have b:(z == p.1) = true:=by simpa using d
   rw [b]
   simp [d]
  ·have b:(z == p.1) = false:=by simpa using d
   rw [b]
   show r.lookup z = none ↔ _
   rw [ih]
   simp [d]
theorem zbR {ts:List Th} {f:Int} {ord:List Int} {z:Int}:(valV (plK (zal ts f ord)) (.inl z)).isSome = true ↔ z = 0 ∨ z ∈ ord:=by
 rw [zdq]
 by_cases c:z = 0
 ·rw [if_pos c]; simp [c]
 ·rw [if_neg c,Option.isSome_map]
  cases e:(zal ts f ord).lookup z with
  | none =>
   have:=zbL.mp e
   rw [zaz] at this
   simp [c,this]
  | some x =>
   have h:¬ (zal ts f ord).lookup z = none:=by rw [e]; simp
   have:z ∈ ord:=by
    by_cases m:z ∈ ord
    ·exact m
    ·exact absurd (zbL.mpr (by rw [zaz]; exact m)) h
   simp [this]
theorem zex {ps:List (Int × Int)} {z a:Int} (n:valV (plK ps) (.inl z) = none):putK (plK ps) (.inl z) (.int a) = plK (ps ++ [(z,a)]):=by
 have hn:¬ ((plK ps).any fun kv=>decide (kv.1 = Sum.inl z)) = true:=fun y=>by
  obtain ⟨kv,m,e⟩:=List.any_eq_true.mp y
  unfold valV at n
  rw [Option.map_eq_none_iff,List.find?_eq_none] at n
  exact n kv m e
 unfold putK
 rw [if_neg hn]
 unfold plK
 rw [List.map_append]
 rfl
theorem zf9 {ps:List (Int × Int)}:(plK ps).length = ps.length + 1:=by unfold plK; rw [List.length_cons,List.length_map]
structure PrAt (H:Hp) (l:Addr) (as:List Addr) (ps:List (Int × Int)):Prop where
 top:H l = some (.lst (as.map V.ref))
 len:as.length = ps.length
 row:∀ (i:Nat) (p:Addr) (x:Int × Int),as[i]? = some p->ps[i]? = some x->H p = some (.tup [.int x.1,.int x.2])
theorem PrAt.fr {H H':Hp} {M:Addr->Prop} {l:Addr} {as:List Addr} {ps:List (Int × Int)} (x:PrAt H l as ps) (f:Fr M H H') (n:¬ M l):PrAt H' l as ps:=⟨f.keep _ _ x.top n,x.len,fun i p y h1 h2=>f.tups _ _ (x.row i p y h1 h2)⟩
theorem PrAt.snoc {H H':Hp} {M:Addr->Prop} {l p:Addr} {as:List Addr} {ps:List (Int × Int)} {x:Int × Int} (f:Fr M H H') (h:∀ (i:Nat) (p:Addr) (x:Int × Int),as[i]? = some p->ps[i]? = some x->H p = some (.tup [.int x.1,.int x.2])) (len:as.length = ps.length)
  (top:H' l = some (.lst (as.map V.ref ++ [.ref p]))) (hp:H' p = some (.tup [.int x.1,.int x.2])):PrAt H' l (as ++ [p]) (ps ++ [x]):=⟨by rw [top,List.map_append]; rfl,by rw [List.length_append,List.length_append,len]; rfl,fun i q y h1 h2=>by
 by_cases d:i < ps.length
 ·rw [List.getElem?_append_left d] at h2
  rw [List.getElem?_append_left (by rw [len]; exact d)] at h1
  exact f.tups _ _ (h i q y h1 h2)
 ·have e:i = ps.length:=by
   have:=(List.getElem?_eq_some_iff.mp h2).1
   rw [List.length_append,List.length_singleton] at this
   omega
  rw [e] at h1 h2
  rw [List.getElem?_append_right (Nat.le_refl _),Nat.sub_self] at h2
  rw [← len,List.getElem?_append_right (Nat.le_refl _),Nat.sub_self] at h1
  cases h1
  cases h2
  exact hp⟩
theorem zbT {ts:List Th} {s f:Int} (L:Lay s ts f) {t:Th} (h:t ∈ ts):thAt ts t.1 = t:=by
 unfold thAt
 cases e:ts.find? fun u=>u.1 == t.1 with
 | none =>
  have:=List.find?_eq_none.mp e t h
  simp at this
 | some u =>
  have hu:=List.mem_of_find?_eq_some e
  have eu:=List.find?_some e
  exact L.inj hu h (by simpa using eu)
end
section
variable {P:Program} {w:World} {K:PySem.W.Frag} {mg:Str->Option Value} {base:Heap} {a:Ad}
structure Crt (C:Addr) (H:Hp) (y yf:Yd) (pd pl:Addr) (ts:List Th) (s f f0:Int) (ord:List Int) (prs:List Addr):Prop where
 old:YardAt C H y (zav ts) (ts.map thTri) f
 lay:Lay s ts f
 new:YardAt C H yf (zav (zbv ts f0 ord)) ((zbv ts f0 ord).map thTri) (zaQ ts f0 ord)
 places:H pd = some (.dK (plK (zal ts f0 ord)))
 pairs:PrAt H pl prs (zal ts f0 ord)
 nd:ord.Nodup
 th:∀ z ∈ ord,∃ t ∈ ts,t.1 = z
noncomputable def CM (yf:Yd) (pd pl:Addr):Addr->Prop:=fun q=>YM yf q ∨ q = pd ∨ q = pl
structure CrtN (y yf:Yd) (pd pl:Addr):Prop where
 p:¬ CM yf pd pl y.p
 w:¬ CM yf pd pl y.dw
 s:¬ CM yf pd pl y.ds
 d1:pd ≠ yf.dw
 d2:pd ≠ yf.ds
structure ThOk (ts:List Th):Prop where
 len:ts.length ≤ 900
 small:∀ t ∈ ts,t.2.1.length ≤ 9∧t.2.2.length ≤ 9
 log:∀ t ∈ ts,t.1.natAbs.log2 < 1920
theorem nodup_sub:∀ {a b:List Int},a.Nodup->(∀ x ∈ a,x ∈ b)->a.length ≤ b.length
 | [],_,_,_=>Nat.zero_le _
 | x :: r,b,n,h=>by
  obtain ⟨nx,nr⟩:=List.nodup_cons.mp n
  have hx:=h x List.mem_cons_self
  have:=nodup_sub (b:=b.erase x) nr fun y hy=>(List.mem_erase_of_ne (show y ≠ x from fun e=>nx (by rw [← e]; exact hy))).mpr (h y (List.mem_cons_of_mem _ hy))
  rw [List.length_erase_of_mem hx] at this
  have:=List.length_pos_of_mem hx
  rw [List.length_cons]; omega
theorem zbt {ord:List Int} {ts:List Th} (n:ord.Nodup) (h:∀ z ∈ ord,∃ t ∈ ts,t.1 = z):ord.length ≤ ts.length:=by
 have:=nodup_sub (b:=ts.map (·.1)) n fun z hz=>by obtain ⟨t,ht,e⟩:=h z hz; exact List.mem_map.mpr ⟨t,ht,e⟩
 rw [List.length_map] at this
 exact this
noncomputable def zid (K:PySem.W.Frag) (C:Addr):Sp:=fun vs H Q _=>∃ (y yf:Yd) (hr pd pl:Addr) (ts:List Th) (s f f0:Int) (ord hs:List Int) (prs:List Addr),vs = [.ref y.p,.ref yf.p,.ref hr,.ref pd,.ref pl]∧Crt C H y yf pd pl ts s f f0 ord prs∧CrtN y yf pd pl∧ThOk ts ∧
 ((H hr = some (.lst (hs.map V.int))∧¬ CM yf pd pl hr) ∨ H hr = some (.tup (hs.map V.int)))∧(∀ h ∈ hs,h = 0 ∨ ∃ t ∈ ts,t.1 = h)∧hs.length ≤ 1000 ∧
 ∀ (H':Hp) (prs':List Addr),Crt C H' y yf pd pl ts s f f0 (layO ord hs) prs'->Fr (CM yf pd pl) H H'->Q .non H'
set_option maxHeartbeats 1000000 in
theorem zcA (T:Txt K mg a):FnOk P w K mg base (CX1 P w) 3 a.f_lay_held a.d_lay_held ["yard","fresh","holds","places","pairs"] (zid K a.c_Yard):=by
 refine T.F_lay_held.okC sc_lay_held (fun vs H Q E h=>?_) (fun cdv A outer s H vs Q E hr h=>?_)
 ·obtain ⟨y,yf,hr,pd,pl,ts,s,f,f0,ord,hs,prs,rfl,_⟩:=h
  rfl
 ·obtain ⟨y,yf,hl,pd,pl,ts,s,f,f0,ord,hs,prs,rfl,c,n,ok,hh,good,lh,q⟩:=h
  have hu:=zaX hr
  refine ⟨_,(zaf (za6 PassesOwn.never (by rfl) (zjk (pv 2)) (zas (i:=5) sc_lay_held.nd (by rfl) (Or.inl rfl))
   (zaf (zaS (zcE (zbh hu (pv 5) (pv 3))) (zac (zau (i:=6) sc_lay_held.nd (by rfl) (Or.inl rfl) (zaH (pv 0) T.cl_Yard T.M_Yard_size_of (zaK T) (hr.mono (by decide)) T.b_Yard_size_of .nil zao (zaa (pv 5) pa_nil)))
   (zac (za4 hu (pv 3) (pv 5) (zaH (pv 1) T.cl_Yard T.M_Yard_make (zck T) (hr.mono (by decide)) T.b_Yard_make .nil zao (zaa (zax ix_F (pv 6) zab (fun _ _=>rfl)) (zaa (zax ix_F (pv 6) zab (fun _ _=>rfl)) pa_nil))) (by rfl))
   (zaf (za2 (zgj PySem.F.plainAttrs_list PySem.F.slot_list_append PySem.F.type_list_append mt_append (pv 4) (zaa (zcW (zaa (pv 5) (zaa (zaJ hu (pv 3) (pv 5) (fun _ _=>rfl)) pa_nil))) pa_nil)))))) pss_nil)))),?_⟩
  simp! []
  refine forQ (H1:=H) hl (hs.map V.int) (fun Q2 h2=>by simp! []; exact h2) (fun i σ H2=>∃ (prs2:List Addr) (v5 v6:Option V),σ = [some (.ref y.p),some (.ref yf.p),some (.ref hl),some (.ref pd),some (.ref pl),v5,v6]∧Crt a.c_Yard H2 y yf pd pl ts s f f0 (layO ord (hs.take i)) prs2∧Fr (CM yf pd pl) H H2)
   ⟨prs,_,_,rfl,c,.refl⟩ ?_ ?_ ?_
  ·rcases hh with ⟨e,nm⟩ | e
   ·exact .inl fun i σ H2 _ ⟨_,_,_,_,_,F⟩=>.of (F.keep _ _ e nm)
   ·exact .inr fun i σ H2 _ ⟨_,_,_,_,_,F⟩=>.of (F.tups _ _ e)
  ·rintro i x σ H2 hx ⟨prs2,v5,v6,rfl,c2,F2⟩
   obtain ⟨h,hi,rfl⟩:=zaG hx
   have et:layO ord (hs.take (i + 1)) = zb0 (layO ord (hs.take i)) h:=by rw [List.take_succ,hi]; exact zdX
   rw [et]
   have gh:=good h (List.mem_of_getElem? hi)
   revert c2
   generalize layO ord (hs.take i) = od
   intro c2
   have hpd:=c2.places
   simp! [hpd]
   by_cases there:h = 0 ∨ h ∈ od
   ·have e1:=(zbR (ts:=ts) (f:=f0) (ord:=od)).mpr there
    rw [if_neg (by rw [e1]; simp),show zb0 od h = od from if_pos there]
    exact ⟨prs2,c2,F2⟩
   ·have e1:(valV (plK (zal ts f0 od)) (Sum.inl h)).isSome = false:=by
     cases e:(valV (plK (zal ts f0 od)) (Sum.inl h)).isSome with
     | false=>rfl
     | true=>exact absurd (zbR.mp e) there
    have e2:valV (plK (zal ts f0 od)) (Sum.inl h) = none:=by
     cases e:valV (plK (zal ts f0 od)) (Sum.inl h) with
     | none=>rfl
     | some z=>rw [e] at e1; cases e1
    rw [if_pos e1,show zb0 od h = od ++ [h] from if_neg there]
    obtain ⟨t,mt,rfl⟩:∃ t ∈ ts,t.1 = h:=by
     rcases gh with z | z
     ·exact absurd (.inl z) there
     ·exact z
    have eth:=zbT c2.lay mt
    have o1:=c2.old.ins
    refine ⟨y.dx,_,o1,zaI.2.2.1,y,t.1,f,_,_,rfl,c2.old,ok.log t mt,fun hh mm q' hq hqt=>?_,fun hn=>absurd rfl (hn _ (List.mem_map.mpr ⟨t,mt,rfl⟩))⟩
    obtain ⟨rfl,rfl⟩:hh = t.2.1.length∧mm = t.2.2.length:=by
     obtain ⟨u,hu',e⟩:=List.mem_map.mp hq
     have eu:u.1 = t.1:=congrArg (·.1) e
     have:=c2.lay.inj hu' mt eu
     subst this
     cases e
     exact ⟨rfl,rfl⟩
    have n1:=c2.new.ins
    obtain ⟨s1,s2⟩:=ok.small t mt
    have lo:=zbt c2.nd c2.th
    have lz:((zbv ts f0 od).map thTri).length = od.length:=by unfold zbv; rw [List.length_map,List.length_map,zaC]
    simp! [n1,zaI,hqt]
    refine ⟨yf,_,_,_,_,_,rfl,by omega,by omega,by omega,by omega,c2.new,?_,by rw [lz]; have:=ok.len; omega,fun H3 Y3 F3=>?_⟩
    ·intro u hu'
     obtain ⟨v,hv,rfl⟩:=List.mem_map.mp hu'
     have:=zbi.mem hv
     have:=zaW v
     show v.1 ≠ _
     omega
    have npd:¬ YM yf pd:=fun m=>by
     rcases m with z | z | z
     ·rw [z,n1] at hpd; cases hpd
     ·exact n.d1 z
     ·exact n.d2 z
    have npl:¬ YM yf pl:=fun m=>by
     have hpl:=c2.pairs.top
     obtain ⟨kw,hw,_⟩:=c2.new.words
     obtain ⟨ks,hs',_⟩:=c2.new.sizes
     rcases m with z | z | z
     ·rw [z,n1] at hpl; cases hpl
     ·rw [z,hw] at hpl; cases hpl
     ·rw [z,hs'] at hpl; cases hpl
    have pd3:=F3.keep _ _ hpd npd
    refine ⟨_,pd3,by rw [zf9,zaC]; have:=ok.len; omega,?_⟩
    rw [zex e2]
    have F4:Fr (· = pd) H3 (upd H3 pd (.dK (plK (zal ts f0 od ++ [(t.1,zaQ ts f0 od)])))):=.put rfl (zbg pd3)
    have hpd4:upd H3 pd (.dK (plK (zal ts f0 od ++ [(t.1,zaQ ts f0 od)]))) pd = some (.dK (plK (zal ts f0 od ++ [(t.1,zaQ ts f0 od)]))):=zad
    have pr3:=c2.pairs.fr F3 npl
    have npp:pl ≠ pd:=fun e=>by
     have:=c2.pairs.top
     rw [e,hpd] at this; cases this
    have pr4:=pr3.fr F4 npp
    have Y4:=Y3.fr F4 (fun e=>npd (.inl e.symm)) (fun e=>npd (.inr (.inl e.symm))) (fun e=>npd (.inr (.inr e.symm)))
    have F24:Fr (CM yf pd pl) H2 (upd H3 pd (.dK (plK (zal ts f0 od ++ [(t.1,zaQ ts f0 od)])))):=(F3.mono fun q m=>.inl m).trans (F4.mono fun q m=>.inr (.inl m))
    revert F4 hpd4 pr4 Y4 F24
    generalize upd H3 pd (.dK (plK (zal ts f0 od ++ [(t.1,zaQ ts f0 od)]))) = H4
    intro F4 hpd4 pr4 Y4 F24
    have top4:=pr4.top
    have val:valV (plK (zal ts f0 od ++ [(t.1,zaQ ts f0 od)])) (Sum.inl t.1) = some (.int (zaQ ts f0 od)):=by
     rw [← zex e2,zaV,if_pos rfl]
    simp! [tBM,hpd4,val]
    refine ⟨.inl ⟨rfl,_,.of top4⟩,fun tp htp=>?_⟩
    have top5:=zan (u:=.tup [.int t.1,.int (zaQ ts f0 od)]) top4 htp
    have F5:Fr (· = pl) (upd H4 tp (.tup [.int t.1,.int (zaQ ts f0 od)])) (upd (upd H4 tp (.tup [.int t.1,.int (zaQ ts f0 od)])) pl (.lst (prs2.map V.ref ++ [.ref tp]))):=.put rfl (zcb top5)
    have F45:Fr (· = pl) H4 (upd (upd H4 tp (.tup [.int t.1,.int (zaQ ts f0 od)])) pl (.lst (prs2.map V.ref ++ [.ref tp]))):=(Fr.laid htp).trans F5
    have FA:=F24.trans (F45.mono fun q m=>(.inr (.inr m):CM yf pd pl q))
    refine ⟨pl,_,_,rfl,rfl,top5,by rw [sizeLine_eq,List.length_map,pr4.len,zaC]; have:=ok.len; omega,prs2 ++ [tp],⟨?_,c2.lay,?_,?_,?_,?_,?_⟩,F2.trans FA⟩
    ·exact c2.old.fr FA n.p n.w n.s
    ·have Y5:=Y4.fr F45 (fun e=>npl (.inl e.symm)) (fun e=>npl (.inr (.inl e.symm))) (fun e=>npl (.inr (.inr e.symm)))
     have ez:zbv ts f0 (od ++ [t.1]) = zbv ts f0 od ++ [(zaQ ts f0 od,List.replicate t.2.1.length 0,List.replicate t.2.2.length 0)]:=by
      unfold zbv
      rw [zbE,List.map_append]
      show _ ++ [zbd ts (t.1,zaQ ts f0 od)] = _
      unfold zbd
      rw [eth]
     have eW:zgD (zav (zbv ts f0 od)) (zaQ ts f0 od) t.2.1.length t.2.2.length = zav (zbv ts f0 (od ++ [t.1])):=by
      rw [ez]
      exact funext fun u=>(zbi.newWord (h:=t.2.1.length) (m:=t.2.2.length) u).symm
     have eT:(zbv ts f0 od).map thTri ++ [(zaQ ts f0 od,(t.2.1.length:Int),(t.2.2.length:Int))] = (zbv ts f0 (od ++ [t.1])).map thTri:=by
      rw [ez,List.map_append]
      simp [thTri]
     have eE:zaQ ts f0 od + 1 + t.2.1.length + t.2.2.length = zaQ ts f0 (od ++ [t.1]):=by
      rw [zdd,eth]; unfold thSz; omega
     rw [eW,eT,eE] at Y5
     exact Y5
    ·rw [zbE]
     exact F45.keep _ _ hpd4 npp.symm
    ·rw [zbE]
     exact PrAt.snoc F45 pr4.row pr4.len zad (F5.tups _ _ zad)
    ·rw [List.nodup_append]
     refine ⟨c2.nd,by simp,fun x hx y hy e=>?_⟩
     rw [List.mem_singleton.mp hy] at e
     exact there (.inr (e ▸ hx))
    ·intro z hz
     rcases List.mem_append.mp hz with m | m
     ·exact c2.th z m
     ·exact ⟨t,mt,(List.mem_singleton.mp m).symm⟩
  ·rintro σ H2 ⟨prs2,v5,v6,rfl,c2,F2⟩
   rw [List.length_map,List.take_length] at c2
   exact q H2 prs2 c2 F2
end
section
variable {P:Program} {w:World} {K:PySem.W.Frag} {mg:Str->Option Value} {base:Heap} {a:Ad}
noncomputable def zcC (W:Int->Option Int) (first:Int) (ws:List Int):Int->Option Int:=fun z=>if first ≤ z∧z < first + ws.length then ws[(z - first).toNat]? else W z
theorem zgB {W:Int->Option Int} {first:Int}:zcC W first [] = W:=by
 funext z
 unfold zcC
 rw [if_neg (fun h=>by simp at h; omega)]
theorem zfs {W:Int->Option Int} {first v:Int} {ws:List Int}:(fun z=>if z = first + ws.length then some v else zcC W first ws z) = zcC W first (ws ++ [v]):=by
 funext z
 unfold zcC
 rw [List.length_append,List.length_singleton]
 by_cases c:z = first + ws.length
 ·rw [if_pos c,if_pos (by omega),show (z - first).toNat = ws.length by omega,List.getElem?_append_right (Nat.le_refl _),Nat.sub_self]
  rfl
 ·rw [if_neg c]
  by_cases d:first ≤ z∧z < first + ws.length
  ·rw [if_pos d,if_pos (by omega),List.getElem?_append_left (by omega)]
  ·rw [if_neg d,if_neg (by omega)]
noncomputable def zgs (C:Addr):Sp:=fun vs H Q _=>∃ (y:Yd) (wl:Addr) (first f:Int) (ws:List Int) (W:Int->Option Int) (S:List (Int × Int × Int)),vs = [.ref y.p,.int first,.ref wl]∧YardAt C H y W S f∧H wl = some (.lst (ws.map V.int))∧S.length ≤ 1000∧ws.length ≤ 1000 ∧
 (∀ z,first ≤ z->z < first + ws.length->(∃ x,W z = some x)∧(∀ t ∈ S,t.1 ≠ z)∧z.natAbs.log2 < 1920) ∧
 ∀ H',YardAt C H' y (zcC W first ws) S f->Fr (· = y.dw) H H'->Q .non H'
theorem zd0 (T:Txt K mg a):FnOk P w K mg base (CX1 P w) 2 a.f_lay_words a.d_lay_words ["fresh","first","words"] (zgs a.c_Yard):=by
 refine T.F_lay_words.okC sc_lay_words (fun vs H Q E h=>?_) (fun cdv A outer s H vs Q E hr h=>?_)
 ·obtain ⟨y,wl,first,f,ws,W,S,rfl,_⟩:=h
  rfl
 ·obtain ⟨y,wl,first,f,ws,W,S,rfl,hy,hw,lS,lw,ok,q⟩:=h
  have hu:=zaX hr
  refine ⟨_,(zaf (za6 PassesOwn.never (by rfl) (zh0 (by rfl) T.z_enumerate (zaa (pv 2) pa_nil)) (zc4 (n:=2) (by rfl) (zaN (zas (i:=3) sc_lay_words.nd (by rfl) (Or.inl rfl)) (zaN (zas (i:=4) sc_lay_words.nd (by rfl) (Or.inl rfl)) pgs_nil)))
   (zaf (za2 (zaH (pv 0) T.cl_Yard T.M_Yard_set_word (zbp T) (hr.mono (by decide)) T.b_Yard_set_word .nil zao (zaa (zat op_add (pv 1) (pv 3)) (zaa (pv 4) pa_nil))))))),?_⟩
  have nw:wl ≠ y.dw:=fun e=>by
   obtain ⟨kw,h,_⟩:=hy.words
   rw [e,h] at hw; cases hw
  simp! []
  refine forE (H1:=H) wl _ (fun Q2 h2=>by simp! []; exact h2) (fun i σ H2=>∃ v3 v4,σ = [some (.ref y.p),some (.int first),some (.ref wl),v3,v4]∧YardAt a.c_Yard H2 y (zcC W first (ws.take i)) S f∧Fr (· = y.dw) H H2)
   ⟨_,_,rfl,by rw [List.take_zero,zgB]; exact hy,.refl⟩ (fun i σ H2 _ ⟨_,_,_,_,F⟩=>.of (F.keep _ _ hw nw)) ?_ ?_
  ·rintro i x p σ H2 hx ⟨v3,v4,rfl,Y,F⟩ hp
   obtain ⟨v,hi,rfl⟩:=zaG hx
   have il:=(List.getElem?_eq_some_iff.mp hi).1
   refine zcc zad rfl ?_
   have Y2:=Y.same (.laid (u:=.tup [.int i,.int v]) hp)
   have hp2:=Y2.ins
   obtain ⟨⟨x0,hx0⟩,nt,lg⟩:=ok (first + i) (by omega) (by omega)
   have lt:(ws.take i).length = i:=by rw [List.length_take]; omega
   simp! [hp2,zaI]
   refine ⟨y,first + i,v,f,_,_,rfl,Y2,lS,lg,fun x1 H3 _ _ Y3 F3=>?_,fun hn=>?_⟩
   ·have e:ws.take (i + 1) = ws.take i ++ [v]:=by rw [List.take_succ,hi]; rfl
    have Y4:YardAt a.c_Yard H3 y (zcC W first (ws.take (i + 1))) S f:=by
     rw [e,← zfs,lt]
     exact Y3
    exact ⟨Y4,(F.trans (.laid hp)).trans F3⟩
   ·exfalso
    rcases hn with hn | ⟨t,ht,et⟩
    ·unfold zcC at hn
     rw [if_neg (by rw [lt]; omega),hx0] at hn
     cases hn
    ·exact nt t ht et
  ·rintro σ H2 ⟨v3,v4,rfl,Y,F⟩
   rw [List.length_map,List.take_length] at Y
   exact q H2 Y F
noncomputable def mvOf (ps:List (Int × Int)) (h:Int):Int:=if h = 0 then 0 else (ps.lookup h).getD 0
noncomputable def za7 (ts:List Th) (ps:List (Int × Int)) (p:Int × Int):Th:=(p.2,(thAt ts p.1).2.1.map (mvOf ps),(thAt ts p.1).2.2)
theorem zf2 {ts:List Th} {ps:List (Int × Int)} {p:Int × Int}:thTri (za7 ts ps p) = thTri (zbd ts p):=by unfold za7 zbd thTri; simp
theorem zgT {ts:List Th} {ps:List (Int × Int)} {p:Int × Int}:thSz (za7 ts ps p) = thSz (thAt ts p.1):=by unfold za7 thSz; simp
noncomputable def mix (ts:List Th) (ps:List (Int × Int)) (i:Nat):List Th:=(ps.take i).map (za7 ts ps) ++ (ps.drop i).map (zbd ts)
noncomputable def zcm (ts:List Th) (f:Int) (ord:List Int):List Th:=(zal ts f ord).map (za7 ts (zal ts f ord))
theorem zeG {ts:List Th} {ps:List (Int × Int)}:mix ts ps ps.length = ps.map (za7 ts ps):=by unfold mix; rw [List.take_length,List.drop_length]; simp
theorem zgh {ts:List Th} {ps:List (Int × Int)} {i:Nat}:(mix ts ps i).map thTri = (ps.map (zbd ts)).map thTri:=by
 unfold mix
 rw [List.map_append,List.map_map,List.map_map,List.map_map]
 have e:(thTri ∘ za7 ts ps) = (thTri ∘ zbd ts):=funext fun p=>zf2
 rw [e,← List.map_append,List.take_append_drop]
theorem zhK {ts:List Th} {ps:List (Int × Int)} {i:Nat} {p:Int × Int} (h:ps[i]? = some p):(mix ts ps i)[i]? = some (zbd ts p):=by
 have il:=(List.getElem?_eq_some_iff.mp h).1
 have l:((ps.take i).map (za7 ts ps)).length = i:=by rw [List.length_map,List.length_take]; omega
 unfold mix
 rw [List.getElem?_append_right (by omega),l,Nat.sub_self,List.getElem?_map,List.getElem?_drop,Nat.add_zero,h]
 rfl
theorem zhp {ts:List Th} {ps:List (Int × Int)} {i:Nat} {p:Int × Int} (h:ps[i]? = some p):mix ts ps (i + 1) = (mix ts ps i).set i (za7 ts ps p):=by
 obtain ⟨il,e⟩:=List.getElem?_eq_some_iff.mp h
 have l:((ps.take i).map (za7 ts ps)).length = i:=by rw [List.length_map,List.length_take]; omega
 have d:ps.drop i = p :: ps.drop (i + 1):=by rw [List.drop_eq_getElem_cons il,e]
 unfold mix
 rw [List.set_append_right _ _ (by omega),l,Nat.sub_self,d,List.map_cons,List.set_cons_zero,List.take_succ,h,List.map_append,List.append_assoc]
 rfl
theorem Lay.of_tri:∀ {a b:List Th} {s f:Int},a.map thTri = b.map thTri->Lay s a f->Lay s b f
 | [],[],s,f,_,L=>L
 | [],_ :: _,_,_,e,_=>by cases e
 | _ :: _,[],_,_,e,_=>by cases e
 | x :: a,y :: b,s,f,e,⟨h1,h2⟩=>by
  rw [List.map_cons,List.map_cons] at e
  injection e with e1 e2
  have q1:x.1 = y.1:=congrArg (·.1) e1
  have q2:(x.2.1.length:Int) = y.2.1.length:=congrArg (·.2.1) e1
  have q3:(x.2.2.length:Int) = y.2.2.length:=congrArg (·.2.2) e1
  refine ⟨by omega,?_⟩
  have sz:thSz x = thSz y:=by unfold thSz; omega
  rw [← sz]
  exact Lay.of_tri e2 h2
theorem zeP {ts:List Th} {f:Int} {ord:List Int} {i:Nat}:Lay f (mix ts (zal ts f ord) i) (zaQ ts f ord):=Lay.of_tri (a:=zbv ts f ord) (by rw [zgh]; rfl) zbi
theorem zgC {ts:List Th} {f:Int} {ord:List Int} {i:Nat} {p:Int × Int} (h:(zal ts f ord)[i]? = some p) :
  zcC (zav (mix ts (zal ts f ord) i)) (p.2 + 1) ((thAt ts p.1).2.1.map (mvOf (zal ts f ord)) ++ (thAt ts p.1).2.2) = zav (mix ts (zal ts f ord) (i + 1)):=by
 have a0:=zhK (ts:=ts) h
 have a1:=zhp (ts:=ts) h
 have L1:=zeP (ts:=ts) (f:=f) (ord:=ord) (i:=i + 1)
 have il:=(List.getElem?_eq_some_iff.mp a0).1
 have m1:za7 ts (zal ts f ord) p ∈ mix ts (zal ts f ord) (i + 1):=by
  rw [a1]
  exact List.mem_of_getElem? (List.getElem?_set_self il)
 have s1:(za7 ts (zal ts f ord) p).1 = p.2:=rfl
 have s2:=zgT (ts:=ts) (ps:=zal ts f ord) (p:=p)
 have s3:thSz (thAt ts p.1) = 1 + (thAt ts p.1).2.1.length + (thAt ts p.1).2.2.length:=rfl
 funext z
 unfold zcC
 rw [List.length_append,List.length_map]
 by_cases c:p.2 + 1 ≤ z∧z < p.2 + 1 + ((thAt ts p.1).2.1.length + (thAt ts p.1).2.2.length:Nat)
 ·rw [if_pos c,L1.word m1 (by omega) (by omega)]
  unfold zay thW
  rw [if_neg (by omega),s1,show (z - p.2).toNat = (z - (p.2 + 1)).toNat + 1 by omega,List.getElem?_cons_succ]
  rfl
 ·rw [if_neg c,a1,wordAt_same a0]
  by_cases d:z = p.2
  ·have e1:zay (za7 ts (zal ts f ord) p) z = some (16 * ((za7 ts (zal ts f ord) p).2.1.length:Int) + (za7 ts (zal ts f ord) p).2.2.length):=by rw [d]; exact zbP
   have e2:zay (zbd ts p) z = some (16 * ((zbd ts p).2.1.length:Int) + (zbd ts p).2.2.length):=by rw [d]; exact zbP
   rw [e1,e2]
   unfold za7 zbd
   simp
  ·rw [zaF.mpr,zaF.mpr]
   ·show z < p.2 ∨ p.2 + thSz (zbd ts p) ≤ z
    rw [zdz]; omega
   ·show z < p.2 ∨ p.2 + thSz (za7 ts (zal ts f ord) p) ≤ z
    rw [s2]; omega
end
section
variable {P:Program} {w:World} {K:PySem.W.Frag} {mg:Str->Option Value} {base:Heap} {a:Ad}
structure CartOk (ts:List Th) (f:Int) (roots:List Int):Prop where
 rts:∀ h ∈ roots,h = 0 ∨ ∃ t ∈ ts,t.1 = h
 holds:∀ t ∈ ts,∀ h ∈ t.2.1,h = 0 ∨ ∃ u ∈ ts,u.1 = h
 nr:roots.length ≤ 1000
 f0:0 ≤ f
 f1:f ≤ 10 ^ 61
theorem zdl {ts:List Th} (sm:∀ t ∈ ts,t.2.1.length ≤ 9∧t.2.2.length ≤ 9):∀ {ord:List Int} {f:Int},zaQ ts f ord ≤ f + 19 * ord.length
 | [],f=>by show f ≤ _; simp
 | z :: r,f=>by
  have i:=zdl sm (ord:=r) (f:=f + thSz (thAt ts z))
  show zaQ ts (f + thSz (thAt ts z)) r ≤ _
  have:thSz (thAt ts z) ≤ 19:=by
   unfold thSz thAt
   cases e:ts.find? fun t=>t.1 == z with
   | none=>simp
   | some u =>
    have:=sm u (List.mem_of_find?_eq_some e)
    simp; omega
  rw [List.length_cons]
  omega
theorem zdg {z:Int} (h:z.natAbs < 2 ^ 1920):z.natAbs.log2 < 1920:=by
 by_cases c:z.natAbs = 0
 ·rw [c]; decide
 ·exact (Nat.log2_lt c).mpr h
theorem Crt.same {C:Addr} {H H':Hp} {y yf:Yd} {pd pl:Addr} {ts:List Th} {s f f0:Int} {ord:List Int} {prs:List Addr} (x:Crt C H y yf pd pl ts s f f0 ord prs) (S:Same H H'):Crt C H' y yf pd pl ts s f f0 ord prs :=
 ⟨x.old.same S,x.lay,x.new.same S,S _ _ x.places,x.pairs.fr (.of_same (M:=fun _=>False) S) (fun z=>z),x.nd,x.th⟩
theorem Going.list {ts:List Th} {roots:List Int}:∀ {hs done ord:List Int},Going ts roots done ord->done ++ hs <+: zaM ts roots ord->Going ts roots (done ++ hs) (layO ord hs)
 | [],done,ord,g,_=>by rw [List.append_nil]; exact g
 | h :: hs,done,ord,g,p=>by
  have e:done ++ h :: hs = (done ++ [h]) ++ hs:=by simp
  rw [e] at p ⊢
  have g1:=g.step ((List.prefix_append _ _).trans p)
  exact Going.list g1 (p.trans (zb6 zcG))
theorem zgV {C x dx dw ds:Addr} {H H':Hp} (hx:H x = none) (hdx:H dx = none) (nx:dx ≠ x) (n1:upd (upd H dx (.own x)) x (.ins C dx []) dw = none) (n2:upd (upd H dx (.own x)) x (.ins C dx []) ds = none)
  (f:Fr (· = x) (upd (upd H dx (.own x)) x (.ins C dx [])) H'):Same H H'∧H dw = none∧H ds = none:=by
 have g1:upd (upd H dx (.own x)) x (.ins C dx []) dx = some (.own x):=by rw [zag nx]; exact zad
 have g2:upd (upd H dx (.own x)) x (.ins C dx []) x = some (.ins C dx []):=zad
 have a1:dw ≠ x:=(zah g2 n1).symm
 have a2:dw ≠ dx:=(zah g1 n1).symm
 have a3:ds ≠ x:=(zah g2 n2).symm
 have a4:ds ≠ dx:=(zah g1 n2).symm
 rw [zag a1,zag a2] at n1
 rw [zag a3,zag a4] at n2
 exact ⟨fun q o e=>f.keep q o (by rw [zag (zah e hx),zag (zah e hdx)]; exact e) (zah e hx),n1,n2⟩
noncomputable def zfL (C:Addr):Sp:=fun vs H Q _=>∃ (y:Yd) (rl:Addr) (ts:List Th) (s f:Int) (roots:List Int),vs = [.ref y.p,.ref rl]∧YardAt C H y (zav ts) (ts.map thTri) f∧Lay s ts f∧ThOk ts∧H rl = some (.lst (roots.map V.int))∧CartOk ts f roots ∧
 ∀ (r:Addr) (yf:Yd) (pl:Addr) (prs:List Addr) (ord:List Int) (H':Hp),Cart ts roots ord->ord.Nodup->(∀ z ∈ ord,∃ t ∈ ts,t.1 = z)->H' r = some (.tup [.ref yf.p,.ref pl])->YardAt C H' yf (zav (zcm ts f ord)) ((zcm ts f ord).map thTri) (zaQ ts f ord)->PrAt H' pl prs (zal ts f ord)->Same H H' ->
  H yf.p = none->H yf.dw = none->H yf.ds = none->H pl = none->Q (.ref r) H'
set_option maxHeartbeats 2000000 in
theorem zgc (T:Txt K mg a):FnOk P w K mg base (CX1 P w) 4 a.f_carted a.d_carted ["yard","roots"] (zfL a.c_Yard):=by
 refine T.F_carted.okC sc_carted (fun vs H Q E h=>?_) (fun cdv A outer s H vs Q E hr h=>?_)
 ·obtain ⟨y,rl,ts,s,f,roots,rfl,_⟩:=h
  rfl
 ·obtain ⟨y,rl,ts,s,f,roots,rfl,hy,L,ok,hrl,co,q⟩:=h
  have hu:=zaX hr
  refine ⟨_,(zac (zau (i:=2) sc_carted.nd (by rfl) (Or.inl rfl) (zgq T.M_Yard (zbG T) (hr.mono (by decide)) (by rfl) T.m_Yard T.b_Yard___init .nil zao (zaa (za5 (pv 0) (by rfl)) pa_nil)))
   (zac (zau (i:=3) sc_carted.nd (by rfl) (Or.inr rfl) (zgp (zfg zab zab zgk) (by rfl) (by rfl) (List.cons_ne_nil _ _) (Nat.le_of_ble_eq_true (by rfl))))
   (zac (zau (i:=4) sc_carted.nd (by rfl) (Or.inl rfl) (zbu pa_nil))
   (zac (za2 (zai (zcA T) (hr.mono (by decide)) (by rfl) T.m_lay_held T.F_lay_held.kp T.b_lay_held .nil zao (zaa (pv 0) (zaa (pv 2) (zaa (pv 1) (zaa (pv 3) (zaa (pv 4) pa_nil)))))))
   (zac (zau (i:=5) sc_carted.nd (by rfl) (Or.inl rfl) zab)
   (zac (zgW PassesOwn.never (zar op_lt (pv 5) (zam call_lenF (by rfl) T.z_len (by decide +kernel) (zaa (pv 4) pa_nil)) (zaw _)) (zac (za2 (zai (zcA T) (hr.mono (by decide)) (by rfl) T.m_lay_held T.F_lay_held.kp T.b_lay_held .nil zao (zaa (pv 0) (zaa (pv 2) (zaa (zaH (pv 0) T.cl_Yard T.M_Yard_holds_of (zbn T) (hr.mono (by decide)) T.b_Yard_holds_of .nil zao (zaa (zax ix_F (zax ix_F (pv 4) (pv 5) (fun _ _=>rfl)) zab (fun _ _=>rfl)) pa_nil)) (zaa (pv 3) (zaa (pv 4) pa_nil)))))))
   (zaf (zjl (i:=5) sc_carted.nd (by rfl) (Or.inl rfl) zab ip_add))))
   (zac (za6 PassesOwn.never (by rfl) (zbc (pv 4)) (zc4 (n:=2) (by rfl) (zaN (zas (i:=6) sc_carted.nd (by rfl) (Or.inl rfl)) (zaN (zas (i:=7) sc_carted.nd (by rfl) (Or.inl rfl)) pgs_nil)))
   (zac (zhQ (i:=8) sc_carted.nd (by rfl) (Or.inl rfl) (N':=["hold","places"]) (cap:=[none,some 3]) ⟨rfl,(by decide +kernel),(by decide +kernel),(by rfl),rfl,(by rfl)⟩ (by rfl) (zi7 (zaH (pv 0) T.cl_Yard T.M_Yard_holds_of (zbn T) (hr.mono (by decide)) T.b_Yard_holds_of .nil zao (zaa (pv 6) pa_nil))) (fun C_ ex_ s_ H_=>(zas (i:=0) (show (["hold","places"]:List Str).Nodup by decide +kernel) (by rfl) (Or.inl rfl))) za3 (fun C_ ex_ s_ H_=>zby) (fun C_ ex_ s_ H_=>(zaJ (by exact hu) (pv 1) (pv 0) (fun _ _=>rfl))))
   (zaf (za2 (zai (zd0 T) (hr.mono (by decide)) (by rfl) T.m_lay_words T.F_lay_words.kp T.b_lay_words .nil zao (zaa (pv 2) (zaa (zat op_add (pv 7) zab) (zaa (zat op_cat (pv 8) (zaR call_list_of (by rfl) T.z_list (by decide +kernel) (zaa (zaH (pv 0) T.cl_Yard T.M_Yard_numbers_of (zbQ T) (hr.mono (by decide)) T.b_Yard_numbers_of .nil zao (zaa (pv 6) pa_nil)) pa_nil))) pa_nil))))))))
   (zaf (zaq (zcW (zaa (pv 2) (zaa (pv 4) pa_nil)))))))))))),?_⟩
  have hp:=hy.ins
  simp! [T.cl_Yard,T.n_free,T.n_words,T.n_sizes,hp,zcw,zcj]
  intro x dx hx hdx nx
  refine ⟨x,dx,f,rfl,zad,fun dw ds H1 hdw hds Y F=>⟨rfl,?_⟩⟩
  obtain ⟨S1,ndw,nds⟩:=zgV hx hdx nx hdw hds F
  clear F hdw hds
  intro pd npd
  refine ⟨zad,[(Sum.inl 0,V.int 0)],rfl,by simp,?_⟩
  rw [zbb]
  rw [show zcz [] [((Sum.inl 0:Key),V.int 0)] = plK (zal ts f []) from rfl]
  intro pl npl
  have S2:Same H1 (upd H1 pd (.dK (plK (zal ts f [])))):=.laid npd
  have S3:=S2.step npl (u:=.lst [])
  have hpd3:upd (upd H1 pd (.dK (plK (zal ts f [])))) pl (.lst []) pd = some (.dK (plK (zal ts f []))):=zan zad npl
  have hpl3:upd (upd H1 pd (.dK (plK (zal ts f [])))) pl (.lst []) pl = some (.lst []):=zad
  have npd0:H pd = none:=S1.free npd
  have npl0:H pl = none:=(S1.trans S2).free npl
  obtain ⟨kw,hkw,_⟩:=Y.words
  obtain ⟨ks,hks,_⟩:=Y.sizes
  have d1:pd ≠ dw:=(zah hkw npd).symm
  have d2:pd ≠ ds:=(zah hks npd).symm
  have S03:=S1.trans S3
  revert S03 hpd3 hpl3
  have Y3:=Y.same S3
  revert Y3
  generalize upd (upd H1 pd (.dK (plK (zal ts f [])))) pl (.lst []) = H3
  intro Y3 hpd3 hpl3 S03
  clear S3 S2 npd npl hkw hks Y S1
  generalize hyf:(⟨x,dx,dw,ds⟩:Yd) = yf at Y3
  have e1:yf.p = x:=by rw [← hyf]
  have e2:yf.dw = dw:=by rw [← hyf]
  have e3:yf.ds = ds:=by rw [← hyf]
  rw [← e1] at hx ⊢
  rw [← e2] at ndw d1
  rw [← e3] at nds d2
  clear hyf e1 e2 e3 hdx nx
  have cmN:∀ q,CM yf pd pl q->H q = none:=fun q m=>by
   rcases m with (z | z | z) | z | z
   ·rw [z]; exact hx
   ·rw [z]; exact ndw
   ·rw [z]; exact nds
   ·rw [z]; exact npd0
   ·rw [z]; exact npl0
  have notCM:∀ {q o},H q = some o->¬ CM yf pd pl q:=fun h m=>by rw [cmN _ m] at h; cases h
  obtain ⟨kw,hkw,_⟩:=hy.words
  obtain ⟨ks,hks,_⟩:=hy.sizes
  have cn:CrtN y yf pd pl:=⟨notCM hp,notCM hkw,notCM hks,d1,d2⟩
  have c3:Crt a.c_Yard H3 y yf pd pl ts s f f [] []:=⟨hy.same S03,L,Y3,hpd3,⟨hpl3,rfl,fun i p x h=>by simp at h⟩,List.nodup_nil,by simp⟩
  refine ⟨y,yf,rl,pd,pl,ts,s,f,f,[],roots,[],rfl,c3,cn,ok,.inl ⟨S03 _ _ hrl,notCM hrl⟩,co.rts,co.nr,fun H4 prs4 c4 F4=>?_⟩
  have g0:Going ts roots roots (layO [] roots):=Going.list (hs:=roots) Going.nil (by unfold zaM; simp)
  refine ⟨fun m σ H5=>∃ (dn:Nat) (ord:List Int) (prs:List Addr) (v6 v7 v8:Option V),σ = [some (.ref y.p),some (.ref rl),some (.ref yf.p),some (.ref pd),some (.ref pl),some (.int dn),v6,v7,v8]∧m = ts.length + 1 - dn∧dn ≤ ord.length∧Crt a.c_Yard H5 y yf pd pl ts s f f ord prs∧Going ts roots (zaM ts roots (ord.take dn)) ord∧Fr (CM yf pd pl) H3 H5,
   ⟨_,0,layO [] roots,prs4,_,_,_,rfl,rfl,Nat.zero_le _,c4,by rw [List.take_zero,zaM,List.flatMap_nil,List.append_nil]; exact g0,F4⟩,?_⟩
  rintro m σ H5 ⟨dn,ord,prs,v6,v7,v8,rfl,rfl,dl,c5,g5,F5⟩
  have top5:=c5.pairs.top
  have pln:prs.length = ord.length:=by rw [c5.pairs.len,zaC]
  have oln:=zbt c5.nd c5.th
  simp! [top5,List.length_map]
  refine ite2 (fun lt=>?_) fun ge=>?_
  ·have dlt:dn < ord.length:=by omega
   refine ⟨fun σ' H'=>∃ (ord':List Int) (prs':List Addr) (v6 v7 v8:Option V),σ' = [some (.ref y.p),some (.ref rl),some (.ref yf.p),some (.ref pd),some (.ref pl),some (.int ((dn:Int) + 1)),v6,v7,v8]∧dn + 1 ≤ ord'.length∧Crt a.c_Yard H' y yf pd pl ts s f f ord' prs'∧Going ts roots (zaM ts roots (ord'.take (dn + 1))) ord'∧Fr (CM yf pd pl) H3 H',?_,?_⟩
   ·rintro σ' H' ⟨ord',prs',v6,v7,v8,rfl,h1,h2,h3,h4⟩
    have:=zbt h2.nd h2.th
    exact ⟨ts.length + 1 - (dn + 1),by omega,dn + 1,ord',prs',v6,v7,v8,by rw [Int.natCast_add]; rfl,rfl,h1,h2,h3,h4⟩
   ·have hz:=List.getElem?_eq_getElem dlt
    obtain ⟨t,mt,et⟩:=c5.th _ (List.getElem_mem dlt)
    have hpr:(zal ts f ord)[dn]? = some (ord[dn],((zal ts f ord)[dn]'(by rw [zaC]; exact dlt)).2):=by
     rw [List.getElem?_eq_getElem (by rw [zaC]; exact dlt)]
     have k1:=congrArg (·[dn]?) (zaz (ts:=ts) (ord:=ord) (f:=f))
     rw [List.getElem?_map,List.getElem?_eq_getElem (by rw [zaC]; exact dlt),hz] at k1
     have k2:=Option.some.inj k1
     rw [← k2]
    have pl2:dn < prs.length:=by omega
    have row:=c5.pairs.row dn prs[dn] _ (List.getElem?_eq_getElem pl2) hpr
    have a1:atI (prs.map V.ref) ((dn:Nat):Int) = some (.ref prs[dn]):=zaU (by rw [List.getElem?_map,List.getElem?_eq_getElem pl2]; rfl)
    rw [← et] at row hz
    have op:=c5.old.ins
    simp! [top5,a1,row,op,zaI]
    have mS:(t.1,(t.2.1.length:Int),(t.2.2.length:Int)) ∈ ts.map thTri:=List.mem_map.mpr ⟨t,mt,rfl⟩
    obtain ⟨b1,b2⟩:=ok.small t mt
    refine ⟨y,t.1,f,_,_,t.2.1,t.2.2,rfl,c5.old,mS,b1,b2,ok.log t mt,zbz L mt,zcR L mt,fun q1 H6 S6 nq1 hq1=>?_⟩
    simp! []
    refine ⟨y,yf,q1,pd,pl,ts,s,f,f,ord,t.2.1,prs,rfl,c5.same S6,cn,ok,.inr hq1,co.holds t mt,by omega,fun H7 prs7 c7 F7=>?_⟩
    have tk:ord.take (dn + 1) = ord.take dn ++ [t.1]:=by rw [List.take_succ,hz]; rfl
    have hh:zdC ts t.1 = t.2.1:=by unfold zdC; rw [zbT L mt]
    have st:zaM ts roots (ord.take (dn + 1)) = zaM ts roots (ord.take dn) ++ t.2.1:=by
     unfold zaM
     rw [tk,List.flatMap_append,List.flatMap_singleton,hh,List.append_assoc]
    have g7:=Going.list (hs:=t.2.1) g5 (by rw [← st]; exact zb6 (List.take_prefix _ _))
    rw [← st] at g7
    have pre:ord <+: layO ord t.2.1:=layO_pre
    have tk7:(layO ord t.2.1).take (dn + 1) = ord.take (dn + 1):=by
     obtain ⟨r,hr'⟩:=pre
     rw [← hr',List.take_append_of_le_length (by omega)]
    exact ⟨layO ord t.2.1,by have:=pre.length_le; omega,prs7,c7,by rw [tk7]; exact g7,(F5.trans (.of_same S6)).trans F7⟩
  ·have edn:dn = ord.length:=by omega
   rw [edn,List.take_length] at g5
   have cart:=g5.done
   clear g5 edn dl ge g0 c4 F4
   have lo:=zbt c5.nd c5.th
   have inOrd:∀ z ∈ ord,∀ h ∈ (thAt ts z).2.1,h = 0 ∨ h ∈ ord:=fun z hz h hh=>by
    by_cases c:h = 0
    ·exact .inl c
    ·right
     have:h ∈ zaM ts roots ord:=List.mem_append_right _ (List.mem_flatMap.mpr ⟨z,hz,hh⟩)
     have:=(mem_layO (hs:=zaM ts roots ord) (ord:=[])).mpr (.inr ⟨this,c⟩)
     rw [cart.fix] at this
     exact this
   have hpd5:=c5.places
   refine forL (H1:=H5) pl (prs.map V.ref) (fun Q2 h2=>by simp! []; exact h2) (fun i σ H6=>∃ (v6 v7 v8:Option V),σ = [some (.ref y.p),some (.ref rl),some (.ref yf.p),some (.ref pd),some (.ref pl),some (.int dn),v6,v7,v8]∧YardAt a.c_Yard H6 yf (zav (mix ts (zal ts f ord) i)) ((zbv ts f ord).map thTri) (zaQ ts f ord)∧Fr (· = yf.dw) H5 H6)
    ⟨_,_,_,rfl,c5.new,.refl⟩ ?_ ?_ ?_
   ·rintro i σ H6 _ ⟨_,_,_,_,_,F6⟩
    refine .of (F6.keep _ _ top5 (fun e=>?_))
    obtain ⟨k,hk,_⟩:=c5.new.words
    rw [e,hk] at top5; cases top5
   ·rintro i x σ H6 hx ⟨v6,v7,v8,rfl,Y6,F6⟩
    obtain ⟨p,hpi,rfl⟩:=zaG hx
    have ilt:i < ord.length:=by rw [← pln]; exact (List.getElem?_eq_some_iff.mp hpi).1
    have hpr:=List.getElem?_eq_getElem (l:=zal ts f ord) (i:=i) (by rw [zaC]; exact ilt)
    have k1:(zal ts f ord)[i]'(by rw [zaC]; exact ilt) ∈ zal ts f ord:=List.getElem_mem _
    revert hpr k1
    generalize (zal ts f ord)[i]'(by rw [zaC]; exact ilt) = pr
    intro hpr k1
    have mo:pr.1 ∈ ord:=by
     have:=List.mem_map_of_mem (f:=(·.1)) k1
     rw [zaz] at this
     exact this
    obtain ⟨t,mt,et⟩:=c5.th _ mo
    have eth:thAt ts pr.1 = t:=by rw [← et]; exact zbT L mt
    have row:=c5.pairs.row i p pr hpi hpr
    have row6:=F6.tups _ _ row
    refine zcc row6 rfl ?_
    have ndwO:∀ {q o},H q = some o->q ≠ yf.dw:=fun h=>zah h ndw
    have old6:=c5.old.fr F6 (ndwO hp) (ndwO hkw) (ndwO hks)
    have npdw:pd ≠ yf.dw:=d1
    have pd6:=F6.keep _ _ hpd5 npdw
    have op:=old6.ins
    have mS:(t.1,(t.2.1.length:Int),(t.2.2.length:Int)) ∈ ts.map thTri:=List.mem_map.mpr ⟨t,mt,rfl⟩
    obtain ⟨b1,b2⟩:=ok.small t mt
    simp! []
    refine zi8 (fun q1 H7=>Same H6 H7∧H7 q1 = some (.tup (t.2.1.map V.int))) (fun Q2 hQ=>?_) ?_
    ·simp! [op,zaI]
     rw [← et]
     exact ⟨y,t.1,f,_,_,t.2.1,t.2.2,rfl,old6,mS,b1,b2,ok.log t mt,zbz L mt,zcR L mt,fun q1 H7 S7 nq1 hq1=>hQ q1 H7 ⟨S7,hq1⟩⟩
    rintro q1 H7 ⟨S7,hq1⟩
    have pd7:=S7 _ _ pd6
    refine compT (H1:=H7) q1 _ (fun Q2 h2=>h2) (.of hq1) (fun D j ys H8=>ys = ((t.2.1.take j).map (mvOf (zal ts f ord))).map V.int∧H8 = upd H7 D (.lst ys)) (fun D hD=>⟨rfl,rfl⟩) ?_ (by rw [sizeLine_eq,List.length_map]; omega) ?_ ?_
    ·rintro D hD j ys H8 hj ⟨rfl,rfl⟩
     exact ⟨.of (zan hq1 hD),zad,by simp; omega⟩
    ·rintro D hD j x ys H8 hj ⟨rfl,rfl⟩
     obtain ⟨h,hjh,rfl⟩:=zaG hj
     have pd8:=zan (u:=.lst (((t.2.1.take j).map (mvOf (zal ts f ord))).map V.int)) pd7 hD
     have val:valV (plK (zal ts f ord)) (Sum.inl h) = some (.int (mvOf (zal ts f ord) h)):=by
      have io:=inOrd _ mo h (by rw [eth]; exact List.mem_of_getElem? hjh)
      have some_:=(zbR (ts:=ts) (f:=f) (ord:=ord) (z:=h)).mpr io
      rw [zdq] at some_ ⊢
      unfold mvOf
      by_cases c:h = 0
      ·rw [if_pos c,if_pos c]
      ·rw [if_neg c] at some_ ⊢
       rw [if_neg c]
       rw [Option.isSome_map] at some_
       obtain ⟨v,hv⟩:=Option.isSome_iff_exists.mp some_
       rw [hv]; rfl
     simp! [zaT,tTrue,pd8,val,zbb]
     rw [List.take_succ,hjh,List.map_append,List.map_append]; rfl
    ·rintro D hD ys H8 ⟨rfl,rfl⟩
     have tkl:t.2.1.take (t.2.1.map V.int).length = t.2.1:=by rw [List.length_map,List.take_length]
     rw [tkl]
     have S8:=S7.step hD (u:=.lst ((t.2.1.map (mvOf (zal ts f ord))).map V.int))
     have hD8:upd H7 D (.lst ((t.2.1.map (mvOf (zal ts f ord))).map V.int)) D = some (.lst ((t.2.1.map (mvOf (zal ts f ord))).map V.int)):=zad
     revert S8 hD8
     generalize upd H7 D (.lst ((t.2.1.map (mvOf (zal ts f ord))).map V.int)) = H8
     intro S8 hD8
     have old8:=old6.same S8
     have op8:=old8.ins
     simp! [op8,zaI]
     rw [← et]
     refine ⟨y,t.1,f,_,_,t.2.1,t.2.2,rfl,old8,mS,b1,b2,ok.log t mt,zbz L mt,zcR L mt,fun q2 H9 S9 nq2 hq2=>?_⟩
     refine ⟨q2,rfl,_,.inr (.of hq2),fun l hl=>?_⟩
     refine ⟨D,l,_,_,rfl,rfl,zan (S9 _ _ hD8) hl,zad,by rw [sizeLine_eq]; simp; omega,fun p2 hp2=>?_⟩
     have S10:Same H6 (upd (upd H9 l (.lst (t.2.2.map V.int))) p2 (.lst ((t.2.1.map (mvOf (zal ts f ord))).map V.int ++ t.2.2.map V.int))):=((S8.trans S9).step hl).step hp2
     have zin:zbd ts pr ∈ mix ts (zal ts f ord) i:=List.mem_of_getElem? (zhK hpr)
     have zin2:zbd ts pr ∈ zbv ts f ord:=List.mem_map.mpr ⟨pr,k1,rfl⟩
     have zs:thSz (zbd ts pr) = 1 + t.2.1.length + t.2.2.length:=by rw [zdz,eth]; rfl
     have ML:=zeP (ts:=ts) (f:=f) (ord:=ord) (i:=i)
     have zm:=zbi.mem zin2
     have zb:=zdl ok.small (ord:=ord) (f:=f)
     have fb:=co.f1
     have f0:=co.f0
     have tl:=ok.len
     have z1:(zbd ts pr).1 = pr.2:=rfl
     refine ⟨yf,p2,pr.2 + 1,zaQ ts f ord,t.2.1.map (mvOf (zal ts f ord)) ++ t.2.2,_,_,rfl,Y6.same S10,by rw [List.map_append]; exact zad,by unfold zbv; rw [List.length_map,List.length_map,zaC]; omega,by rw [List.length_append,List.length_map]; omega,fun z h1 h2=>⟨?_,?_,?_⟩,fun H11 Y11 F11=>⟨?_,?_⟩⟩
     ·rw [List.length_append,List.length_map] at h2
      rw [ML.word zin (by omega) (by omega)]
      cases e:zay (zbd ts pr) z with
      | some x=>exact ⟨x,rfl⟩
      | none =>
       have:=zaF.mp e
       omega
     ·intro u hu' e
      rw [List.length_append,List.length_map] at h2
      obtain ⟨v,hv,rfl⟩:=List.mem_map.mp hu'
      have e':v.1 = z:=e
      have:=zbi.apart zin2 hv (by omega)
      omega
     ·refine zdg ?_
      rw [List.length_append,List.length_map] at h2
      have p1:(10:Nat) ^ 62 < 2 ^ 1920:=by decide
      have p2:(10:Int) ^ 61 + 20000 ≤ ((10 ^ 62:Nat):Int):=by decide
      omega
     ·have:=zgC (ts:=ts) hpr
      rw [eth] at this
      rw [← this]
      exact Y11
     ·exact (F6.trans (.of_same S10)).trans F11
   ·rintro σ H6 ⟨v6,v7,v8,rfl,Y6,F6⟩
    rw [List.length_map,c5.pairs.len,zeG] at Y6
    simp! []
    intro r hr'
    have S7:Same H6 (upd H6 r (.tup [.ref yf.p,.ref pl])):=.laid hr'
    have et:(zbv ts f ord).map thTri = (zcm ts f ord).map thTri:=by
     have:=zgh (ts:=ts) (ps:=zal ts f ord) (i:=(zal ts f ord).length)
     rw [zeG] at this
     exact this.symm
    have npl:pl ≠ yf.dw:=fun e=>by
     obtain ⟨k,hk,_⟩:=c5.new.words
     rw [e,hk] at top5; cases top5
    rw [et] at Y6
    refine q r yf pl prs ord _ cart c5.nd c5.th zad (Y6.same S7) ((c5.pairs.fr F6 npl).fr (.of_same (M:=fun _=>False) S7) (fun z=>z)) ?_ hx ndw nds npl0
    intro c' o h
    exact S7 _ _ (F6.keep _ _ (F5.keep _ _ (S03 _ _ h) (notCM h)) (zah h ndw))
end
section
variable {P:Program} {w:World} {K:PySem.W.Frag} {mg:Str->Option Value} {base:Heap} {a:Ad}
theorem Kp.fr {b:Addr} {H H':Hp} {ys:List V} (x:Kp b H H') (hb:H b = some (.lst ys)):Fr (· = b) H H':=⟨x,fun q xs h=>x q _ h (fun e=>by rw [e,hb] at h; cases h)⟩
theorem BagAt.kfr {b c:Addr} {cs:List Int} {H H':Hp} (x:BagAt H b c cs) (k:Kp b H H'):Fr (· = b) H H':=by
 obtain ⟨⟨i,v,st,n,e,_⟩,_⟩:=x
 exact k.fr e
noncomputable def sp_more:Sp:=fun vs H Q _=>∃ (b c:Addr) (cs:List Int),vs = [.ref b]∧BagAt H b c cs∧∀ r,Q (.bl r) H
theorem zeO (T:Txt K mg a):FnOk P w K mg base (CX1 P w) 1 a.f_law_more a.d_law_more ["bag"] sp_more:=by
 refine T.F_law_more.okC sc_law_more (fun vs H Q E h=>?_) (fun cdv A outer s H vs Q E hr h=>?_)
 ·obtain ⟨b,c,cs,rfl,_⟩:=h
  rfl
 ·obtain ⟨b,c,cs,rfl,⟨⟨i,v,st,n,hb,_⟩,hc,ne,pos,len⟩,q⟩:=h
  have hu:=zaX hr
  refine ⟨_,(zaf (zaq (pe_or (zbM op_gt (zax ix_F (pv 0) zab (fun _ _=>rfl)) zab (zaw _)) (zgQ (zbM op_lt (zax ix_F (pv 0) zab (fun _ _=>rfl)) (zam call_lenF (by rfl) T.z_len (by decide +kernel) (zaa (zax ix_F (pv 0) zab (fun _ _=>rfl)) pa_nil)) (zaw _)))))),?_⟩
  simp! [hb,hc,bagL,List.length_map]
  exact ite2 (fun _=>q _) fun _=>q _
noncomputable def sp_whole:Sp:=fun vs H Q _=>∃ i:Int,vs = [.int i]∧Q (.bl true) H
theorem zba (T:Txt K mg a):FnOk P w K mg base (CX1 P w) 1 a.f_law_whole a.d_law_whole ["found"] sp_whole:=by
 refine T.F_law_whole.okC sc_law_whole (fun vs H Q E h=>?_) (fun cdv A outer s H vs Q E hr h=>?_)
 ·obtain ⟨i,rfl,_⟩:=h
  rfl
 ·obtain ⟨i,rfl,q⟩:=h
  refine ⟨_,(zaf (zaq (zhM (zam call_isF (by rfl) T.z_isinstance (by decide +kernel) (zaa (pv 0) (zaa (zc0 (v:=.ty "int") (u:=.type "int") (by rfl) T.z_int (by decide +kernel) (by rfl)) pa_nil))) (zgQ (ziU (zam call_isF (by rfl) T.z_isinstance (by decide +kernel) (zaa (pv 0) (zaa (zc0 (v:=.ty "bool") (u:=.type "bool") (by rfl) T.z_bool (by decide +kernel) (by rfl)) pa_nil)))))))),?_⟩
  walk_at "rd"
  exact q
noncomputable def sp_start:Sp:=fun vs H Q _=>∃ (b c:Addr) (cs:List Int),vs = [.ref b]∧BagAt H b c cs∧∀ (r:Int) (H':Hp),1 ≤ r->r ≤ 10 ^ 59->BagAt H' b c cs->Kp b H H'->Q (.int r) H'
theorem zd6 (T:Txt K mg a):FnOk P w K mg base (CX1 P w) 2 a.f_law_start a.d_law_start ["bag"] sp_start:=by
 refine T.F_law_start.okC sc_law_start (fun vs H Q E h=>?_) (fun cdv A outer s H vs Q E hr h=>?_)
 ·obtain ⟨b,c,cs,rfl,_⟩:=h
  rfl
 ·obtain ⟨b,c,cs,rfl,hb,q⟩:=h
  have hu:=zaX hr
  refine ⟨_,(zac (zaS (zar op_eq (zai (zaj T) (hr.mono (by decide)) (by rfl) T.m_law_draw T.F_law_draw.kp T.b_law_draw .nil zao (zaa (pv 0) (zaa zab pa_nil))) zab (zaw _)) (zaf (zaq (zat op_add zab (zai (zaj T) (hr.mono (by decide)) (by rfl) T.m_law_draw T.F_law_draw.kp T.b_law_draw .nil zao (zaa (pv 0) (zaa (zat op_pow zab zab) pa_nil)))))) pss_nil)
   (zaf (zaq (zat op_add zab (zai (zaj T) (hr.mono (by decide)) (by rfl) T.m_law_draw T.F_law_draw.kp T.b_law_draw .nil zao (zaa (pv 0) (zaa zab pa_nil))))))),?_⟩
  walk_at "rd"
  refine ⟨b,c,cs,3,rfl,hb,by decide,by decide,fun r H1 r0 r1 hb1 k1=>?_⟩
  walk_at "rd"
  refine ite2 (fun _=>⟨⟨by decide,by decide,by decide⟩,b,c,cs,_,rfl,hb1,by decide,by decide,fun r H2 r0 r1 hb2 k2=>⟨_,rfl,q _ _ (by omega) ?_ hb2 (k1.trans k2)⟩⟩) fun _=>⟨b,c,cs,_,rfl,hb1,by decide,by decide,fun r H2 r0 r1 hb2 k2=>⟨_,rfl,q _ _ (by omega) ?_ hb2 (k1.trans k2)⟩⟩
  ·have:(10:Int) ^ Int.toNat 59 = 10 ^ 59:=rfl
   omega
  ·have:(40:Int) ≤ 10 ^ 59:=by decide
   omega
noncomputable def sp_worth:Sp:=fun vs H Q _=>∃ (b c:Addr) (cs:List Int),vs = [.ref b]∧BagAt H b c cs∧∀ (r:Int) (H':Hp),BagAt H' b c cs->Kp b H H'->Q (.int r) H'
theorem zdL (T:Txt K mg a):FnOk P w K mg base (CX1 P w) 2 a.f_law_worth a.d_law_worth ["bag"] sp_worth:=by
 refine T.F_law_worth.okC sc_law_worth (fun vs H Q E h=>?_) (fun cdv A outer s H vs Q E hr h=>?_)
 ·obtain ⟨b,c,cs,rfl,_⟩:=h
  rfl
 ·obtain ⟨b,c,cs,rfl,hb,q⟩:=h
  have hu:=zaX hr
  refine ⟨_,(zac (zaS (zar op_eq (zai (zaj T) (hr.mono (by decide)) (by rfl) T.m_law_draw T.F_law_draw.kp T.b_law_draw .nil zao (zaa (pv 0) (zaa zab pa_nil))) zab (zaw _)) (zaf (zaq (zat op_mul (zat op_sub (zat op_mul (zai (zaj T) (hr.mono (by decide)) (by rfl) T.m_law_draw T.F_law_draw.kp T.b_law_draw .nil zao (zaa (pv 0) (zaa zab pa_nil))) zab) zab) (zai (zaj T) (hr.mono (by decide)) (by rfl) T.m_law_draw T.F_law_draw.kp T.b_law_draw .nil zao (zaa (pv 0) (zaa (zat op_pow zab zab) pa_nil)))))) pss_nil)
   (zaf (zaq (zat op_sub (zai (zaj T) (hr.mono (by decide)) (by rfl) T.m_law_draw T.F_law_draw.kp T.b_law_draw .nil zao (zaa (pv 0) (zaa zab pa_nil))) zab)))),?_⟩
  walk_at "rd"
  refine ⟨b,c,cs,4,rfl,hb,by decide,by decide,fun r H1 r0 r1 hb1 k1=>?_⟩
  walk_at "rd"
  refine ite2 (fun _=>⟨b,c,cs,_,rfl,hb1,by decide,by decide,fun r H2 r0 r1 hb2 k2=>?_⟩) fun _=>⟨b,c,cs,_,rfl,hb1,by decide,by decide,fun r H2 r0 r1 hb2 k2=>?_⟩
  ·walk_at "rd"
   refine ⟨.inl ⟨by omega,by omega⟩,⟨by decide,by decide,by decide⟩,b,c,cs,_,rfl,hb2,by decide,by decide,fun r' H3 r0' r1' hb3 k3=>?_⟩
   walk_at "rd"
   exact ⟨.inl ⟨by omega,by omega⟩,q _ _ hb3 ((k1.trans k2).trans k3)⟩
  ·walk_at "rd"
   exact q _ _ hb2 (k1.trans k2)
noncomputable def sp_sized:Sp:=fun vs H Q _=>∃ (b c:Addr) (cs:List Int),vs = [.ref b]∧BagAt H b c cs∧∀ (h m:Int) (p:Addr) (H':Hp),0 ≤ h->h ≤ 9->0 ≤ m->m ≤ 9->BagAt H' b c cs->H' p = some (.tup [.int h,.int m])->Kp b H H'->Q (.ref p) H'
theorem zev (T:Txt K mg a):FnOk P w K mg base (CX1 P w) 2 a.f_law_size a.d_law_size ["bag"] sp_sized:=by
 refine T.F_law_size.okC sc_law_size (fun vs H Q E h=>?_) (fun cdv A outer s H vs Q E hr h=>?_)
 ·obtain ⟨b,c,cs,rfl,_⟩:=h
  rfl
 ·obtain ⟨b,c,cs,rfl,hb,q⟩:=h
  have hu:=zaX hr
  refine ⟨_,(zac (zaS (zar op_eq (zai (zaj T) (hr.mono (by decide)) (by rfl) T.m_law_draw T.F_law_draw.kp T.b_law_draw .nil zao (zaa (pv 0) (zaa zab pa_nil))) zab (zaw _)) (zaf (zaq (zcW (zaa (zai (zaj T) (hr.mono (by decide)) (by rfl) T.m_law_draw T.F_law_draw.kp T.b_law_draw .nil zao (zaa (pv 0) (zaa zab pa_nil))) (zaa (zai (zaj T) (hr.mono (by decide)) (by rfl) T.m_law_draw T.F_law_draw.kp T.b_law_draw .nil zao (zaa (pv 0) (zaa zab pa_nil))) pa_nil))))) pss_nil)
   (zaf (zaq (zcW (zaa (zai (zaj T) (hr.mono (by decide)) (by rfl) T.m_law_draw T.F_law_draw.kp T.b_law_draw .nil zao (zaa (pv 0) (zaa zab pa_nil))) (zaa (zai (zaj T) (hr.mono (by decide)) (by rfl) T.m_law_draw T.F_law_draw.kp T.b_law_draw .nil zao (zaa (pv 0) (zaa zab pa_nil))) pa_nil)))))),?_⟩
  walk_at "rd"
  refine ⟨b,c,cs,_,rfl,hb,by decide,by decide,fun r H1 r0 r1 hb1 k1=>?_⟩
  walk_at "rd"
  refine ite2 (fun _=>⟨b,c,cs,_,rfl,hb1,by decide,by decide,fun r H2 r0 r1 hb2 k2=>?_⟩) fun _=>⟨b,c,cs,_,rfl,hb1,by decide,by decide,fun r H2 r0 r1 hb2 k2=>?_⟩
  all_goals
   walk_at "rd"
   refine ⟨b,c,cs,_,rfl,hb2,by decide,by decide,fun r' H3 r0' r1' hb3 k3=>?_⟩
   intro p hp
   exact q r r' p _ r0 (by omega) r0' (by omega) (hb3.laid hp) zad (((k1.trans k2).trans k3).laid hp)
end
section
variable {P:Program} {w:World} {K:PySem.W.Frag} {mg:Str->Option Value} {base:Heap} {a:Ad}
theorem zhN {n:Nat} {j:Int} (h0:0 ≤ j) (h1:j < n):ixN n j = some j.toNat:=by
 unfold ixN
 simp [h0,h1]
theorem zhr {H H':Hp} {l:Addr} {as:List (Addr × Addr × Addr)} {ts:List Th} {M:Addr->Prop} (x:RowsAt HO.lst H l as ts) (f:Fr M H H') (h:∀ q xs,M q->H q ≠ some (.lst xs)):RowsAt HO.lst H' l as ts :=
 ⟨f.keep _ _ x.top (fun m=>h _ _ m x.top),x.len,fun k a t ha ht=>by
  obtain ⟨e1,e2,e3⟩:=x.row k a t ha ht
  exact ⟨f.tups _ _ e1,f.keep _ _ e2 (fun m=>h _ _ m e2),f.keep _ _ e3 (fun m=>h _ _ m e3)⟩⟩
theorem zeF {t:Th} {j:Nat} {v z:Int} (h:j < t.2.1.length):zay (t.1,t.2.1.set j v,t.2.2) z = if z = t.1 + 1 + j then some v else zay t z:=by
 unfold zay thW
 by_cases c:z < t.1
 ·rw [if_pos c,if_pos c,if_neg (by omega)]
 ·rw [if_neg c,if_neg c]
  by_cases d:z = t.1 + 1 + j
  ·rw [if_pos d]
   show ((_:Int) :: (t.2.1.set j v ++ t.2.2))[(z - t.1).toNat]? = some v
   rw [show (z - t.1).toNat = j + 1 by omega,List.getElem?_cons_succ,List.getElem?_append_left (by rw [List.length_set]; exact h),List.getElem?_set_self h]
  ·rw [if_neg d]
   show ((16 * ((t.2.1.set j v).length:Int) + t.2.2.length) :: (t.2.1.set j v ++ t.2.2))[(z - t.1).toNat]? = _
   rw [List.length_set]
   cases e:(z - t.1).toNat with
   | zero=>rfl
   | succ i =>
    rw [List.getElem?_cons_succ,List.getElem?_cons_succ]
    by_cases f:i < t.2.1.length
    ·rw [List.getElem?_append_left (by rw [List.length_set]; exact f),List.getElem?_append_left f,List.getElem?_set_ne (by omega)]
    ·rw [List.getElem?_append_right (by rw [List.length_set]; omega),List.getElem?_append_right (by omega),List.length_set]
theorem zeJ {t:Th} {j:Nat} {v z:Int} (h:j < t.2.2.length):zay (t.1,t.2.1,t.2.2.set j v) z = if z = t.1 + 1 + t.2.1.length + j then some v else zay t z:=by
 unfold zay thW
 by_cases c:z < t.1
 ·rw [if_pos c,if_pos c,if_neg (by omega)]
 ·rw [if_neg c,if_neg c]
  by_cases d:z = t.1 + 1 + t.2.1.length + j
  ·rw [if_pos d]
   show ((_:Int) :: (t.2.1 ++ t.2.2.set j v))[(z - t.1).toNat]? = some v
   rw [show (z - t.1).toNat = (t.2.1.length + j) + 1 by omega,List.getElem?_cons_succ,List.getElem?_append_right (by omega),show t.2.1.length + j - t.2.1.length = j by omega,List.getElem?_set_self h]
  ·rw [if_neg d]
   show ((16 * (t.2.1.length:Int) + (t.2.2.set j v).length) :: (t.2.1 ++ t.2.2.set j v))[(z - t.1).toNat]? = _
   rw [List.length_set]
   cases e:(z - t.1).toNat with
   | zero=>rfl
   | succ i =>
    rw [List.getElem?_cons_succ,List.getElem?_cons_succ]
    by_cases f:i < t.2.1.length
    ·rw [List.getElem?_append_left f,List.getElem?_append_left f]
    ·rw [List.getElem?_append_right (by omega),List.getElem?_append_right (by omega),List.getElem?_set_ne (by omega)]
theorem zaZ {α β:Type} {f:α->β}:∀ {l:List α} {k:Nat} {x y:α},l[k]? = some x->f y = f x->(l.set k y).map f = l.map f
 | [],k,x,y,h,_=>by simp at h
 | u :: r,0,x,y,h,e=>by simp at h; subst h; rw [List.set_cons_zero,List.map_cons,List.map_cons,e]
 | u :: r,k + 1,x,y,h,e=>by rw [List.getElem?_cons_succ] at h; rw [List.set_cons_succ,List.map_cons,List.map_cons,zaZ h e]
structure Laid1 (ts ts':List Th) (k:Nat) (t t':Th) (spot v:Int):Prop where
 set:ts' = ts.set k t'
 word:∀ z,zay t' z = if z = spot then some v else zay t z
 tri:thTri t' = thTri t
theorem Laid1.words {ts ts':List Th} {k:Nat} {t t':Th} {spot v:Int} (h:Laid1 ts ts' k t t' spot v) (hk:ts[k]? = some t) (hw:zav (ts.take k) spot = none) :
  (fun z=>if z = spot then some v else zav ts z) = zav ts':=by
 funext z
 rw [h.set]
 by_cases c:z = spot
 ·subst c
  rw [if_pos rfl,zft hw hk (by rw [h.word,if_pos rfl]; rfl),h.word,if_pos rfl]
 ·rw [if_neg c,wordAt_same hk (by rw [h.word,if_neg c])]
noncomputable def sp_many:Sp:=fun vs H Q _=>∃ (b c:Addr) (cs:List Int),vs = [.ref b]∧BagAt H b c cs∧∀ (r:Int) (H':Hp),1 ≤ r->r ≤ 400->BagAt H' b c cs->Kp b H H'->Q (.int r) H'
theorem zeA (T:Txt K mg a):FnOk P w K mg base (CX1 P w) 2 a.f_law_many a.d_law_many ["bag"] sp_many:=by
 refine T.F_law_many.okC sc_law_many (fun vs H Q E h=>?_) (fun cdv A outer s H vs Q E hr h=>?_)
 ·obtain ⟨b,c,cs,rfl,_⟩:=h
  rfl
 ·obtain ⟨b,c,cs,rfl,hb,q⟩:=h
  have hu:=zaX hr
  refine ⟨_,(zac (zau (i:=1) sc_law_many.nd (by rfl) (Or.inl rfl) (zai (zaj T) (hr.mono (by decide)) (by rfl) T.m_law_draw T.F_law_draw.kp T.b_law_draw .nil zao (zaa (pv 0) (zaa zab pa_nil))))
   (zac (zaS (zar op_eq (pv 1) zab (zaw _)) (zaf (zaq (zat op_add zab (zai (zaj T) (hr.mono (by decide)) (by rfl) T.m_law_draw T.F_law_draw.kp T.b_law_draw .nil zao (zaa (pv 0) (zaa zab pa_nil)))))) pss_nil)
   (zaf (zaq (zat op_add zab (zai (zaj T) (hr.mono (by decide)) (by rfl) T.m_law_draw T.F_law_draw.kp T.b_law_draw .nil zao (zaa (pv 0) (zaa (zax ix_F (zbu (zaa zab (zaa zab pa_nil))) (zat op_mod (pv 1) zab) (fun _ _=>rfl)) pa_nil)))))))),?_⟩
  simp! []
  refine ⟨b,c,cs,8,rfl,hb,by decide,by decide,fun way H1 w0 w1 hb1 k1=>?_⟩
  simp! []
  refine ite2 (fun _=>⟨b,c,cs,131,rfl,hb1,by decide,by decide,fun r H2 r0 r1 hb2 k2=>⟨_,rfl,q _ _ (by omega) (by omega) hb2 (k1.trans k2)⟩⟩) fun _ l hl=>?_
  obtain ⟨v,e,v0,v1⟩:∃ v:Int,atI [V.int 6,V.int 12] (way % 2) = some (.int v)∧0 < v∧v ≤ 12:=by
   have:way % 2 = 0 ∨ way % 2 = 1:=by omega
   rcases this with e | e
   ·rw [e]; exact ⟨6,zdu,by decide,by decide⟩
   ·rw [e]; exact ⟨12,zgK,by decide,by decide⟩
  have k2:=k1.laid (u:=.lst [V.int 6,V.int 12]) hl
  have hb2:=hb1.laid (u:=.lst [V.int 6,V.int 12]) hl
  simp! [e]
  have p70:(12:Int) ≤ 10 ^ 70:=by decide
  exact ⟨by decide,b,c,cs,v,rfl,hb2,v0,by omega,fun r H3 r0 r1 hb3 k3=>⟨_,rfl,q _ _ (by omega) (by omega) hb3 (k2.trans k3)⟩⟩
noncomputable def sp_hold:Sp:=fun vs H Q _=>∃ (b c tl:Addr) (cs:List Int) (as:List (Addr × Addr × Addr)) (ts:List Th) (k:Nat) (ch:Int),vs = [.ref b,.ref tl,.int k,.int ch]∧BagAt H b c cs∧(∀ H',BagAt H' b c cs->Kp b H H'->RowsAt HO.lst H' tl as ts)∧0 < ts.length∧ts.length ≤ 1000∧0 ≤ ch∧ch ≤ 2 ∧
 ∀ (r:Int) (H':Hp),(r = 0 ∨ ∃ t ∈ ts,t.1 = r)->BagAt H' b c cs->Kp b H H'->Q (.int r) H'
theorem zcX (T:Txt K mg a):FnOk P w K mg base (CX1 P w) 2 a.f_law_hold a.d_law_hold ["bag","things","k","chain"] sp_hold:=by
 refine T.F_law_hold.okC sc_law_hold (fun vs H Q E h=>?_) (fun cdv A outer s H vs Q E hr h=>?_)
 ·obtain ⟨b,c,tl,cs,as,ts,k,ch,rfl,_⟩:=h
  rfl
 ·obtain ⟨b,c,tl,cs,as,ts,k,ch,rfl,hb,R,l0,l1,c0,c2,q⟩:=h
  have hu:=zaX hr
  refine ⟨_,(zac (zaS (PW.pt (zdK (zar op_gt (pv 3) zab (zaw _)) (zcF (zar op_gt (zai (zaj T) (hr.mono (by decide)) (by rfl) T.m_law_draw T.F_law_draw.kp T.b_law_draw .nil zao (zaa (pv 0) (zaa zab pa_nil))) zab (zaw _))))) (zaf (zaq (zax ix_F (zax ix_F (pv 1) (zat op_mod (zat op_add (pv 2) (zax ix_F (zbu (zaa zab (zaa zab (zaa (zat op_sub (zam call_lenF (by rfl) T.z_len (by decide +kernel) (zaa (pv 1) pa_nil)) zab) pa_nil)))) (pv 3) (fun _ _=>rfl))) (zam call_lenF (by rfl) T.z_len (by decide +kernel) (zaa (pv 1) pa_nil))) (fun _ _=>rfl)) zab (fun _ _=>rfl)))) pss_nil)
   (zac (zaS (zar op_eq (zai (zaj T) (hr.mono (by decide)) (by rfl) T.m_law_draw T.F_law_draw.kp T.b_law_draw .nil zao (zaa (pv 0) (zaa zab pa_nil))) zab (zaw _)) (zaf (zaq zab)) pss_nil)
   (zaf (zaq (zax ix_F (zax ix_F (pv 1) (zai (zaj T) (hr.mono (by decide)) (by rfl) T.m_law_draw T.F_law_draw.kp T.b_law_draw .nil zao (zaa (pv 0) (zaa (zam call_lenF (by rfl) T.z_len (by decide +kernel) (zaa (pv 1) pa_nil)) pa_nil))) (fun _ _=>rfl)) zab (fun _ _=>rfl)))))),?_⟩
  have pick:∀ (i:Nat) (H2:Hp),i < ts.length->RowsAt HO.lst H2 tl as ts->∃ r t,t ∈ ts∧atI (as.map fun a=>V.ref a.1) ((i:Nat):Int) = some (.ref r)∧H2 r = some (.tup [.int t.1,.ref (as.getD i (0,0,0)).2.1,.ref (as.getD i (0,0,0)).2.2]):=fun i H2 hi R2=>by
   obtain ⟨bb,hbb,e1,_,_⟩:=R2.at_ (List.getElem?_eq_getElem hi)
   refine ⟨bb.1,ts[i],List.getElem_mem hi,zaU (by rw [List.getElem?_map,hbb]; rfl),?_⟩
   rw [List.getD_eq_getElem?_getD,hbb]
   exact e1
  have rest:∀ H2,BagAt H2 b c cs->Kp b H H2->sp_draw [V.ref b,V.int 4] H2 (fun x H1=>scal x (V.int 0) = true∧if x = V.int 0 then Q (V.int 0) H1 else ∃ x,lenF (V.ref tl) H1 = some x∧sp_draw [V.ref b,V.int x] H1 (fun y H2=>∃ i,y = .int i∧∃ xs,seqO (H2 tl) = some xs∧∃ z,atI xs i = some z∧∃ p,z = .ref p∧∃ ys,seqO (H2 p) = some ys∧∃ v,atI ys 0 = some v∧Q v H2) E0) E0:=fun H2 hb2 k2=>by
   refine ⟨b,c,cs,4,rfl,hb2,by decide,by decide,fun x H3 x0 x1 hb3 k3=>⟨rfl,ite2 (fun _=>q 0 H3 (.inl rfl) hb3 (k2.trans k3)) fun _=>?_⟩⟩
   have R3:=R _ hb3 (k2.trans k3)
   have p70:(1000:Int) ≤ 10 ^ 70:=by decide
   refine ⟨ts.length,by rw [zdx,R3.top,zbl,List.length_map,R3.len],b,c,cs,_,rfl,hb3,by omega,by omega,fun i H4 i0 i1 hb4 k4=>?_⟩
   have R4:=R _ hb4 ((k2.trans k3).trans k4)
   obtain ⟨iN,rfl⟩:=Int.eq_ofNat_of_zero_le i0
   obtain ⟨r,t,mt,a1,e1⟩:=pick iN H4 (by omega) R4
   exact ⟨_,rfl,_,by rw [R4.top]; rfl,_,a1,r,rfl,_,by rw [e1]; rfl,_,zdu,q _ _ (.inr ⟨t,mt,rfl⟩) hb4 ((k2.trans k3).trans k4)⟩
  simp! []
  refine ite2 (fun _=>⟨b,c,cs,5,rfl,hb,by decide,by decide,fun i H1 i0 i1 hb1 k1=>⟨i,rfl,ite2 (fun _=>?_) fun _=>rest H1 hb1 k1⟩⟩) fun _=>rest H hb Kp.refl
  have R1:=R _ hb1 k1
  refine ⟨ts.length,by rw [R1.top,zbl,List.length_map,R1.len],fun p hp=>?_⟩
  obtain ⟨v,ev⟩:∃ v:Int,atI [V.int 0,V.int 1,V.int ((ts.length:Int) - 1)] ch = some (.int v):=by
   have:ch = 0 ∨ ch = 1 ∨ ch = 2:=by omega
   rcases this with e | e | e
   ·rw [e]; exact ⟨_,zdu⟩
   ·rw [e]; exact ⟨_,zgK⟩
   ·rw [e]; exact ⟨_,zix⟩
  have hb2:=hb1.laid (u:=.lst [V.int 0,V.int 1,V.int ((ts.length:Int) - 1)]) hp
  have k2:=k1.laid (u:=.lst [V.int 0,V.int 1,V.int ((ts.length:Int) - 1)]) hp
  have R2:=R _ hb2 k2
  have m0:0 ≤ ((k:Int) + v) % ts.length:=Int.emod_nonneg _ (by omega)
  have m1:((k:Int) + v) % ts.length < ts.length:=Int.emod_lt_of_pos _ (by omega)
  obtain ⟨iN,eN⟩:=Int.eq_ofNat_of_zero_le m0
  obtain ⟨r,t,mt,a1,e1⟩:=pick iN _ (by omega) R2
  refine ⟨_,ev,v,rfl,ts.length,by rw [R2.top,zbl,List.length_map,R2.len],by omega,_,by rw [R2.top]; rfl,_,by rw [eN]; exact a1,r,rfl,_,by rw [e1]; rfl,_,zdu,q _ _ (.inr ⟨t,mt,rfl⟩) hb2 k2⟩
end
section
variable {P:Program} {w:World} {K:PySem.W.Frag} {mg:Str->Option Value} {base:Heap} {a:Ad}
noncomputable def setF (t:Th) (j:Nat) (v:Int):Th:=if j < t.2.1.length then (t.1,t.2.1.set j v,t.2.2) else (t.1,t.2.1,t.2.2.set (j - t.2.1.length) v)
theorem zct {t:Th} {j:Nat} {v:Int}:thTri (setF t j v) = thTri t:=by
 unfold setF
 split <;> simp [thTri]
theorem zja {t:Th} {j:Nat} {v:Int}:(setF t j v).1 = t.1:=by
 unfold setF
 split <;> rfl
theorem zfM {t:Th} {j:Nat} {v:Int} (h:j < t.2.1.length + t.2.2.length) (z:Int):zay (setF t j v) z = if z = t.1 + 1 + j then some v else zay t z:=by
 unfold setF
 split
 ·rename_i c
  exact zeF c
 ·rename_i c
  rw [zeJ (by omega),show t.1 + 1 + (t.2.1.length:Int) + ((j - t.2.1.length:Nat):Int) = t.1 + 1 + j by omega]
noncomputable def zg0 (C:Addr):Sp:=fun vs H Q _=>∃ (g:Addr->Tag) (y:Yd) (tl:Addr) (as:List (Addr × Addr × Addr)) (ts:List Th) (t:Th) (s f v:Int) (k j:Nat),vs = [.ref y.p,.ref tl,.int k,.int j,.int v]∧YardAt C H y (zav ts) (ts.map thTri) f∧RowsAt HO.lst H tl as ts∧zdS g 0 as∧Lay s ts f∧ts.length ≤ 1000 ∧
 ts[k]? = some t∧j < t.2.1.length + t.2.2.length∧(t.1 + 1 + j).natAbs.log2 < 1920∧(g tl).1 ≠ 2 ∧
 ∀ H',YardAt C H' y (zav (ts.set k (setF t j v))) ((ts.set k (setF t j v)).map thTri) f->RowsAt HO.lst H' tl as (ts.set k (setF t j v))->Fr (fun q=>q = y.dw ∨ (g q).1 = 2) H H'->Q .non H'
set_option maxHeartbeats 1000000 in
theorem zcl (T:Txt K mg a):FnOk P w K mg base (CX1 P w) 2 a.f_law_field a.d_law_field ["yard","things","k","j","worth"] (zg0 a.c_Yard):=by
 refine T.F_law_field.okC sc_law_field (fun vs H Q E h=>?_) (fun cdv A outer s H vs Q E hr h=>?_)
 ·obtain ⟨g,y,tl,as,ts,t,s,f,v,k,j,rfl,_⟩:=h
  rfl
 ·obtain ⟨g,y,tl,as,ts,t,s,f,v,k,j,rfl,hy,R,tg,L,lt,hk,hj,ls,gt,q⟩:=h
  have hu:=zaX hr
  refine ⟨_,(zac (zbI (zax ix_F (pv 1) (pv 2) (fun _ _=>rfl)) (zc4 (n:=3) (by rfl) (zaN (zas (i:=5) sc_law_field.nd (by rfl) (Or.inl rfl)) (zaN (zas (i:=6) sc_law_field.nd (by rfl) (Or.inl rfl)) (zaN (zas (i:=7) sc_law_field.nd (by rfl) (Or.inl rfl)) pgs_nil)))))
   (zac (za2 (zaH (pv 0) T.cl_Yard T.M_Yard_set_word (zbp T) (hr.mono (by decide)) T.b_Yard_set_word .nil zao (zaa (zat op_add (zat op_add (pv 5) zab) (pv 3)) (zaa (pv 4) pa_nil))))
   (zaf (zaS (zar op_lt (pv 3) (zam call_lenF (by rfl) T.z_len (by decide +kernel) (zaa (pv 6) pa_nil)) (zaw _)) (zaf (zbI (pv 4) (zcL (pv 6) (pv 3) set_list))) (zaf (zbI (pv 4) (zcL (pv 7) (zat op_sub (pv 3) (zam call_lenF (by rfl) T.z_len (by decide +kernel) (zaa (pv 6) pa_nil))) set_list))))))),?_⟩
  have top:=R.top
  have hp:=hy.ins
  obtain ⟨b,hb,e1,e2,e3⟩:=R.at_ hk
  have mt:=List.mem_of_getElem? hk
  have hat:atI (as.map fun a=>V.ref a.1) ((k:Nat):Int) = some (V.ref b.1):=zaU (by rw [List.getElem?_map,hb]; rfl)
  simp! [top,hat]
  refine zcc e1 rfl ?_
  simp! [hp,zaI]
  have sz:thSz t = 1 + t.2.1.length + t.2.2.length:=rfl
  have wd:zav ts (t.1 + 1 + j) = zay t (t.1 + 1 + j):=L.word mt (by omega) (by omega)
  refine ⟨y,t.1 + 1 + j,v,f,_,_,rfl,hy,by rw [List.length_map]; exact lt,ls,fun x H1 hx nh Y1 F1=>?_,fun hn=>?_⟩
  ·have R1:RowsAt HO.lst H1 tl as ts:=zhr R F1 (fun q xs e h=>by
    obtain ⟨kw,hw,_⟩:=hy.words
    rw [show q = y.dw from e,hw] at h
    cases h)
   obtain ⟨e1',e2',e3'⟩:=R1.row k b t hb hk
   obtain ⟨tg1,tg2⟩:=tg k b hb
   have hl:Laid1 ts (ts.set k (setF t j v)) k t (setF t j v) (t.1 + 1 + j) v:=⟨rfl,zfM hj,zct⟩
   have em:=zaZ hk hl.tri
   have wn:zav (ts.take k) (t.1 + 1 + j) = none:=by
    cases e:zav (ts.take k) (t.1 + 1 + j) with
    | none=>rfl
    | some w' =>
     exfalso
     obtain ⟨u,hu',eu⟩:=List.exists_of_findSome?_eq_some e
     have mu:u ∈ ts:=List.mem_of_mem_take hu'
     have nn:¬ (t.1 + 1 + (j:Int) < u.1 ∨ u.1 + thSz u ≤ t.1 + 1 + j):=fun c=>by rw [zaF.mpr c] at eu; cases eu
     obtain ⟨iu,hiu,eiu⟩:=List.getElem_of_mem hu'
     rw [List.getElem_take] at eiu
     have hik:iu < k:=by rw [List.length_take] at hiu; omega
     have hiu2:iu < ts.length:=by rw [List.length_take] at hiu; omega
     have r1:=List.pairwise_iff_getElem.mp L.rising iu k (by rw [List.length_map]; exact hiu2) (by rw [List.length_map]; exact (List.getElem?_eq_some_iff.mp hk).1) hik
     rw [List.getElem_map,List.getElem_map,eiu,(List.getElem?_eq_some_iff.mp hk).2] at r1
     have:=L.apart mu mt r1
     omega
   have fin:∀ (qa:Addr) (old new:List V),H1 qa = some (.lst old)->((qa = b.2.1∧new = (setF t j v).2.1.map V.int∧(setF t j v).2.2 = t.2.2) ∨ (qa = b.2.2∧new = (setF t j v).2.2.map V.int∧(setF t j v).2.1 = t.2.1))->Q .non (upd H1 qa (.lst new)):=fun qa old new ho hc=>by
    have gq:(g qa).1 = 2:=by rcases hc with ⟨rfl,_⟩ | ⟨rfl,_⟩ <;> simp [tg1,tg2]
    have F3:Fr (· = qa) H1 (upd H1 qa (.lst new)):=.put rfl (zcb ho)
    obtain ⟨kw,hw2,_⟩:=Y1.words
    obtain ⟨ks,hs2,_⟩:=Y1.sizes
    refine q _ ?_ ⟨?_,by rw [List.length_set]; exact R.len,fun k' a' t'' ha ht''=>?_⟩ ((F1.mono fun q e=>.inl e).trans (F3.mono fun q e=>.inr (by rw [show q = qa from e]; exact gq)))
    ·rw [em,← hl.words hk wn]
     exact Y1.fr F3 (fun e=>by rw [← e,Y1.ins] at ho; cases ho) (fun e=>by rw [← e,hw2] at ho; cases ho) (fun e=>by rw [← e,hs2] at ho; cases ho)
    ·exact F3.keep _ _ R1.top (fun e=>gt (by rw [show tl = qa from e]; exact gq))
    ·by_cases c:k' = k
     ·subst c
      rw [hb] at ha; cases ha
      rw [List.getElem?_set_self (List.getElem?_eq_some_iff.mp hk).1] at ht''
      cases ht''
      rw [zja]
      rcases hc with ⟨rfl,rfl,e⟩ | ⟨rfl,rfl,e⟩
      ·refine ⟨F3.tups _ _ e1',zad,?_⟩
       rw [e]
       exact F3.keep _ _ e3' (fun z=>by have:=congrArg g z; rw [tg1,tg2] at this; simp at this)
      ·refine ⟨F3.tups _ _ e1',?_,zad⟩
       rw [e]
       exact F3.keep _ _ e2' (fun z=>by have:=congrArg g z; rw [tg1,tg2] at this; simp at this)
     ·rw [List.getElem?_set_ne (fun e=>c e.symm)] at ht''
      obtain ⟨r1,r2,r3⟩:=R1.row k' a' t'' ha ht''
      obtain ⟨g1,g2⟩:=tg k' a' ha
      refine ⟨F3.tups _ _ r1,F3.keep _ _ r2 (fun z=>?_),F3.keep _ _ r3 (fun z=>?_)⟩
      ·rcases hc with ⟨e,_⟩ | ⟨e,_⟩ <;> (have:=congrArg g (z.trans e); rw [g1] at this; simp [tg1,tg2] at this <;> exact c this)
      ·rcases hc with ⟨e,_⟩ | ⟨e,_⟩ <;> (have:=congrArg g (z.trans e); rw [g2] at this; simp [tg1,tg2] at this <;> exact c this)
   refine ⟨t.2.1.length,by rw [e2',zbl,List.length_map],ite2 (fun c=>?_) fun c=>?_⟩
   ·have c':j < t.2.1.length:=by omega
    refine ⟨_,e2',j,by rw [List.length_map]; exact zhN (by omega) (by omega),fin b.2.1 _ _ e2' (.inl ⟨rfl,?_,?_⟩)⟩
    ·unfold setF; rw [if_pos c',List.map_set]
    ·unfold setF; rw [if_pos c']
   ·have c':¬ j < t.2.1.length:=by omega
    have ej:(j:Int) - (t.2.1.length:Int) = ((j - t.2.1.length:Nat):Int):=by omega
    refine ⟨t.2.1.length,by rw [e2',zbl,List.length_map],_,e3',j - t.2.1.length,by rw [List.length_map,ej]; exact zhN (by omega) (by omega),fin b.2.2 _ _ e3' (.inr ⟨rfl,?_,?_⟩)⟩
    ·unfold setF; rw [if_neg c',List.map_set]
    ·unfold setF; rw [if_neg c']
  ·exfalso
   rcases hn with hn | ⟨u,hu',eu⟩
   ·rw [wd] at hn
    have:=zaF.mp hn
    omega
   ·obtain ⟨t',ht',rfl⟩:=List.mem_map.mp hu'
    have e':t'.1 = t.1 + 1 + j:=eu
    have:=L.apart mt ht' (by omega)
    omega
end
section
variable {P:Program} {w:World} {K:PySem.W.Frag} {mg:Str->Option Value} {base:Heap} {a:Ad}
structure Wo (C b c tl:Addr) (yd:Yd) (cs:List Int) (g:Addr->Tag) (H:Hp) (as:List (Addr × Addr × Addr)) (ts:List Th) (s fr:Int):Prop where
 bag:BagAt H b c cs
 yard:YardAt C H yd (zav ts) (ts.map thTri) fr
 rows:RowsAt HO.lst H tl as ts
 tags:zdS g 0 as
 lay:Lay s ts fr
 small:∀ t ∈ ts,t.2.1.length ≤ 9∧t.2.2.length ≤ 9
 gb:g b = (0,0,0)
 gc:g c = (0,1,0)
 gtl:g tl = (1,0,0)
 gp:g yd.p = (10,0,0)
 gdw:g yd.dw = (10,0,1)
 gds:g yd.ds = (10,0,2)
section
variable {C b c tl:Addr} {yd:Yd} {cs:List Int} {g:Addr->Tag} {H H':Hp} {as:List (Addr × Addr × Addr)} {ts:List Th} {s fr:Int} {M:Addr->Prop}
theorem Wo.drawn (x:Wo C b c tl yd cs g H as ts s fr) (hb:BagAt H' b c cs) (k:Kp b H H'):Wo C b c tl yd cs g H' as ts s fr:=by
 have f:=x.bag.kfr k
 have n:∀ q,g q ≠ (0,0,0)->¬ q = b:=fun q h e=>h (by rw [e]; exact x.gb)
 exact ⟨hb,x.yard.fr f (n _ (by rw [x.gp]; simp)) (n _ (by rw [x.gdw]; simp)) (n _ (by rw [x.gds]; simp)),x.rows.fr f x.tags (n _ (by rw [x.gtl]; simp)) (fun q hq=>n q (fun e=>by rw [e] at hq; simp at hq)),x.tags,x.lay,x.small,x.gb,x.gc,x.gtl,x.gp,x.gdw,x.gds⟩
theorem Wo.same (x:Wo C b c tl yd cs g H as ts s fr) (S:Same H H'):Wo C b c tl yd cs g H' as ts s fr :=
 ⟨x.bag.keep S,x.yard.same S,x.rows.same S,x.tags,x.lay,x.small,x.gb,x.gc,x.gtl,x.gp,x.gdw,x.gds⟩
theorem Wo.retag (x:Wo C b c tl yd cs g H as ts s fr) {p:Addr} (hp:H p = none) (t:Tag):Wo C b c tl yd cs (gset g p t) H as ts s fr:=by
 have n:∀ q o,H q = some o->gset g p t q = g q:=fun q o h=>zdm (zah h hp)
 obtain ⟨kb,hb⟩:∃ o,H b = some o:=by obtain ⟨⟨i,v,s,n,e,_⟩,_⟩:=x.bag; exact ⟨_,e⟩
 obtain ⟨kw,hw,_⟩:=x.yard.words
 obtain ⟨ks,hs,_⟩:=x.yard.sizes
 exact ⟨x.bag,x.yard,x.rows,x.rows.retag x.tags hp,x.lay,x.small,by rw [n _ _ hb]; exact x.gb,by rw [n _ _ x.bag.at_]; exact x.gc,by rw [n _ _ x.rows.top]; exact x.gtl,by rw [n _ _ x.yard.ins]; exact x.gp,by rw [n _ _ hw]; exact x.gdw,by rw [n _ _ hs]; exact x.gds⟩
end
theorem BagAt.fr' {H H':Hp} {b c:Addr} {cs:List Int} {M:Addr->Prop} (x:BagAt H b c cs) (f:Fr M H H') (h1:¬ M b) (h2:¬ M c):BagAt H' b c cs:=by
 obtain ⟨⟨i,v,st,n,e,k⟩,h3,ne,pos,len⟩:=x
 exact ⟨⟨i,v,st,n,f.keep _ _ e h1,k⟩,f.keep _ _ h3 h2,ne,pos,len⟩
theorem Wo.made {C b c tl:Addr} {yd:Yd} {cs:List Int} {g:Addr->Tag} {H H3 H4:Hp} {as:List (Addr × Addr × Addr)} {ts:List Th} {s fr:Int} (x:Wo C b c tl yd cs g H as ts s fr) {h m:Nat} (h9:h ≤ 9) (m9:m ≤ 9)
  (Y:YardAt C H3 yd (zgD (zav ts) fr h m) (ts.map thTri ++ [(fr,(h:Int),(m:Int))]) (fr + 1 + h + m)) (F:Fr (YM yd) H H3) (S:Same H3 H4) {ha na tp:Addr} (n1:H3 ha = none) (n2:H3 na = none) (hn:ha ≠ na)
  (e1:H4 ha = some (.lst ((List.replicate h (0:Int)).map V.int))) (e2:H4 na = some (.lst ((List.replicate m (0:Int)).map V.int))) (e3:H4 tp = some (.tup [.int fr,.ref ha,.ref na])) :
  H4 tl = some (.lst (as.map fun a=>V.ref a.1))∧∃ g',Wo C b c tl yd cs g' (upd H4 tl (.lst (as.map (fun a=>V.ref a.1) ++ [V.ref tp]))) (as ++ [(tp,ha,na)]) (ts ++ [(fr,List.replicate h 0,List.replicate m 0)]) s (fr + 1 + h + m):=by
 obtain ⟨kw,hw,_⟩:=Y.words
 obtain ⟨ks,hs,_⟩:=Y.sizes
 have old:∀ q,H3 q = none->H q = none:=fun q hq=>by
  cases hc:H q with
  | none=>rfl
  | some o =>
   by_cases mq:YM yd q
   ·rcases mq with z | z | z
    ·rw [z,Y.ins] at hq; cases hq
    ·rw [z,hw] at hq; cases hq
    ·rw [z,hs] at hq; cases hq
   ·rw [F.keep q o hc mq] at hq; cases hq
 have X:=(x.retag (old _ n1) (2,ts.length,1)).retag (old _ n2) (2,ts.length,2)
 have ga:gset (gset g ha (2,ts.length,1)) na (2,ts.length,2) ha = (2,ts.length,1):=by rw [zdm hn,zdV]
 have gn:gset (gset g ha (2,ts.length,1)) na (2,ts.length,2) na = (2,ts.length,2):=zdV
 revert X ga gn
 generalize gset (gset g ha (2,ts.length,1)) na (2,ts.length,2) = g'
 intro X ga gn
 have top:=X.rows.top
 have nYM:∀ {q},(g' q).1 ≠ 10->¬ YM yd q:=fun h m=>by
  rcases m with z | z | z
  ·rw [z,X.gp] at h; exact h rfl
  ·rw [z,X.gdw] at h; exact h rfl
  ·rw [z,X.gds] at h; exact h rfl
 have top4:=S _ _ (F.keep _ _ top (nYM (by rw [X.gtl]; simp)))
 refine ⟨top4,g',?_⟩
 have F4:Fr (· = tl) H4 (upd H4 tl (.lst (as.map (fun a=>V.ref a.1) ++ [V.ref tp]))):=.put rfl (zcb top4)
 have Y4:=Y.same S
 obtain ⟨kw,hw,_⟩:=Y4.words
 obtain ⟨ks,hs,_⟩:=Y4.sizes
 have FA:Fr (fun q=>YM yd q ∨ q = tl) H (upd H4 tl (.lst (as.map (fun a=>V.ref a.1) ++ [V.ref tp]))):=((F.mono fun q m=>.inl m).trans (.of_same S)).trans (F4.mono fun q m=>.inr m)
 have nFA:∀ {q},(g' q).1 ≠ 10->(g' q).1 ≠ 1->¬ (YM yd q ∨ q = tl):=fun h1 h2 m=>by
  rcases m with m | m
  ·exact nYM h1 m
  ·rw [m,X.gtl] at h2; exact h2 rfl
 have L:=X.lay
 have W:=L.newWord (h:=h) (m:=m)
 refine ⟨X.bag.fr' FA (nFA (by rw [X.gb]; simp) (by rw [X.gb]; simp)) (nFA (by rw [X.gc]; simp) (by rw [X.gc]; simp)),?_,⟨?_,?_,?_⟩,?_,?_,?_,X.gb,X.gc,X.gtl,X.gp,X.gdw,X.gds⟩
 ·rw [List.map_append]
  have eW:zgD (zav ts) fr h m = zav (ts ++ [(fr,List.replicate h 0,List.replicate m 0)]):=funext fun u=>(W u).symm
  have eT:[(fr,(h:Int),(m:Int))] = [((fr,List.replicate h 0,List.replicate m 0):Th)].map thTri:=by simp [thTri]
  rw [eW,eT] at Y4
  exact Y4.fr F4 (fun m=>by rw [← m,Y4.ins] at top4; cases top4) (fun m=>by rw [← m,hw] at top4; cases top4) (fun m=>by rw [← m,hs] at top4; cases top4)
 ·rw [List.map_append]; exact zad
 ·rw [List.length_append,List.length_append,X.rows.len]; rfl
 ·intro k a t hk ht
  by_cases d:k < ts.length
  ·rw [List.getElem?_append_left (by rw [X.rows.len]; exact d)] at hk
   rw [List.getElem?_append_left d] at ht
   obtain ⟨r1,r2,r3⟩:=X.rows.row k a t hk ht
   obtain ⟨g1,g2⟩:=X.tags k a hk
   exact ⟨FA.tups _ _ r1,FA.keep _ _ r2 (nFA (by rw [g1]; simp) (by rw [g1]; simp)),FA.keep _ _ r3 (nFA (by rw [g2]; simp) (by rw [g2]; simp))⟩
  ·have hk':k = ts.length:=by
    have:=(List.getElem?_eq_some_iff.mp ht).1
    simp at this; omega
   subst hk'
   rw [← X.rows.len,List.getElem?_append_right (Nat.le_refl _),Nat.sub_self] at hk
   cases hk
   rw [List.getElem?_append_right (Nat.le_refl _),Nat.sub_self] at ht
   cases ht
   refine ⟨F4.tups _ _ e3,F4.keep _ _ e1 (fun m=>?_),F4.keep _ _ e2 (fun m=>?_)⟩
   ·have:=X.gtl; rw [← m,ga] at this; simp at this
   ·have:=X.gtl; rw [← m,gn] at this; simp at this
 ·intro k a hk
  by_cases d:k < as.length
  ·rw [List.getElem?_append_left d] at hk
   exact X.tags k a hk
  ·have hk':k = as.length:=by
    have:=(List.getElem?_eq_some_iff.mp hk).1
    simp at this; omega
   subst hk'
   rw [List.getElem?_append_right (Nat.le_refl _),Nat.sub_self] at hk
   cases hk
   rw [X.rows.len]
   exact ⟨ga,gn⟩
 ·have:=L.snoc (t:=(fr,List.replicate h 0,List.replicate m 0)) rfl
  rw [show fr + thSz (fr,List.replicate h 0,List.replicate m 0) = fr + 1 + h + m by unfold thSz; simp; omega] at this
  exact this
 ·intro t ht
  rcases List.mem_append.mp ht with ht | ht
  ·exact X.small t ht
  ·rw [List.mem_singleton.mp ht]; simp; omega
theorem Wo.set {C b c tl:Addr} {yd:Yd} {cs:List Int} {g:Addr->Tag} {H H':Hp} {as:List (Addr × Addr × Addr)} {ts ts':List Th} {s fr:Int} (x:Wo C b c tl yd cs g H as ts s fr) (Y:YardAt C H' yd (zav ts') (ts'.map thTri) fr) (R:RowsAt HO.lst H' tl as ts') (em:ts'.map thTri = ts.map thTri) (F:Fr (fun q=>q = yd.dw ∨ (g q).1 = 2) H H') :
  Wo C b c tl yd cs g H' as ts' s fr:=by
 have n:∀ {q},(g q).1 = 0->¬ (q = yd.dw ∨ (g q).1 = 2):=fun h m=>by
  rcases m with m | m
  ·rw [m,x.gdw] at h; simp at h
  ·omega
 refine ⟨x.bag.fr' F (n (by rw [x.gb])) (n (by rw [x.gc])),Y,R,x.tags,Lay.of_tri em.symm x.lay,fun t ht=>?_,x.gb,x.gc,x.gtl,x.gp,x.gdw,x.gds⟩
 have:thTri t ∈ ts.map thTri:=by rw [← em]; exact List.mem_map.mpr ⟨t,ht,rfl⟩
 obtain ⟨u,hu,eu⟩:=List.mem_map.mp this
 have:=x.small u hu
 simp [thTri] at eu
 omega
end
section
variable {P:Program} {w:World} {K:PySem.W.Frag} {mg:Str->Option Value} {base:Heap} {a:Ad}
noncomputable def NL (L:List Addr) (H:Hp):Prop:=L.Nodup∧∀ q ∈ L,∃ o,H q = some o
theorem NL.same {L:List Addr} {H H':Hp} (x:NL L H) (s:Same H H'):NL L H':=⟨x.1,fun q hq=>by obtain ⟨o,e⟩:=x.2 q hq; exact ⟨o,s _ _ e⟩⟩
theorem NL.add {L:List Addr} {H H':Hp} {p:Addr} {o:HO} (x:NL L H) (hp:H p = none) (s:Same H H') (h:H' p = some o):NL (p :: L) H' :=
 ⟨List.nodup_cons.mpr ⟨fun hq=>(by obtain ⟨o,e⟩:=x.2 p hq; rw [hp] at e; cases e),x.1⟩,fun q hq=>by
  rcases List.mem_cons.mp hq with e | hq
  ·rw [e]; exact ⟨o,h⟩
  ·obtain ⟨o,e⟩:=x.2 q hq; exact ⟨o,s _ _ e⟩⟩
noncomputable def zg7 (L:List Addr) (tags:List Tag) (q:Addr):Tag:=tags.getD (L.idxOf q) (99,0,0)
theorem zc6 {L:List Addr} {tags:List Tag} {i:Nat} {q:Addr} (h:L.Nodup) (hq:L[i]? = some q):zg7 L tags q = tags.getD i (99,0,0):=by
 obtain ⟨hi,e⟩:=List.getElem?_eq_some_iff.mp hq
 unfold zg7
 rw [← e,h.idxOf_getElem i hi]
theorem zfN {z:Int} (h:z.natAbs < 2 ^ 1920):z.natAbs.log2 < 1920:=by
 by_cases c:z.natAbs = 0
 ·rw [c]; decide
 ·exact (Nat.log2_lt c).mpr h
theorem Lay.bound:∀ {ts:List Th} {s f:Int},Lay s ts f->(∀ t ∈ ts,t.2.1.length ≤ 9∧t.2.2.length ≤ 9)->f ≤ s + 19 * ts.length
 | [],s,f,h,_=>by cases (show f = s from h); simp
 | u :: r,s,f,⟨h1,h2⟩,sm=>by
  have:=Lay.bound h2 (fun t ht=>sm t (List.mem_cons_of_mem _ ht))
  have:=sm u List.mem_cons_self
  unfold thSz at *
  rw [List.length_cons]
  omega
theorem zhu {s f r:Int} (h1:1 ≤ s) (h2:s ≤ 10 ^ 59) (h3:f ≤ s + 10 ^ 9) (r0:s - 2 ≤ r) (r1:r ≤ f + 1):r.natAbs.log2 < 1920:=by
 refine zfN ?_
 have:(10:Nat) ^ 60 < 2 ^ 1920:=by decide
 have:(10:Int) ^ 59 + 10 ^ 9 + 1 ≤ ((10 ^ 60:Nat):Int):=by decide
 omega
noncomputable def zcJ (ts:List Th):Prop:=∀ t ∈ ts,∀ h ∈ t.2.1,h = 0 ∨ ∃ u ∈ ts,u.1 = h
theorem zgY {a b:List Th} (e:a.map thTri = b.map thTri) {z:Int} (h:∃ u ∈ a,u.1 = z):∃ u ∈ b,u.1 = z:=by
 obtain ⟨u,hu,rfl⟩:=h
 have:thTri u ∈ b.map thTri:=by rw [← e]; exact List.mem_map.mpr ⟨u,hu,rfl⟩
 obtain ⟨v,hv,ev⟩:=List.mem_map.mp this
 exact ⟨v,hv,congrArg (·.1) ev⟩
theorem zcJ.set {ts:List Th} {k j:Nat} {t:Th} {v:Int} (g:zcJ ts) (hk:ts[k]? = some t) (hv:j < t.2.1.length->v = 0 ∨ ∃ u ∈ ts,u.1 = v):zcJ (ts.set k (setF t j v)):=by
 have em:=zaZ (f:=thTri) hk (zct (t:=t) (j:=j) (v:=v))
 have up:∀ {h},(h = 0 ∨ ∃ u ∈ ts,u.1 = h)->(h = 0 ∨ ∃ u ∈ ts.set k (setF t j v),u.1 = h):=fun h=>h.imp id (zgY em.symm)
 intro u hu h hh
 rcases List.mem_or_eq_of_mem_set hu with m | e
 ·exact up (g u m h hh)
 ·subst e
  have mt:=List.mem_of_getElem? hk
  unfold setF at hh
  split at hh
  ·rename_i c
   rcases List.mem_or_eq_of_mem_set hh with m | e
   ·exact up (g t mt h m)
   ·rw [e]; exact up (hv c)
  ·exact up (g t mt h hh)
noncomputable def zgb (C:Addr):Sp:=fun vs H Q _=>∃ (b c:Addr) (yd:Yd) (cs:List Int) (s:Int),vs = [.ref b,.ref yd.p]∧BagAt H b c cs∧YardAt C H yd (fun _=>none) [] s∧NL [yd.ds,yd.dw,yd.p,c,b] H∧1 ≤ s∧s ≤ 10 ^ 59 ∧
 ∀ (tl:Addr) (g:Addr->Tag) (as:List (Addr × Addr × Addr)) (ts:List Th) (fr:Int) (H':Hp),Wo C b c tl yd cs g H' as ts s fr->0 < ts.length->ts.length ≤ 400->zcJ ts->Q (.ref tl) H'
set_option maxHeartbeats 2000000 in
theorem zdI (T:Txt K mg a):FnOk P w K mg base (CX1 P w) 3 a.f_law_filled a.d_law_filled ["bag","yard"] (zgb a.c_Yard):=by
 refine T.F_law_filled.okC sc_law_filled (fun vs H Q E h=>?_) (fun cdv A outer s H vs Q E hr h=>?_)
 ·obtain ⟨b,c,yd,cs,s,rfl,_⟩:=h
  rfl
 ·obtain ⟨b,c,yd,cs,s,rfl,hb,hy,N,s0,s1,q⟩:=h
  have hu:=zaX hr
  refine ⟨_,(zac (zau (i:=2) sc_law_filled.nd (by rfl) (Or.inl rfl) (zai (zeA T) (hr.mono (by decide)) (by rfl) T.m_law_many T.F_law_many.kp T.b_law_many .nil zao (zaa (pv 0) pa_nil)))
   (zac (zau (i:=3) sc_law_filled.nd (by rfl) (Or.inl rfl) (zai (zaj T) (hr.mono (by decide)) (by rfl) T.m_law_draw T.F_law_draw.kp T.b_law_draw .nil zao (zaa (pv 0) (zaa zab pa_nil))))
   (zac (zau (i:=4) sc_law_filled.nd (by rfl) (Or.inl rfl) (zbu pa_nil))
   (zac (za6 PassesOwn.never (by rfl) (za1 (by rfl) T.z_range (zaa (pv 2) pa_nil)) (zas (i:=5) sc_law_filled.nd (by rfl) (Or.inl rfl))
   (zac (zbI (zai (zev T) (hr.mono (by decide)) (by rfl) T.m_law_size T.F_law_size.kp T.b_law_size .nil zao (zaa (pv 0) pa_nil)) (zc4 (n:=2) (by rfl) (zaN (zas (i:=6) sc_law_filled.nd (by rfl) (Or.inl rfl)) (zaN (zas (i:=7) sc_law_filled.nd (by rfl) (Or.inl rfl)) pgs_nil))))
   (zac (zau (i:=6) sc_law_filled.nd (by rfl) (Or.inl rfl) (zam (zfS (by rfl)) (by rfl) T.z_max (by decide +kernel) (zaa (pv 6) (zaa (zaR call_int1 (by rfl) T.z_int (by decide +kernel) (zaa (zbM op_gt (pv 3) zab (zaw _)) pa_nil)) pa_nil))))
   (zaf (za2 (zgj PySem.F.plainAttrs_list PySem.F.slot_list_append PySem.F.type_list_append mt_append (pv 4) (zaa (zcW (zaa (zaH (pv 1) T.cl_Yard T.M_Yard_make (zck T) (hr.mono (by decide)) T.b_Yard_make .nil zao (zaa (pv 6) (zaa (pv 7) pa_nil))) (zaa (zat op_rep (zbu (zaa zab pa_nil)) (pv 6)) (zaa (zat op_rep (zbu (zaa zab pa_nil)) (pv 7)) pa_nil)))) pa_nil)))))))
   (zac (za6 PassesOwn.never (by rfl) (za1 (by rfl) T.z_range (zaa (pv 2) pa_nil)) (zas (i:=5) sc_law_filled.nd (by rfl) (Or.inl rfl))
   (zac (za6 PassesOwn.never (by rfl) (za1 (by rfl) T.z_range (zaa (zam call_lenF (by rfl) T.z_len (by decide +kernel) (zaa (zax ix_F (zax ix_F (pv 4) (pv 5) (fun _ _=>rfl)) zab (fun _ _=>rfl)) pa_nil)) pa_nil)) (zas (i:=8) sc_law_filled.nd (by rfl) (Or.inl rfl))
   (zaf (za2 (zai (zcl T) (hr.mono (by decide)) (by rfl) T.m_law_field T.F_law_field.kp T.b_law_field .nil zao (zaa (pv 1) (zaa (pv 4) (zaa (pv 5) (zaa (pv 8) (zaa (zai (zcX T) (hr.mono (by decide)) (by rfl) T.m_law_hold T.F_law_hold.kp T.b_law_hold .nil zao (zaa (pv 0) (zaa (pv 4) (zaa (pv 5) (zaa (zat op_mul (pv 3) (zaR call_int1 (by rfl) T.z_int (by decide +kernel) (zaa (zbM op_eq (pv 8) zab (zaw _)) pa_nil))) pa_nil))))) pa_nil)))))))))
   (zaf (za6 PassesOwn.never (by rfl) (za1 (by rfl) T.z_range (zaa (zam call_lenF (by rfl) T.z_len (by decide +kernel) (zaa (zax ix_F (zax ix_F (pv 4) (pv 5) (fun _ _=>rfl)) zab (fun _ _=>rfl)) pa_nil)) pa_nil)) (zas (i:=8) sc_law_filled.nd (by rfl) (Or.inl rfl))
   (zaf (za2 (zai (zcl T) (hr.mono (by decide)) (by rfl) T.m_law_field T.F_law_field.kp T.b_law_field .nil zao (zaa (pv 1) (zaa (pv 4) (zaa (pv 5) (zaa (zat op_add (zam call_lenF (by rfl) T.z_len (by decide +kernel) (zaa (zax ix_F (zax ix_F (pv 4) (pv 5) (fun _ _=>rfl)) zab (fun _ _=>rfl)) pa_nil)) (pv 8)) (zaa (zai (zdL T) (hr.mono (by decide)) (by rfl) T.m_law_worth T.F_law_worth.kp T.b_law_worth .nil zao (zaa (pv 0) pa_nil)) pa_nil))))))))))))
   (zaf (zaq (pv 4)))))))),?_⟩
  have ydn:∀ q ∈ [yd.ds,yd.dw,yd.p],q ≠ b:=fun q hq e=>by
   have:=N.1
   simp only [List.nodup_cons,List.mem_cons,List.not_mem_nil,or_false,not_or] at this
   simp only [List.mem_cons,List.not_mem_nil,or_false] at hq
   rcases hq with rfl | rfl | rfl
   ·exact this.1.2.2.2 e
   ·exact this.2.1.2.2 e
   ·exact this.2.2.1.2 e
  simp! []
  refine ⟨b,c,cs,rfl,hb,fun many H1 m0 m1 hb1 k1=>?_⟩
  simp! []
  refine ⟨b,c,cs,3,rfl,hb1,by decide,by decide,fun chain H2 c0 c1 hb2 k2=>?_⟩
  simp! []
  intro tl ntl
  have k12:=k1.trans k2
  have F12:=hb.kfr k12
  have hy2:=hy.fr F12 (ydn _ (by simp)) (ydn _ (by simp)) (ydn _ (by simp))
  have S3:Same H2 (upd H2 tl (.lst [])):=.laid ntl
  have N2:NL [yd.ds,yd.dw,yd.p,c,b] H2:=⟨N.1,fun q hq=>by
   simp only [List.mem_cons,List.not_mem_nil,or_false] at hq
   obtain ⟨kw,hw,_⟩:=hy2.words
   obtain ⟨ks,hs,_⟩:=hy2.sizes
   rcases hq with rfl | rfl | rfl | rfl | rfl
   ·exact ⟨_,hs⟩
   ·exact ⟨_,hw⟩
   ·exact ⟨_,hy2.ins⟩
   ·exact ⟨_,hb2.at_⟩
   ·obtain ⟨⟨i,v,s,n,e,_⟩,_⟩:=hb2; exact ⟨_,e⟩⟩
  have N3:=N2.add ntl S3 zad
  have W0:Wo a.c_Yard b c tl yd cs (zg7 [tl,yd.ds,yd.dw,yd.p,c,b] [(1,0,0),(10,0,2),(10,0,1),(10,0,0),(0,1,0),(0,0,0)]) (upd H2 tl (.lst [])) [] [] s s :=
   ⟨hb2.keep S3,hy2.same S3,⟨zad,rfl,fun k a t h=>by simp at h⟩,fun k a h=>by simp at h,rfl,by simp,zc6 (i:=5) N3.1 rfl,zc6 (i:=4) N3.1 rfl,zc6 (i:=0) N3.1 rfl,zc6 (i:=3) N3.1 rfl,zc6 (i:=2) N3.1 rfl,zc6 (i:=1) N3.1 rfl⟩
  revert W0
  generalize zg7 [tl,yd.ds,yd.dw,yd.p,c,b] [(1,0,0),(10,0,2),(10,0,1),(10,0,0),(0,1,0),(0,0,0)] = g0
  generalize upd H2 tl (.lst []) = H3
  intro W0
  clear N3 N2 S3 hy2 F12 k12 ntl hb2 k2 hb1 k1 hb hy N ydn H2 H1
  obtain ⟨mN,rfl⟩:=Int.eq_ofNat_of_zero_le (by omega:0 ≤ many)
  refine for1 (H1:=H3) (mN:Int) (fun Q2 h2=>by simp! []; exact h2) (by omega) (by omega) (fun i σ H4=>∃ (g:Addr->Tag) (as:List (Addr × Addr × Addr)) (ts:List Th) (fr:Int) (v5 v6 v7 v8:Option V),σ = [some (.ref b),some (.ref yd.p),some (.int mN),some (.int chain),some (.ref tl),v5,v6,v7,v8]∧Wo a.c_Yard b c tl yd cs g H4 as ts s fr∧ts.length = i∧∀ t ∈ ts,∀ h ∈ t.2.1,h = 0)
   ⟨g0,[],[],s,_,_,_,_,rfl,W0,rfl,by simp⟩ ?_ ?_
  ·rintro i σ H4 hi ⟨g,as,ts,fr,v5,v6,v7,v8,rfl,W,li,zz⟩
   simp! []
   refine ⟨b,c,cs,rfl,W.bag,fun h m p H5 h0 h1 m0 m1 B5 hp5 k5=>?_⟩
   replace W:=W.drawn B5 k5
   refine zcc hp5 rfl ?_
   simp! []
   have o01:(if 0 < chain then (1:Int) else 0) = 0 ∨ (if 0 < chain then (1:Int) else 0) = 1:=by
    split
    ·exact .inr rfl
    ·exact .inl rfl
   have hh0:0 ≤ (if (if 0 < chain then (1:Int) else 0) > h then if 0 < chain then 1 else 0 else h):=by
    rcases o01 with e | e <;> rw [e] <;> split <;> omega
   have hh1:(if (if 0 < chain then (1:Int) else 0) > h then if 0 < chain then 1 else 0 else h) ≤ 9:=by
    rcases o01 with e | e <;> rw [e] <;> split <;> omega
   revert hh0 hh1
   generalize (if (if 0 < chain then (1:Int) else 0) > h then if 0 < chain then 1 else 0 else h) = h2
   intro hh0 hh1
   have b3:=W.yard.ins
   have top5:=W.rows.top
   simp! [b3,zaI,tBM]
   obtain ⟨hN,rfl⟩:=Int.eq_ofNat_of_zero_le hh0
   obtain ⟨mM,rfl⟩:=Int.eq_ofNat_of_zero_le m0
   refine ⟨.inl ⟨rfl,_,.of top5⟩,yd,hN,mM,fr,_,_,rfl,hh0,hh1,m0,m1,W.yard,?_,by rw [List.length_map]; omega,fun H6 Y6 F6=>?_⟩
   ·intro t ht
    obtain ⟨t',ht',rfl⟩:=List.mem_map.mp ht
    have:=W.lay.mem ht'
    have:=zaW t'
    show t'.1 ≠ fr
    omega
   have rep:∀ n:Nat,(List.replicate n [V.int 0]).flatten = (List.replicate n (0:Int)).map V.int:=fun n=>by
    induction n with
    | zero=>rfl
    | succ n ih=>rw [List.replicate_succ,List.flatten_cons,ih,List.replicate_succ]; rfl
   intro q1 nq1
   refine ⟨q1,hN,_,rfl,rfl,zad,by omega,by omega,by rw [sizeLine_eq]; simp; omega,fun ha nha=>?_⟩
   intro q2 nq2
   refine ⟨q2,mM,_,rfl,rfl,zad,by omega,by omega,by rw [sizeLine_eq]; simp; omega,fun na nna=>?_⟩
   intro tp ntp
   rw [show (hN:Int).toNat = hN from rfl,show (mM:Int).toNat = mM from rfl,rep,rep]
   rw [show (hN:Int).toNat = hN from rfl,rep] at nq2 nna ntp
   rw [show (mM:Int).toNat = mM from rfl,rep] at ntp
   have Sa:Same H6 (upd H6 q1 (.lst [.int 0])):=.laid nq1
   have Sb:=Sa.step nha (u:=.lst ((List.replicate hN (0:Int)).map V.int))
   have Sc:=Sb.step nq2 (u:=.lst [.int 0])
   have Sd:=Sc.step nna (u:=.lst ((List.replicate mM (0:Int)).map V.int))
   have Se:=Sd.step ntp (u:=.tup [.int fr,.ref ha,.ref na])
   obtain ⟨top6,g',W'⟩:=W.made (by omega) (by omega) Y6 F6 Se (Sa.free nha) (Sc.free nna) (zah (zan zad nq2) nna) (zan (zan (zan zad nq2) nna) ntp) (zan zad ntp) zad
   refine ⟨tl,_,V.ref tp,rfl,rfl,top6,by rw [sizeLine_eq,List.length_map,W.rows.len]; omega,g',_,_,_,W',by rw [List.length_append,li]; rfl,fun t ht z hz=>?_⟩
   rcases List.mem_append.mp ht with m | m
   ·exact zz t m z hz
   ·rw [List.mem_singleton.mp m] at hz
    exact List.eq_of_mem_replicate hz
  ·rintro σ H4 ⟨g,as,ts0,fr,v5,v6,v7,v8,rfl,W,li,zz⟩
   have g0:zcJ ts0:=fun t ht h hh=>.inl (zz t ht h hh)
   simp! []
   have lb:=Law.Lay.bound W.lay W.small
   have p9:(19 * 400:Int) ≤ 10 ^ 9:=by decide
   have lg:∀ (ts:List Th) (t:Th) (j:Nat),Lay s ts fr->t ∈ ts->j < t.2.1.length + t.2.2.length->(t.1 + 1 + (j:Int)).natAbs.log2 < 1920:=fun ts t j L mt hj=>by
    have:=L.mem mt
    have e:thSz t = 1 + t.2.1.length + t.2.2.length:=rfl
    exact zhu s0 s1 (by omega:fr ≤ s + 10 ^ 9) (by omega) (by omega)
   refine for1 (H1:=H4) (mN:Int) (fun Q2 h2=>by simp! []; exact h2) (by omega) (by omega) (fun i σ H5=>∃ (ts:List Th) (v5 v6 v7 v8:Option V),σ = [some (.ref b),some (.ref yd.p),some (.int mN),some (.int chain),some (.ref tl),v5,v6,v7,v8]∧Wo a.c_Yard b c tl yd cs g H5 as ts s fr∧ts.map thTri = ts0.map thTri∧zcJ ts)
    ⟨ts0,_,_,_,_,rfl,W,rfl,g0⟩ ?_ ?_
   ·clear W g0 zz
    rintro i σ H5 hi ⟨ts,v5,v6,v7,v8,rfl,W,em,gd⟩
    have ln:ts.length = mN:=by
     have:=congrArg List.length em
     rw [List.length_map,List.length_map] at this
     have:(mN:Int).toNat = mN:=rfl
     omega
    have ik:i < ts.length:=by
     have:(mN:Int).toNat = mN:=rfl
     omega
    have at_:∀ {ts':List Th} {H':Hp},Wo a.c_Yard b c tl yd cs g H' as ts' s fr->ts'.map thTri = ts0.map thTri->∃ (bb:Addr × Addr × Addr) (t:Th),ts'[i]? = some t∧t ∈ ts'∧H' tl = some (.lst (as.map fun a=>V.ref a.1))∧atI (as.map fun a=>V.ref a.1) ((i:Nat):Int) = some (V.ref bb.1)∧H' bb.1 = some (.tup [.int t.1,.ref bb.2.1,.ref bb.2.2])∧H' bb.2.1 = some (.lst (t.2.1.map V.int))∧H' bb.2.2 = some (.lst (t.2.2.map V.int))∧thTri t = thTri ts[i]:=fun {ts' H'} W' em'=>by
     have e2:ts'.map thTri = ts.map thTri:=em'.trans em.symm
     have il:i < ts'.length:=by
      have:=congrArg List.length e2
      rw [List.length_map,List.length_map] at this
      omega
     have ht:=List.getElem?_eq_getElem il
     obtain ⟨bb,hbb,r1,r2,r3⟩:=W'.rows.at_ ht
     refine ⟨bb,ts'[i],ht,List.getElem_mem il,W'.rows.top,zaU (by rw [List.getElem?_map,hbb]; rfl),r1,r2,r3,?_⟩
     have:=congrArg (·[i]?) e2
     simp only [List.getElem?_map,ht,List.getElem?_eq_getElem ik,Option.map_some,Option.some.injEq] at this
     exact this
    simp! [Int.zero_add]
    refine ziH (fun n H6=>n = ts[i].2.1.length∧H6 = H5) (fun Q2 hQ=>?_) ?_
    ·obtain ⟨bb,t,ht,mt,r0,r1,r2,r3,r4,et⟩:=at_ W em
     simp! [r0,r1,r2,r3,List.length_map]
     refine hQ _ _ ⟨?_,rfl⟩
     have e:(t.2.1.length:Int) = ts[i].2.1.length:=congrArg (·.2.1) et
     exact e
    rintro n H6 ⟨rfl,rfl⟩
    refine for1 (H1:=H6) _ (fun Q2 h2=>h2) (by have:=W.small _ (List.getElem_mem ik); omega) (by have:=W.small _ (List.getElem_mem ik); omega) (fun j σ H7=>∃ (ts':List Th) (v6 v7 v8:Option V),σ = [some (.ref b),some (.ref yd.p),some (.int mN),some (.int chain),some (.ref tl),some (.int i),v6,v7,v8]∧Wo a.c_Yard b c tl yd cs g H7 as ts' s fr∧ts'.map thTri = ts0.map thTri∧zcJ ts')
     ⟨ts,_,_,_,rfl,W,em,gd⟩ ?_ ?_
    ·rintro j σ H7 hj ⟨ts',v6,v7,v8,rfl,W',em',gd'⟩
     obtain ⟨bb,t,ht,mt,r0,r1,r2,r3,r4,et⟩:=at_ W' em'
     have e21:(t.2.1.length:Int) = ts[i].2.1.length:=congrArg (·.2.1) et
     have jl:j < t.2.1.length:=by omega
     have ln':ts'.length = mN:=by
      have:=congrArg List.length em'
      rw [List.length_map,List.length_map] at this
      have:(mN:Int).toNat = mN:=rfl
      omega
     simp! [Int.zero_add]
     have c01:(if (j:Int) = 0 then (1:Int) else 0) = 0 ∨ (if (j:Int) = 0 then (1:Int) else 0) = 1:=by
      split
      ·exact .inr rfl
      ·exact .inl rfl
     refine ⟨.inl ⟨by omega,by omega⟩,b,c,tl,cs,as,ts',i,_,rfl,W'.bag,fun Hx Bx kx=>(W'.drawn Bx kx).rows,by omega,by omega,?_,?_,fun r H8 gr B8 k8=>?_⟩
     ·rcases c01 with e | e <;> rw [e] <;> omega
     ·rcases c01 with e | e <;> rw [e] <;> omega
     have W8:=W'.drawn B8 k8
     refine ⟨g,yd,tl,as,ts',t,s,fr,r,i,j,rfl,W8.yard,W8.rows,W8.tags,W8.lay,by omega,ht,by omega,lg ts' t j W8.lay mt (by omega),by rw [W8.gtl]; simp,fun H9 Y9 R9 F9=>?_⟩
     have em9:=zaZ (f:=thTri) ht (zct (t:=t) (j:=j) (v:=r))
     exact ⟨_,W8.set Y9 R9 em9 F9,em9.trans em',gd'.set ht fun _=>gr⟩
    ·rintro σ H7 ⟨ts',v6,v7,v8,rfl,W',em',gd'⟩
     clear W gd
     dsimp only
     refine ziH (fun n H8=>n = ts[i].2.2.length∧H8 = H7) (fun Q2 hQ=>?_) ?_
     ·obtain ⟨bb,t,ht,mt,r0,r1,r2,r3,r4,et⟩:=at_ W' em'
      simp! [r0,r1,r2,r4,List.length_map]
      have e:(t.2.2.length:Int) = ts[i].2.2.length:=congrArg (·.2.2) et
      exact hQ _ _ ⟨e,rfl⟩
     rintro n H8 ⟨rfl,rfl⟩
     have sm:ts[i].2.2.length ≤ 9:=by
      obtain ⟨bb,t,ht,mt,r0,r1,r2,r3,r4,et⟩:=at_ W' em'
      have e:(t.2.2.length:Int) = ts[i].2.2.length:=congrArg (·.2.2) et
      have:=W'.small t mt
      omega
     refine for1 (H1:=H8) _ (fun Q2 h2=>h2) (by omega) (by omega) (fun j σ H9=>∃ (ts':List Th) (v6 v7 v8:Option V),σ = [some (.ref b),some (.ref yd.p),some (.int mN),some (.int chain),some (.ref tl),some (.int i),v6,v7,v8]∧Wo a.c_Yard b c tl yd cs g H9 as ts' s fr∧ts'.map thTri = ts0.map thTri∧zcJ ts')
      ⟨ts',_,_,_,rfl,W',em',gd'⟩ ?_ ?_
     ·clear W' em' gd'
      rintro j σ H9 hj ⟨ts2,v6,v7,v8,rfl,W',em',gd'⟩
      obtain ⟨bb,t,ht,mt,r0,r1,r2,r3,r4,et⟩:=at_ W' em'
      have e22:(t.2.2.length:Int) = ts[i].2.2.length:=congrArg (·.2.2) et
      have ln':ts2.length = mN:=by
       have:=congrArg List.length em'
       rw [List.length_map,List.length_map] at this
       have:(mN:Int).toNat = mN:=rfl
       omega
      simp! [Int.zero_add,r0,r1,r2,r3,List.length_map]
      refine ⟨b,c,cs,rfl,W'.bag,fun r H10 B10 k10=>?_⟩
      have W10:=W'.drawn B10 k10
      refine ⟨g,yd,tl,as,ts2,t,s,fr,r,i,t.2.1.length + j,by rw [Int.natCast_add],W10.yard,W10.rows,W10.tags,W10.lay,by omega,ht,by omega,lg ts2 t _ W10.lay mt (by omega),by rw [W10.gtl]; simp,fun H11 Y11 R11 F11=>?_⟩
      have em11:=zaZ (f:=thTri) ht (zct (t:=t) (j:=t.2.1.length + j) (v:=r))
      exact ⟨_,W10.set Y11 R11 em11 F11,em11.trans em',gd'.set ht fun c=>absurd c (by omega)⟩
     ·rintro σ H9 ⟨ts2,v6,v7,v8,rfl,W',em',gd'⟩
      exact ⟨ts2,_,_,_,_,rfl,W',em',gd'⟩
   ·rintro σ H5 ⟨ts,v5,v6,v7,v8,rfl,W,em,gd⟩
    have ln:ts.length = mN:=by
     have:=congrArg List.length em
     rw [List.length_map,List.length_map] at this
     have:(mN:Int).toNat = mN:=rfl
     omega
    simp! []
    exact q tl g as ts fr H5 W (by omega) (by omega) gd
end
section
variable {P:Program} {w:World} {K:PySem.W.Frag} {mg:Str->Option Value} {base:Heap} {a:Ad}
noncomputable def sp_free:Sp:=fun vs H Q _=>∃ (tl:Addr) (as:List (Addr × Addr × Addr)) (ts:List Th) (s f:Int),vs = [.int s,.ref tl]∧RowsAt HO.lst H tl as ts∧Lay s ts f∧ts.length ≤ 1000∧∀ H',Same H H'->Q (.int f) H'
theorem zeQ (T:Txt K mg a):FnOk P w K mg base (CX1 P w) 1 a.f_law_free a.d_law_free ["start","things"] sp_free:=by
 refine T.F_law_free.okC sc_law_free (fun vs H Q E h=>?_) (fun cdv A outer s H vs Q E hr h=>?_)
 ·obtain ⟨tl,as,ts,s,f,rfl,_⟩:=h
  rfl
 ·obtain ⟨tl,as,ts,s,f,rfl,R,L,lt,q⟩:=h
  have hu:=zaX hr
  have top:=R.top
  refine ⟨_,(zaf (zaq (zat op_add (pv 0) (zam (zg9 (by rfl)) (by rfl) T.z_sum (by decide +kernel) (zaa (zbr (N':=["thing"]) (cap:=[none]) ⟨rfl,(by decide +kernel),(by decide +kernel),(by rfl),rfl,(by rfl)⟩ (by rfl) (zbc (pv 1)) (fun C_ ex_ s_ H_=>(zas (i:=0) (show (["thing"]:List Str).Nodup by decide +kernel) (by rfl) (Or.inl rfl))) za3 (fun C_ ex_ s_ H_=>zby) (fun C_ ex_ s_ H_=>(zat op_add (zat op_add zab (zam call_lenF (by rfl) T.z_len (by decide +kernel) (zaa (zax ix_F (pv 0) zab (fun _ _=>rfl)) pa_nil))) (zam call_lenF (by rfl) T.z_len (by decide +kernel) (zaa (zax ix_F (pv 0) zab (fun _ _=>rfl)) pa_nil))))) pa_nil))))),?_⟩
  simp! []
  refine zjo (H1:=H) tl _ ?_ (.of top) (fun D i ys H2=>ys = ((ts.take i).map thSz).map V.int∧H2 = upd H D (.lst ys)) (fun D hD=>⟨rfl,rfl⟩) ?_ (by rw [sizeLine_eq,List.length_map,R.len]; omega) ?_ ?_
  ·intro Q2 h2
   simp! []
   exact h2
  ·rintro D hD i ys H2 hi ⟨rfl,rfl⟩
   exact ⟨.of (zan top hD),zad,by simp; omega⟩
  ·rintro D hD i x ys H2 hi ⟨rfl,rfl⟩
   obtain ⟨b,hb,rfl⟩:=zaG hi
   have hi2:i < ts.length:=by rw [← R.len]; exact (List.getElem?_eq_some_iff.mp hb).1
   have ht:=List.getElem?_eq_getElem hi2
   obtain ⟨e1,e2,e3⟩:=R.row i b _ hb ht
   have S:=Same.laid (u:=.lst (((ts.take i).map thSz).map V.int)) hD
   have e1':=S _ _ e1
   have e2':=S _ _ e2
   have e3':=S _ _ e3
   simp! [tTrue,zaT,e1',e2',e3',List.length_map,zbb]
   rw [List.take_succ,ht,List.map_append,List.map_append]; rfl
  ·rintro D hD ys H2 ⟨rfl,rfl⟩
   have et:ts.take (as.map fun a=>V.ref a.1).length = ts:=by rw [List.length_map,R.len,List.take_length]
   rw [et]
   simp! [zad]
   refine ⟨ts.map thSz,rfl,?_⟩
   rw [← L.sum]
   exact q _ (.laid hD)
noncomputable def sp_roots:Sp:=fun vs H Q _=>∃ (b c tl:Addr) (cs:List Int) (as:List (Addr × Addr × Addr)) (ts:List Th),vs = [.ref b,.ref tl]∧BagAt H b c cs∧(∀ H',BagAt H' b c cs->Kp b H H'->RowsAt HO.lst H' tl as ts)∧0 < ts.length∧ts.length ≤ 1000 ∧
 ∀ (rl:Addr) (roots:List Int) (H':Hp),H rl = none->H' rl = some (.lst (roots.map V.int))->roots.length ≤ 400->(∀ r ∈ roots,r = 0 ∨ ∃ t ∈ ts,t.1 = r)->BagAt H' b c cs->Kp b H H'->Q (.ref rl) H'
set_option maxHeartbeats 1000000 in
theorem zdT (T:Txt K mg a):FnOk P w K mg base (CX1 P w) 3 a.f_law_roots a.d_law_roots ["bag","things"] sp_roots:=by
 refine T.F_law_roots.okC sc_law_roots (fun vs H Q E h=>?_) (fun cdv A outer s H vs Q E hr h=>?_)
 ·obtain ⟨b,c,tl,cs,as,ts,rfl,_⟩:=h
  rfl
 ·obtain ⟨b,c,tl,cs,as,ts,rfl,hb,R,l0,l1,q⟩:=h
  have hu:=zaX hr
  refine ⟨_,(zac (zau (i:=2) sc_law_roots.nd (by rfl) (Or.inl rfl) (zbu pa_nil))
   (zac (zau (i:=3) sc_law_roots.nd (by rfl) (Or.inl rfl) (zai (zaj T) (hr.mono (by decide)) (by rfl) T.m_law_draw T.F_law_draw.kp T.b_law_draw .nil zao (zaa (pv 0) (zaa zab pa_nil))))
   (zac (zau (i:=4) sc_law_roots.nd (by rfl) (Or.inl rfl) (zat op_mod (pv 3) zab))
   (zac (zaS (zar op_eq (zat op_fdivB (pv 3) zab) zab (zaw _)) (zaf (zau (i:=4) sc_law_roots.nd (by rfl) (Or.inl rfl) (zat op_add zab (zai (zaj T) (hr.mono (by decide)) (by rfl) T.m_law_draw T.F_law_draw.kp T.b_law_draw .nil zao (zaa (pv 0) (zaa zab pa_nil)))))) pss_nil)
   (zac (za6 PassesOwn.never (by rfl) (za1 (by rfl) T.z_range (zaa (pv 4) pa_nil)) (zas (i:=5) sc_law_roots.nd (by rfl) (Or.inl rfl))
   (zaf (za2 (zgj PySem.F.plainAttrs_list PySem.F.slot_list_append PySem.F.type_list_append mt_append (pv 2) (zaa (zai (zcX T) (hr.mono (by decide)) (by rfl) T.m_law_hold T.F_law_hold.kp T.b_law_hold .nil zao (zaa (pv 0) (zaa (pv 1) (zaa zab (zaa zab pa_nil))))) pa_nil)))))
   (zaf (zaq (pv 2)))))))),?_⟩
  simp! []
  intro rl nrl
  have nb:rl ≠ b:=fun e=>by
   obtain ⟨⟨i,v,st,n,h,_⟩,_⟩:=hb
   rw [← e,nrl] at h; cases h
  have nc:rl ≠ c:=fun e=>by
   have h:=hb.at_
   rw [← e,nrl] at h; cases h
  refine ⟨b,c,cs,56,rfl,hb.laid nrl,by decide,by decide,fun way H1 w0 w1 hb1 k1=>?_⟩
  have hrl1:=k1 _ _ zad nb
  have k01:Kp b H H1:=(Kp.refl.laid nrl).trans k1
  have key:∀ (many:Nat) (H2:Hp),many ≤ 400->BagAt H2 b c cs->Kp b H H2->H2 rl = some (.lst [])->∀ (v:Option V),tFor (zdU (zcn (tVar 4) tNil)) (zbV 5) (zgZ (tBM K "list" rAppend (tVar 2) (zcn (zed sp_hold [] E0 (zcn (tVar 0) (zcn (tVar 1) (zcn (tC (V.int 0)) (zcn (tC (V.int 0)) tNil))))) tNil)))
    { nx:=tRet (tVar 2) { nx:=fun x H'=>Q V.non H',rt:=Q },rt:=Q } [some (V.ref b),some (V.ref tl),some (V.ref rl),some (V.int way),some (V.int many),v] H2:=by
   intro many H2 m400 hb2 k2 hrl2 v
   refine for1 (H1:=H2) (many:Int) (fun Q2 h2=>by simp! []; exact h2) (by omega) (by omega) (fun i σ H3=>∃ (roots:List Int) (v5:Option V),σ = [some (V.ref b),some (V.ref tl),some (V.ref rl),some (V.int way),some (V.int many),v5]∧roots.length = i∧H3 rl = some (.lst (roots.map V.int))∧(∀ r ∈ roots,r = 0 ∨ ∃ t ∈ ts,t.1 = r)∧BagAt H3 b c cs∧Kp b H H3)
    ⟨[],_,rfl,rfl,hrl2,by simp,hb2,k2⟩ ?_ ?_
   ·rintro i σ H3 hi ⟨roots,v5,rfl,li,h3,gd,hb3,k3⟩
    simp! [tBM]
    refine ⟨.inl ⟨rfl,_,.of h3⟩,b,c,tl,cs,as,ts,0,0,rfl,hb3,fun Hx Bx kx=>R Hx Bx (k3.trans kx),l0,l1,by decide,by decide,fun r H4 gr hb4 k4=>?_⟩
    have h4:=k4 _ _ h3 nb
    refine ⟨rl,_,_,rfl,rfl,h4,by rw [sizeLine_eq,List.length_map]; omega,roots ++ [r],by rw [List.length_append,li]; rfl,by rw [zad,List.map_append]; rfl,fun z hz=>?_,hb4.other nb nc,fun q' o h n=>?_⟩
    ·rcases List.mem_append.mp hz with m | m
     ·exact gd z m
     ·rw [List.mem_singleton.mp m]; exact gr
    ·rw [zag (zah h nrl)]
     exact k4 _ _ (k3 _ _ h n) n
   ·rintro σ H3 ⟨roots,v5,rfl,li,h3,gd,hb3,k3⟩
    simp! []
    exact q rl roots H3 nrl h3 (by omega) gd hb3 k3
  simp! []
  refine ⟨by decide,⟨by decide,by decide⟩,ite2 (fun _=>⟨b,c,cs,390,rfl,hb1,by decide,by decide,fun x H2 x0 x1 hb2 k2=>⟨x,rfl,?_⟩⟩) fun _=>?_⟩
  ·obtain ⟨xN,ex⟩:=Int.eq_ofNat_of_zero_le (by omega:0 ≤ 7 + x)
   rw [ex]
   exact key xN H2 (by omega) hb2 (k01.trans k2) (k2 _ _ hrl1 nb) none
  ·obtain ⟨xN,ex⟩:=Int.eq_ofNat_of_zero_le (by omega:0 ≤ way % 7)
   rw [ex]
   exact key xN H1 (by omega) hb1 k01 hrl1 none
end
section
variable {P:Program} {w:World} {K:PySem.W.Frag} {mg:Str->Option Value} {base:Heap} {a:Ad}
theorem zfl {H H':Hp} {p:Addr} {u:HO} (S:Same H H') (hp:H p = none):Same H (upd H' p u):=fun q o h=>by rw [zag (zah h hp)]; exact S _ _ h
theorem lookup_at:∀ {ps:List (Int × Int)} {i:Nat} {p:Int × Int},(ps.map (·.1)).Nodup->ps[i]? = some p->ps.lookup p.1 = some p.2
 | [],_,_,_,h=>by simp at h
 | q :: r,0,p,_,h=>by
  cases h
  rw [List.lookup_cons,beq_self_eq_true]
 | q :: r,i + 1,p,n,h=>by
  rw [List.map_cons,List.nodup_cons] at n
  rw [List.getElem?_cons_succ] at h
  have ne:(p.1 == q.1) = false:=by
   have:p.1 ∈ r.map (·.1):=List.mem_map.mpr ⟨p,List.mem_of_getElem? h,rfl⟩
   simpa using fun e:p.1 = q.1=>n.1 (by rw [← e]; exact this)
  rw [List.lookup_cons,ne]
  exact lookup_at n.2 h
end
section
variable {P:Program} {w:World} {K:PySem.W.Frag} {mg:Str->Option Value} {base:Heap} {a:Ad}
theorem zb5 {H:Hp} {b c:Addr} {cs:List Int} (x:BagAt H b c cs):∃ o,H b = some o:=by obtain ⟨⟨i,v,st,n,e,_⟩,_⟩:=x; exact ⟨_,e⟩
structure Hs where
 yd:Yd
 tl:Addr
 as:List (Addr × Addr × Addr)
 ts:List Th
 s:Int
 f:Int
section
variable {C b c hl:Addr} {cs:List Int} {H H':Hp} {h h':Hs} {M:Addr->Prop}
end
theorem zfw {ts:List Th} {s f f0:Int} {roots ord:List Int} (L:Lay s ts f) (cart:Cart ts roots ord) (nd:ord.Nodup):zcJ (zcm ts f0 ord):=by
 intro t ht h hh
 obtain ⟨p,hp,rfl⟩:=List.mem_map.mp ht
 unfold za7 at hh
 obtain ⟨z,hz,rfl⟩:=List.mem_map.mp hh
 by_cases c:z = 0
 ·left
  unfold mvOf
  rw [if_pos c]
 have mp:p.1 ∈ ord:=by
  have:=zaz (ts:=ts) (ord:=ord) (f:=f0)
  rw [← this]
  exact List.mem_map.mpr ⟨p,hp,rfl⟩
 have zo:z ∈ ord:=by
  have:z ∈ zaM ts roots ord:=List.mem_append_right _ (List.mem_flatMap.mpr ⟨p.1,mp,hz⟩)
  have:=(mem_layO (hs:=zaM ts roots ord) (ord:=[])).mpr (.inr ⟨this,c⟩)
  rw [cart.fix] at this
  exact this
 rw [← zaz (ts:=ts) (ord:=ord) (f:=f0)] at zo
 obtain ⟨p2,hp2,rfl⟩:=List.mem_map.mp zo
 obtain ⟨i,hi⟩:=List.mem_iff_getElem?.mp hp2
 right
 refine ⟨za7 ts (zal ts f0 ord) p2,List.mem_map.mpr ⟨p2,hp2,rfl⟩,?_⟩
 show p2.2 = _
 unfold mvOf
 rw [if_neg c,lookup_at (by rw [zaz]; exact nd) hi]
 rfl
theorem zeD {ts:List Th} {f:Int} {ord:List Int} (sm:∀ t ∈ ts,t.2.1.length ≤ 9∧t.2.2.length ≤ 9):∀ t ∈ zcm ts f ord,t.2.1.length ≤ 9∧t.2.2.length ≤ 9:=fun t ht=>by
 obtain ⟨p,hp,rfl⟩:=List.mem_map.mp ht
 unfold za7 thAt
 cases e:ts.find? fun t=>t.1 == p.1 with
 | none=>simp
 | some u =>
  have:=sm u (List.mem_of_find?_eq_some e)
  simp; omega
theorem zbS {ts:List Th} {f:Int} {ord:List Int}:Lay f (zcm ts f ord) (zaQ ts f ord):=by
 have:=zeP (ts:=ts) (f:=f) (ord:=ord) (i:=(zal ts f ord).length)
 rw [zeG] at this
 exact this
end
section
variable {P:Program} {w:World} {K:PySem.W.Frag} {mg:Str->Option Value} {base:Heap} {a:Ad}
structure Cor (ts us:List Th) (lo:Int) (φ:Int->Int) (R:List Int):Prop where
 z:φ 0 = 0
 th:∀ x ∈ R,x ≠ 0∧∃ t ∈ ts,t.1 = x∧(φ x,t.2.1.map φ,t.2.2) ∈ us∧∀ h ∈ t.2.1,h = 0 ∨ h ∈ R
 inj:∀ x ∈ R,∀ y ∈ R,φ x = φ y->x = y
 ge:∀ x ∈ R,lo ≤ φ x
theorem Cor.id_ {ts:List Th} {s f:Int} (L:Lay s ts f) (s1:1 ≤ s) (g:zcJ ts):Cor ts ts s id (ts.map (·.1)):=by
 refine ⟨rfl,fun x hx=>?_,fun x _ y _ e=>e,fun x hx=>?_⟩
 ·obtain ⟨t,ht,rfl⟩:=List.mem_map.mp hx
  have:=(L.mem ht).1
  refine ⟨by omega,t,ht,rfl,by rw [List.map_id]; exact ht,fun h hh=>(g t ht h hh).imp id fun ⟨u,hu,e⟩=>List.mem_map.mpr ⟨u,hu,e⟩⟩
 ·obtain ⟨t,ht,rfl⟩:=List.mem_map.mp hx
  exact (L.mem ht).1
theorem zdc {ts:List Th} {roots ord:List Int} (cart:Cart ts roots ord) {x:Int} (h:x ∈ zaM ts roots ord) (n:x ≠ 0):x ∈ ord:=by
 have:=(mem_layO (hs:=zaM ts roots ord) (ord:=[])).mpr (.inr ⟨h,n⟩)
 rw [cart.fix] at this
 exact this
theorem ziu {ts:List Th} {f:Int} {ord:List Int} (nd:ord.Nodup) {x:Int} (hx:x ∈ ord) (n:x ≠ 0):∃ i:Nat,(zal ts f ord)[i]? = some (x,mvOf (zal ts f ord) x):=by
 rw [← zaz (ts:=ts) (ord:=ord) (f:=f)] at hx
 obtain ⟨p,hp,rfl⟩:=List.mem_map.mp hx
 obtain ⟨i,hi⟩:=List.mem_iff_getElem?.mp hp
 refine ⟨i,?_⟩
 have e:mvOf (zal ts f ord) p.1 = p.2:=by
  unfold mvOf
  rw [if_neg n,lookup_at (by rw [zaz]; exact nd) hi]
  rfl
 rw [e]
 exact hi
theorem zhg {ts:List Th} {s f:Int} {roots ord:List Int} (L:Lay s ts f) (s1:1 ≤ s) (cart:Cart ts roots ord) (nd:ord.Nodup) (th:∀ z ∈ ord,∃ t ∈ ts,t.1 = z):Cor ts (zcm ts f ord) f (mvOf (zal ts f ord)) ord:=by
 have n0:∀ x ∈ ord,x ≠ 0:=fun x hx=>by
  obtain ⟨t,ht,rfl⟩:=th x hx
  have:=(L.mem ht).1
  omega
 have inF:∀ x ∈ ord,∀ t ∈ ts,t.1 = x->(mvOf (zal ts f ord) x,t.2.1.map (mvOf (zal ts f ord)),t.2.2) ∈ zcm ts f ord:=fun x hx t ht e=>by
  obtain ⟨i,hi⟩:=ziu (ts:=ts) (f:=f) nd hx (n0 x hx)
  refine List.mem_map.mpr ⟨_,List.mem_of_getElem? hi,?_⟩
  unfold za7
  dsimp only
  rw [← e,zbT L ht]
 refine ⟨if_pos rfl,fun x hx=>?_,fun x hx y hy e=>?_,fun x hx=>?_⟩
 ·obtain ⟨t,ht,e⟩:=th x hx
  refine ⟨n0 x hx,t,ht,e,inF x hx t ht e,fun h hh=>?_⟩
  by_cases c:h = 0
  ·exact .inl c
  ·refine .inr (zdc cart (List.mem_append_right _ (List.mem_flatMap.mpr ⟨x,hx,?_⟩)) c)
   unfold zdC
   rw [← e,zbT L ht]
   exact hh
 ·obtain ⟨i,hi⟩:=ziu (ts:=ts) (f:=f) nd hx (n0 x hx)
  obtain ⟨j,hj⟩:=ziu (ts:=ts) (f:=f) nd hy (n0 y hy)
  have R:=(zbS (ts:=ts) (f:=f) (ord:=ord)).rising
  have e2:(zcm ts f ord).map (·.1) = (zal ts f ord).map (·.2):=by
   unfold zcm
   rw [List.map_map]
   rfl
  rw [e2] at R
  have nd2:((zal ts f ord).map (·.2)).Nodup:=R.imp fun h=>Int.ne_of_lt h
  have gi:((zal ts f ord).map (·.2))[i]? = some (mvOf (zal ts f ord) x):=by rw [List.getElem?_map,hi]; rfl
  have gj:((zal ts f ord).map (·.2))[j]? = some (mvOf (zal ts f ord) y):=by rw [List.getElem?_map,hj]; rfl
  have ij:=(List.getElem?_inj (List.getElem?_eq_some_iff.mp gi).1 nd2).mp (gi.trans (by rw [e]; exact gj.symm))
  subst ij
  rw [hi] at hj
  cases hj
  rfl
 ·obtain ⟨t,ht,e⟩:=th x hx
  exact ((zbS (ts:=ts) (f:=f) (ord:=ord)).mem (inF x hx t ht e)).1
theorem Cor.comp {ts us ws:List Th} {lo l2 s2 f2:Int} {φ ψ:Int->Int} {R R2:List Int} (a:Cor ts us lo φ R) (b:Cor us ws l2 ψ R2) (L:Lay s2 us f2) (lo1:1 ≤ lo):Cor ts ws l2 (ψ ∘ φ) (R.filter fun x=>decide (φ x ∈ R2)):=by
 have ms:∀ x,x ∈ (R.filter fun x=>decide (φ x ∈ R2)) ↔ x ∈ R∧φ x ∈ R2:=fun x=>by rw [List.mem_filter,decide_eq_true_eq]
 refine ⟨by show ψ (φ 0) = 0; rw [a.z,b.z],fun x hx=>?_,fun x hx y hy e=>?_,fun x hx=>b.ge _ ((ms x).mp hx).2⟩
 ·obtain ⟨h1,h2⟩:=(ms x).mp hx
  obtain ⟨n,t,ht,e,hu,hh⟩:=a.th x h1
  obtain ⟨_,u,hu2,e2,hw,hk⟩:=b.th _ h2
  have eu:=L.inj hu2 hu e2
  subst eu
  refine ⟨n,t,ht,e,?_,fun h m=>?_⟩
  ·rw [List.map_map] at hw
   exact hw
  ·rcases hh h m with z | z
   ·exact .inl z
   ·refine .inr ((ms h).mpr ⟨z,?_⟩)
    have:=a.ge h z
    exact (hk (φ h) (List.mem_map.mpr ⟨h,m,rfl⟩)).resolve_left (by omega)
 ·exact a.inj x ((ms x).mp hx).1 y ((ms y).mp hy).1 (b.inj _ ((ms x).mp hx).2 _ ((ms y).mp hy).2 e)
theorem Cor.eq_iff {ts us:List Th} {lo:Int} {φ:Int->Int} {R:List Int} (a:Cor ts us lo φ R) (lo1:1 ≤ lo) {x y:Int} (hx:x = 0 ∨ x ∈ R) (hy:y = 0 ∨ y ∈ R):φ x = φ y ↔ x = y:=by
 refine ⟨fun e=>?_,fun e=>by rw [e]⟩
 rcases hx with rfl | hx <;> rcases hy with rfl | hy
 ·rfl
 ·have:=a.ge y hy; rw [a.z] at e; omega
 ·have:=a.ge x hx; rw [a.z] at e; omega
 ·exact a.inj x hx y hy e
end
section
variable {P:Program} {w:World} {K:PySem.W.Frag} {mg:Str->Option Value} {base:Heap} {a:Ad}
theorem zjj {ts:List Th} {f:Int} {ord:List Int} {h:Int} (io:h = 0 ∨ h ∈ ord):valV (plK (zal ts f ord)) (Sum.inl h) = some (.int (mvOf (zal ts f ord) h)):=by
 have some_:=(zbR (ts:=ts) (f:=f) (ord:=ord) (z:=h)).mpr io
 rw [zdq] at some_ ⊢
 unfold mvOf
 by_cases c:h = 0
 ·rw [if_pos c,if_pos c]
 ·rw [if_neg c] at some_ ⊢
  rw [if_neg c]
  rw [Option.isSome_map] at some_
  obtain ⟨v,hv⟩:=Option.isSome_iff_exists.mp some_
  rw [hv]; rfl
noncomputable def sp_partners:Sp:=fun vs H Q _=>∃ (pl rl:Addr) (prs:List Addr) (ts:List Th) (f:Int) (ord roots:List Int),vs = [.ref pl,.ref rl]∧PrAt H pl prs (zal ts f ord)∧H rl = some (.lst (roots.map V.int))∧ord.Nodup∧(∀ x ∈ ord,x ≠ 0)∧(∀ r ∈ roots,r = 0 ∨ r ∈ ord)∧ord.length ≤ 900∧roots.length ≤ 1000 ∧
 ∀ (nl:Addr) (H':Hp),Same H H'->H nl = none->H' nl = some (.lst ((roots.map (mvOf (zal ts f ord))).map V.int))->Q (.ref nl) H'
set_option maxHeartbeats 2000000 in
theorem zcK (T:Txt K mg a):FnOk P w K mg base (CX1 P w) 2 a.f_law_partners a.d_law_partners ["found","roots"] sp_partners:=by
 refine T.F_law_partners.okC sc_law_partners (fun vs H Q E h=>?_) (fun cdv A outer s H vs Q E hr h=>?_)
 ·obtain ⟨pl,rl,prs,ts,f,ord,roots,rfl,_⟩:=h
  rfl
 ·obtain ⟨pl,rl,prs,ts,f,ord,roots,rfl,PR,hrl,nd,n0,rin,l9,l10,q⟩:=h
  have hu:=zaX hr
  refine ⟨_,(zac (zau (i:=2) sc_law_partners.nd (by rfl) (Or.inr rfl) (zgp (zfg zab zab zgk) (by rfl) (by rfl) (List.cons_ne_nil _ _) (Nat.le_of_ble_eq_true (by rfl))))
   (zac (za6 PassesOwn.never (by rfl) (zbc (pv 0)) (zas (i:=3) sc_law_partners.nd (by rfl) (Or.inl rfl))
   (zac (zaS (PW.pt (zb8 (zb3 (zbo (zam call_isF (by rfl) T.z_isinstance (by decide +kernel) (zaa (pv 3) (zaa (zc0 (v:=.ty "tuple") (u:=.type "tuple") (by rfl) T.z_tuple (by decide +kernel) (by rfl)) pa_nil))))) (zb8 (zar op_ne (zam call_lenF (by rfl) T.z_len (by decide +kernel) (zaa (pv 3) pa_nil)) zab (zaw _)) (zb8 (zb3 (zbo (zai (zba T) (hr.mono (by decide)) (by rfl) T.m_law_whole T.F_law_whole.kp T.b_law_whole .nil zao (zaa (zax ix_F (pv 3) zab (fun _ _=>rfl)) pa_nil)))) (zbH (zb3 (zbo (zai (zba T) (hr.mono (by decide)) (by rfl) T.m_law_whole T.F_law_whole.kp T.b_law_whole .nil zao (zaa (zax ix_F (pv 3) zab (fun _ _=>rfl)) pa_nil))))))))) (zaf (zaq zhG)) pss_nil)
   (zaf (za4 hu (pv 2) (zax ix_F (pv 3) zab (fun _ _=>rfl)) (zax ix_F (pv 3) zab (fun _ _=>rfl)) (by rfl)))))
   (zac (zaS (zar op_gt (zam call_lenF (by rfl) T.z_len (by decide +kernel) (zaa (zbr (N':=["hold","partner"]) (cap:=[none,some 2]) ⟨rfl,(by decide +kernel),(by decide +kernel),(by rfl),rfl,(by rfl)⟩ (by rfl) (zbc (pv 1)) (fun C_ ex_ s_ H_=>(zas (i:=0) (show (["hold","partner"]:List Str).Nodup by decide +kernel) (by rfl) (Or.inl rfl))) za3 (fun C_ ex_ s_ H_=>(zds (zcE (zbh (by exact hu) (pv 0) (pv 1))))) (fun C_ ex_ s_ H_=>(pv 0))) pa_nil)) zab (zaw _)) (zaf (zaq zhG)) pss_nil)
   (zaf (zaq (zbr (N':=["hold","partner"]) (cap:=[none,some 2]) ⟨rfl,(by decide +kernel),(by decide +kernel),(by rfl),rfl,(by rfl)⟩ (by rfl) (zbc (pv 1)) (fun C_ ex_ s_ H_=>(zas (i:=0) (show (["hold","partner"]:List Str).Nodup by decide +kernel) (by rfl) (Or.inl rfl))) za3 (fun C_ ex_ s_ H_=>zby) (fun C_ ex_ s_ H_=>(zaJ (by exact hu) (pv 1) (pv 0) (fun _ _=>rfl))))))))),?_⟩
  generalize hG:tSeq (tFor _ _ _) _ = tail
  simp! [zjf,tPairs]
  intro pm npm
  refine ⟨[(Sum.inl 0,V.int 0)],rfl,by simp,?_⟩
  rw [zbb,show zcz [] [((Sum.inl 0:Key),V.int 0)] = plK ((zal ts f ord).take 0) from rfl]
  subst hG
  generalize hI:tSeq (tIfS _ _ _) (tRet _) = tail
  have la:=zaC (ts:=ts) (f:=f) (ord:=ord)
  refine forL (H1:=upd H pm (.dK (plK ((zal ts f ord).take 0)))) pl (prs.map V.ref) (fun Q2 h2=>by simp! []; exact h2) (fun i σ H5=>∃ v3:Option V,σ = [some (V.ref pl),some (V.ref rl),some (.ref pm),v3]∧H5 pm = some (.dK (plK ((zal ts f ord).take i)))∧Same H H5)
   ⟨_,rfl,zad,.laid npm⟩ (fun i σ H5 _ ⟨_,_,_,S⟩=>.of (S _ _ PR.top)) ?_ ?_
  ·rintro i x σ H5 hi ⟨v3,rfl,hpm,S5⟩
   obtain ⟨pa,hpa,rfl⟩:=zaG hi
   have ilp:i < (zal ts f ord).length:=by rw [← PR.len]; exact (List.getElem?_eq_some_iff.mp hpa).1
   have hp:=List.getElem?_eq_getElem ilp
   have row:=S5 _ _ (PR.row i pa _ hpa hp)
   revert row hp
   generalize (zal ts f ord)[i] = pr
   intro hp row
   have mo:pr.1 ∈ ord:=by
    rw [← zaz (ts:=ts) (ord:=ord) (f:=f)]
    exact List.mem_map.mpr ⟨pr,List.mem_of_getElem? hp,rfl⟩
   have nv:valV (plK ((zal ts f ord).take i)) (Sum.inl pr.1) = none:=by
    rw [zdq,if_neg (n0 _ mo),zbL.mpr]
    ·rfl
    ·intro m
     obtain ⟨x,hx,ex⟩:=List.mem_map.mp m
     obtain ⟨j,hj⟩:=List.mem_iff_getElem?.mp hx
     have jl:j < i:=by have:=(List.getElem?_eq_some_iff.mp hj).1; rw [List.length_take] at this; omega
     rw [List.getElem?_take_of_lt jl] at hj
     have ndk:((zal ts f ord).map (·.1)).Nodup:=by rw [zaz]; exact nd
     have gi:((zal ts f ord).map (·.1))[i]? = some pr.1:=by rw [List.getElem?_map,hp]; rfl
     have gj:((zal ts f ord).map (·.1))[j]? = some pr.1:=by rw [List.getElem?_map,hj]; show some x.1 = _; rw [ex]
     have:=(List.getElem?_inj (List.getElem?_eq_some_iff.mp gi).1 ndk).mp (gi.trans gj.symm)
     omega
   simp! [row]
   rw [if_neg (fun h=>h rfl)]
   refine ⟨_,rfl,true,rfl,?_⟩
   rw [if_neg (by simp)]
   simp! [row]
   refine ⟨_,rfl,true,rfl,?_⟩
   rw [if_neg (by simp)]
   simp! [row,hpm]
   exact ⟨by rw [zf9,List.length_take]; omega,by rw [zex nv,List.take_succ,hp]; rfl,zfl S5 npm⟩
  ·rintro σ H5 ⟨v3,rfl,hpm,S5⟩
   rw [List.length_map,PR.len,List.take_length] at hpm
   subst hI
   have hrl5:=S5 _ _ hrl
   have vals:∀ x ∈ roots.map V.int,∃ r,x = .int r∧r ∈ roots∧valV (plK (zal ts f ord)) (Sum.inl r) = some (.int (mvOf (zal ts f ord) r)):=fun x hx=>by
    obtain ⟨r,hr,rfl⟩:=List.mem_map.mp hx
    exact ⟨r,rfl,hr,zjj (rin r hr)⟩
   generalize hT:tRet (zcx _ _ _ _ _) = tail
   simp! []
   refine ze0 (H1:=H5) rl (roots.map V.int) (fun _=>none) (fun Q2 h2=>by simp! []; exact h2) (.of hrl5) (by rw [sizeLine_eq,List.length_map]; omega) ?_ ?_
   ·intro x H6 R N hx S6 hR hN
    obtain ⟨r,rfl,hr,hv⟩:=vals x hx
    have hp6:=S6 _ _ hpm
    simp! [zaT,hp6,hv]
    rw [if_neg (by simp)]
    exact hN rfl _ (Same.refl _)
   ·intro D H6 hD S6 e
    have e0:(roots.map V.int).filterMap (fun _=>(none:Option V)) = []:=by
     rw [List.filterMap_eq_nil_iff]; exact fun _ _=>rfl
    rw [e0] at e
    simp! [e]
    rw [if_neg (by simp)]
    have S06:=S5.trans S6
    have hrl6:=S6 _ _ hrl5
    have hpm6:=S6 _ _ hpm
    subst hT
    simp! []
    refine ze0 (H1:=H6) rl (roots.map V.int) (fun v=>match v with | .int r=>some (.int (mvOf (zal ts f ord) r)) | _=>none) (fun Q2 h2=>by simp! []; exact h2) (.of hrl6) (by rw [sizeLine_eq,List.length_map]; omega) ?_ ?_
    ·intro x H7 R N hx S7 hR hN
     obtain ⟨r,rfl,hr,hv⟩:=vals x hx
     have hp7:=S7 _ _ hpm6
     simp! [zaT,tTrue,hp7,hv]
     exact hR _ _ rfl (Same.refl _)
    ·intro nl H7 hn S7 e
     refine q nl H7 (S06.trans S7) (S06.free hn) ?_
     rw [e,zhL (fun v=>match v with | .int r=>.int (mvOf (zal ts f ord) r) | _=>.non) _ fun x hx=>by
      obtain ⟨r,rfl,_⟩:=vals x hx
      rfl,List.map_map,List.map_map]
     rfl
end
section
variable {P:Program} {w:World} {K:PySem.W.Frag} {mg:Str->Option Value} {base:Heap} {a:Ad}
theorem zb2 (xs:List Int):(xs.map V.int).all flatV = true:=by
 rw [List.all_map]; exact List.all_eq_true.mpr fun _ _=>rfl
theorem zeg (xs:List Int):eqVs (xs.map V.int) (xs.map V.int) = true:=by
 unfold eqVs
 rw [Bool.and_eq_true]
 refine ⟨by simp,?_⟩
 induction xs with
 | nil=>rfl
 | cons x r ih=>rw [List.map_cons,List.zip_cons_cons,List.all_cons,ih,Bool.and_true]; simp [eqV]
noncomputable def sp_is (C:Addr):Sp:=fun vs H Q _=>∃ (y:Yd) (z f:Int) (W:Int->Option Int) (S:List (Int × Int × Int)),vs = [.ref y.p,.int z]∧YardAt C H y W S f ∧
 ((∃ t ∈ S,t.1 = z)->Q (.bl true) H)∧((∀ t ∈ S,t.1 ≠ z)->Q (.bl false) H)
theorem zbq (T:Txt K mg a):FnOk P w K mg base (CX1 P w) 1 a.f_Yard_is_thing a.d_Yard_is_thing ["self","at"] (sp_is a.c_Yard):=by
 refine T.F_Yard_is_thing.okC sc_Yard_is_thing (fun vs H Q E h=>?_) (fun cdv A outer s H vs Q E hr h=>?_)
 ·obtain ⟨y,z,f,W,S,rfl,_⟩:=h
  rfl
 ·obtain ⟨y,z,f,W,S,rfl,⟨hp,_,⟨ks,hs,ek,vk,nk⟩,ne⟩,q1,q2⟩:=h
  have hu:=zaX hr
  refine ⟨_,(zaf (zaq (ziN (zgf hu (pv 1) (za5 (pv 0) (by rfl)))))),?_⟩
  simp! [T.cl_Yard,T.n_free,T.n_words,T.n_sizes,hp,hs,zbB,zcj]
  by_cases c:∀ t ∈ S,t.1 ≠ z
  ·rw [nk z c]
   exact q2 c
  ·have ⟨t,ht,e⟩:∃ t ∈ S,t.1 = z:=by
    by_cases d:∃ t ∈ S,t.1 = z
    ·exact d
    ·exact absurd (fun t ht e=>d ⟨t,ht,e⟩) c
   obtain ⟨q,e1,e2⟩:=vk t ht
   rw [← e,e1]
   exact q1 ⟨t,ht,e⟩
theorem zcB {z f:Int} (h0:0 ≤ z) (h1:z < f) (f1:f ≤ 10 ^ 61):z.natAbs.log2 < 1920:=by
 refine zdg ?_
 have e:((10 ^ 61:Nat):Int) = 10 ^ 61:=by decide
 have b:z.natAbs < 10 ^ 61:=by
  rw [← e] at f1
  generalize (10:Nat) ^ 61 = N at *
  omega
 exact Nat.lt_trans b (by decide)
structure YdOk (C:Addr) (H:Hp) (y:Yd) (us:List Th) (s f:Int):Prop where
 yard:YardAt C H y (zav us) (us.map thTri) f
 lay:Lay s us f
 small:∀ t ∈ us,t.2.1.length ≤ 9∧t.2.2.length ≤ 9
 s1:1 ≤ s
 f1:f ≤ 10 ^ 61
theorem YdOk.same {C:Addr} {H H':Hp} {y:Yd} {us:List Th} {s f:Int} (x:YdOk C H y us s f) (S:Same H H'):YdOk C H' y us s f:=⟨x.yard.same S,x.lay,x.small,x.s1,x.f1⟩
noncomputable def zg1 (C:Addr):Sp:=fun vs H Q _=>∃ (y:Yd) (us:List Th) (s f:Int) (u:Th),vs = [.ref y.p,.int u.1]∧YdOk C H y us s f∧u ∈ us ∧
 ∀ (l:Addr) (H':Hp),Same H H'->H l = none->H' l = some (.lst ((u.2.1 ++ u.2.2).map V.int))->Q (.ref l) H'
set_option maxHeartbeats 2000000 in
theorem zdR (T:Txt K mg a):FnOk P w K mg base (CX1 P w) 2 a.f_law_thing a.d_law_thing ["yard","hold"] (zg1 a.c_Yard):=by
 refine T.F_law_thing.okC sc_law_thing (fun vs H Q E h=>?_) (fun cdv A outer s H vs Q E hr h=>?_)
 ·obtain ⟨y,us,s,f,u,rfl,_⟩:=h
  rfl
 ·obtain ⟨y,us,s,f,u,rfl,Y,hu1,q⟩:=h
  have hu:=zaX hr
  refine ⟨_,(zac (zbI (zaH (pv 0) T.cl_Yard T.M_Yard_size_of (zaK T) (hr.mono (by decide)) T.b_Yard_size_of .nil zao (zaa (pv 1) pa_nil)) (zc4 (n:=2) (by rfl) (zaN (zas (i:=2) sc_law_thing.nd (by rfl) (Or.inl rfl)) (zaN (zas (i:=3) sc_law_thing.nd (by rfl) (Or.inl rfl)) pgs_nil))))
   (zaf (zaq (zbr (N':=["k","yard","hold"]) (cap:=[none,some 0,some 1]) ⟨rfl,(by decide +kernel),(by decide +kernel),(by rfl),rfl,(by rfl)⟩ (by rfl) (za1 (by rfl) T.z_range (zaa (zat op_add (pv 2) (pv 3)) pa_nil)) (fun C_ ex_ s_ H_=>(zas (i:=0) (show (["k","yard","hold"]:List Str).Nodup by decide +kernel) (by rfl) (Or.inl rfl))) za3 (fun C_ ex_ s_ H_=>zby) (fun C_ ex_ s_ H_=>(zaH (pv 1) T.cl_Yard T.M_Yard_word (zcf T) (by exact hr.mono (by decide)) T.b_Yard_word .nil zao (zaa (zat op_add (zat op_add (pv 2) zab) (pv 0)) pa_nil))))))),?_⟩
  have hp:=Y.yard.ins
  have mb:=Y.lay.mem hu1
  have sz:=zaW u
  have s1:=Y.s1
  have sm:=Y.small u hu1
  have es:thSz u = 1 + u.2.1.length + u.2.2.length:=rfl
  generalize hG:tRet _ = tail
  simp! [T.cl_Yard,T.n_free,T.n_words,T.n_sizes,hp,zaI]
  refine ⟨y,u.1,f,_,_,rfl,Y.yard,zcB (f:=f) (by omega) (by omega) Y.f1,fun h m q1 hq e=>?_,fun n=>absurd rfl (n (thTri u) (List.mem_map.mpr ⟨u,hu1,rfl⟩))⟩
  have ei:=zcR Y.lay hu1 _ hq rfl
  injection ei with _ ei
  injection ei with e1 e2
  rw [e1,e2] at e
  refine zcc e rfl ?_
  subst hG
  have ln:((u.2.1 ++ u.2.2).length:Int) = (u.2.1.length:Int) + u.2.2.length:=by rw [List.length_append]; omega
  simp! []
  refine ziV (H1:=H) ((u.2.1 ++ u.2.2).length:Int) (fun i=>((u.2.1 ++ u.2.2)[i]?).map V.int) (fun Q2 h2=>by simp! []; rw [ln] at h2; exact h2) (by omega) (by omega) (by rw [sizeLine_eq]; omega) ?_ ?_
  ·intro i H2 R N hi S2 hR hN
   rw [Int.toNat_natCast] at hi
   have hx:=List.getElem?_eq_getElem hi
   have Y2:=Y.yard.same S2
   have hp2:=Y2.ins
   simp! [zaT,tTrue,hp2,zaI,Int.zero_add]
   rw [List.length_append] at hi
   refine ⟨y,u.1 + 1 + i,f,_,_,rfl,Y2,zcB (f:=f) (by omega) (by omega) Y.f1,fun x hw=>?_,fun n=>?_⟩
   ·rw [zbz Y.lay hu1 i _ hx] at hw
    cases hw
    exact hR _ _ (by rw [hx]; rfl) (Same.refl _)
   ·rw [zbz Y.lay hu1 i _ hx] at n
    cases n
  ·intro l H2 hl S2 e3
   refine q l H2 S2 hl ?_
   rw [e3,Int.toNat_natCast]
   congr 1
   congr 1
   generalize u.2.1 ++ u.2.2 = xs
   rw [zhL (fun i=>V.int (xs.getD i 0)) _ fun i hi=>by
    rw [List.getElem?_eq_getElem (List.mem_range.mp hi),List.getD_eq_getElem?_getD,List.getElem?_eq_getElem (List.mem_range.mp hi)]; rfl]
   apply List.ext_getElem
   ·simp
   ·intro i h1 h2
    rw [List.getElem_map,List.getElem_map,List.getElem_range,List.getD_eq_getElem?_getD,List.getElem?_eq_getElem (by simpa using h2)]
    rfl
noncomputable def ziG (ts us:List Th) (hold new:Int):Prop:=(hold = 0∧new = 0) ∨ (hold ≠ 0∧new ≠ 0∧∃ t ∈ ts,∃ u ∈ us,t.1 = hold∧u.1 = new∧u.2.1.length = t.2.1.length∧u.2.2 = t.2.2)
theorem Cor.like {ts us:List Th} {lo:Int} {φ:Int->Int} {R:List Int} (a:Cor ts us lo φ R) (lo1:1 ≤ lo) {x:Int} (hx:x = 0 ∨ x ∈ R):ziG ts us x (φ x):=by
 rcases hx with rfl | hx
 ·exact .inl ⟨rfl,a.z⟩
 ·obtain ⟨n,t,ht,e,hu,_⟩:=a.th x hx
  have:=a.ge x hx
  exact .inr ⟨n,by omega,t,ht,_,hu,e,rfl,List.length_map ..,rfl⟩
structure ByAt (H:Hp) (d:Addr) (ts:List Th):Prop where
 ex:∃ kvs,H d = some (.dK kvs)∧∀ t ∈ ts,∃ p l m:Addr,valV kvs (Sum.inl t.1) = some (.ref p)∧H p = some (.tup [.int t.1,.ref l,.ref m])∧H l = some (.lst (t.2.1.map V.int))∧H m = some (.lst (t.2.2.map V.int))
theorem zi1 {xs ys:List V} {n:Int} (e:n = xs.length):cutV (xs ++ ys) (some n) none = ys:=by
 subst e
 unfold cutV HT.sIx
 simp
 rw [if_neg (by omega),List.drop_left' rfl,List.take_of_length_le (by omega)]
noncomputable def zdi (C:Addr):Sp:=fun vs H Q _=>∃ (y:Yd) (d:Addr) (ts us:List Th) (s f hold new:Int),vs = [.ref y.p,.ref d,.int hold,.int new]∧YdOk C H y us s f∧ByAt H d ts∧ziG ts us hold new∧(∀ t ∈ ts,t.2.1.length ≤ 9∧t.2.2.length ≤ 9)∧∀ H',Same H H'->Q (.bl true) H'
set_option maxHeartbeats 2000000 in
theorem zci (T:Txt K mg a):FnOk P w K mg base (CX1 P w) 3 a.f_law_alike a.d_law_alike ["yard","by","hold","new"] (zdi a.c_Yard):=by
 refine T.F_law_alike.okC sc_law_alike (fun vs H Q E h=>?_) (fun cdv A outer s H vs Q E hr h=>?_)
 ·obtain ⟨y,d,ts,us,s,f,hold,new,rfl,_⟩:=h
  rfl
 ·obtain ⟨y,d,ts,us,s,f,hold,new,rfl,Y,BY,LK,sm,q⟩:=h
  have hu:=zaX hr
  refine ⟨_,(zac (zaS (PW.pt (zb8 (zar op_eq (pv 2) zab (zaw _)) (zbH (zar op_eq (pv 3) zab (zaw _))))) (zaf (zaq (zhM (zai (zba T) (hr.mono (by decide)) (by rfl) T.m_law_whole T.F_law_whole.kp T.b_law_whole .nil zao (zaa (pv 3) pa_nil)) (zgQ (zbM op_eq (pv 2) (pv 3) (zaw _)))))) pss_nil)
   (zac (zaS (PW.pt (zb8 (zb3 (zbo (zaH (pv 0) T.cl_Yard T.M_Yard_is_thing (zbq T) (hr.mono (by decide)) T.b_Yard_is_thing .nil zao (zaa (pv 3) pa_nil)))) (zbH (zar (zjr hu) (zaH (pv 0) T.cl_Yard T.M_Yard_size_of (zaK T) (hr.mono (by decide)) T.b_Yard_size_of .nil zao (zaa (pv 3) pa_nil)) (zcW (zaa (zam call_lenF (by rfl) T.z_len (by decide +kernel) (zaa (zax ix_F (zaJ hu (pv 1) (pv 2) (fun _ _=>rfl)) zab (fun _ _=>rfl)) pa_nil)) (zaa (zam call_lenF (by rfl) T.z_len (by decide +kernel) (zaa (zax ix_F (zaJ hu (pv 1) (pv 2) (fun _ _=>rfl)) zab (fun _ _=>rfl)) pa_nil)) pa_nil))) (zaw _))))) (zaf (zaq zcM)) pss_nil)
   (zac (zau (i:=4) sc_law_alike.nd (by rfl) (Or.inl rfl) (zcr sl_list (zai (zdR T) (hr.mono (by decide)) (by rfl) T.m_law_thing T.F_law_thing.kp T.b_law_thing .nil zao (zaa (pv 0) (zaa (pv 3) pa_nil))) (zdy (zam call_lenF (by rfl) T.z_len (by decide +kernel) (zaa (zax ix_F (zaJ hu (pv 1) (pv 2) (fun _ _=>rfl)) zab (fun _ _=>rfl)) pa_nil))) po_none))
   (zac (zaS (zar op_ne (zam call_lenF (by rfl) T.z_len (by decide +kernel) (zaa (zbr (N':=["word"]) (cap:=[none]) ⟨rfl,(by decide +kernel),(by decide +kernel),(by rfl),rfl,(by rfl)⟩ (by rfl) (zbc (pv 4)) (fun C_ ex_ s_ H_=>(zas (i:=0) (show (["word"]:List Str).Nodup by decide +kernel) (by rfl) (Or.inl rfl))) za3 (fun C_ ex_ s_ H_=>(zds (zbo (zai (zba T) (by exact hr.mono (by decide)) (by rfl) T.m_law_whole T.F_law_whole.kp T.b_law_whole .nil zao (zaa (pv 0) pa_nil))))) (fun C_ ex_ s_ H_=>(pv 0))) pa_nil)) (zam call_lenF (by rfl) T.z_len (by decide +kernel) (zaa (pv 4) pa_nil)) (zaw _)) (zaf (zaq zcM)) pss_nil)
   (zaf (zaq (zbM (zji hu) (pv 4) (zax ix_F (zaJ hu (pv 1) (pv 2) (fun _ _=>rfl)) zab (fun _ _=>rfl)) (zaw _)))))))),?_⟩
  generalize hG:tSeq (tIfS (tOr (tNot _) _) _ _) _ = tail
  rcases LK with ⟨rfl,rfl⟩ | ⟨n1,n2,t,ht,u,hu1,rfl,rfl,e3,e4⟩
  ·simp! []
   exact ⟨_,rfl,true,rfl,by rw [if_pos rfl]; exact q H (Same.refl _)⟩
  ·simp! []
   rw [if_neg n1,if_neg n2]
   subst hG
   have hp:=Y.yard.ins
   obtain ⟨kvs,hd,hb⟩:=BY
   obtain ⟨p,l,m,vk,b1,b2,b3⟩:=hb t ht
   obtain ⟨l9,m9⟩:=sm t ht
   have mb:=Y.lay.mem hu1
   have sz:=zaW u
   have s1:=Y.s1
   generalize hG:tSeq (tAsg _ _) _ = tail
   simp! [hp,zaI]
   refine ⟨y,u.1,f,_,_,rfl,Y.yard,fun _=>⟨true,rfl,?_⟩,fun n=>absurd rfl (n (thTri u) (List.mem_map.mpr ⟨u,hu1,rfl⟩))⟩
   rw [if_neg (by simp)]
   simp! [hp,zaI]
   refine ⟨y,u.1,f,_,_,rfl,Y.yard,zcB (f:=f) (by omega) (by omega) Y.f1,fun h m' q1 hq e=>?_,fun n=>absurd rfl (n (thTri u) (List.mem_map.mpr ⟨u,hu1,rfl⟩))⟩
   have ei:=zcR Y.lay hu1 _ hq rfl
   injection ei with _ ei
   injection ei with g1 g2
   rw [g1,g2,e3,e4] at e
   simp! [hd,vk,b1,b2,b3,List.length_map]
   intro t2 n2'
   have S1:Same H (upd H t2 (.tup [V.int t.2.1.length,V.int t.2.2.length])):=Same.laid n2'
   have eq1:=S1 _ _ e
   revert S1 eq1
   generalize upd H t2 (.tup [V.int t.2.1.length,V.int t.2.2.length]) = H1
   intro S1 eq1
   refine ⟨_,_,by rw [eq1]; rfl,by rw [eq1]; rfl,rfl,zb2 [(t.2.1.length:Int),(t.2.2.length:Int)],zb2 [(t.2.1.length:Int),(t.2.2.length:Int)],?_⟩
   rw [if_neg (fun z=>by have e0:=zeg [(t.2.1.length:Int),(t.2.2.length:Int)]; exact absurd (e0.symm.trans z) (by simp))]
   subst hG
   generalize hG:tSeq (tIfS _ _ _) _ = tail
   simp! [tSl,zhU,tNoPart]
   refine ⟨y,us,s,f,u,rfl,Y.same S1,hu1,fun l1 H2 S2 _ hl1=>?_⟩
   have S02:=S1.trans S2
   have c1:=S02 _ _ hd
   have c2:=S02 _ _ b1
   have c3:=S02 _ _ b2
   simp! [c1,vk,c2,c3,List.length_map]
   refine ⟨l1,_,rfl,.of hl1,fun l2 nl2=>?_⟩
   rw [List.map_append,zi1 (by rw [List.length_map,e3]),e4]
   have S3:=S02.step nl2 (u:=.lst (t.2.2.map V.int))
   have hl2:=zad (H:=H2) (a:=l2) (o:=.lst (t.2.2.map V.int))
   revert S3 hl2
   generalize upd H2 l2 (.lst (t.2.2.map V.int)) = H3
   intro S3 hl2
   subst hG
   simp! []
   refine ze0 (H1:=H3) l2 (t.2.2.map V.int) some (fun Q2 h2=>by simp! []; exact h2) (.of hl2) (by rw [sizeLine_eq,List.length_map]; omega) ?_ ?_
   ·intro x H4 R N hx S4 hR hN
    obtain ⟨i,_,rfl⟩:=List.mem_map.mp hx
    simp! [zaT]
    exact ⟨i,rfl,true,rfl,by rw [if_pos rfl]; exact hR _ _ rfl (Same.refl _)⟩
   ·intro D H4 hD S4 e5
    rw [List.filterMap_some] at e5
    have hl4:=S4 _ _ hl2
    have S04:=S3.trans S4
    have c1:=S04 _ _ hd
    have c2:=S04 _ _ b1
    have c3:=S04 _ _ b3
    simp! [e5,c1,vk,c2,c3,hl4]
    rw [zeg]
    exact ⟨zb2 _,zb2 _,q _ S04⟩
end
section
variable {P:Program} {w:World} {K:PySem.W.Frag} {mg:Str->Option Value} {base:Heap} {a:Ad}
noncomputable def Kq (b hl nl:Addr) (H H':Hp):Prop:=∀ q o,H q = some o->q ≠ b->q ≠ hl->q ≠ nl->H' q = some o
theorem Kq.trans {b hl nl:Addr} {H H1 H2:Hp} (x:Kq b hl nl H H1) (y:Kq b hl nl H1 H2):Kq b hl nl H H2:=fun q o h a b c=>y q o (x q o h a b c) a b c
theorem Kq.of_same {b hl nl:Addr} {H H':Hp} (S:Same H H'):Kq b hl nl H H':=fun q o h _ _ _=>S q o h
theorem Kq.of_kp {b hl nl:Addr} {H H':Hp} (k:Kp b H H'):Kq b hl nl H H':=fun q o h n _ _=>k q o h n
theorem Kq.new {b hl nl p:Addr} {H H':Hp} {u:HO} (x:Kq b hl nl H H') (n:H p = none):Kq b hl nl H (upd H' p u):=fun q o h a b c=>by rw [zag (fun z=>by rw [z,n] at h; cases h)]; exact x q o h a b c
theorem Kq.at1 {b hl nl:Addr} {H H':Hp} {u:HO} (x:Kq b hl nl H H'):Kq b hl nl H (upd H' hl u):=fun q o h a b c=>by rw [zag b]; exact x q o h a b c
theorem Kq.at2 {b hl nl:Addr} {H H':Hp} {u:HO} (x:Kq b hl nl H H'):Kq b hl nl H (upd H' nl u):=fun q o h a b c=>by rw [zag c]; exact x q o h a b c
theorem zey {kvs:List (Key × V)} {k k':Key} {v x:V} (h:valV (putK kvs k v) k' = some x):(k' = k∧x = v) ∨ valV kvs k' = some x:=by
 rw [zaV] at h
 by_cases c:k' = k
 ·rw [if_pos c] at h
  cases h
  exact .inl ⟨c,rfl⟩
 ·rw [if_neg c] at h
  exact .inr h
theorem zdf {ps:List (Key × V)} {k:Key} {x:V} (h:valV (za0 ps) k = some x):(k,x) ∈ ps:=by
 have:∀ (l a:List (Key × V)),valV (l.foldl (fun a p=>putK a p.1 p.2) a) k = some x->(k,x) ∈ l ∨ valV a k = some x:=by
  intro l
  induction l with
  | nil=>intro a h; exact .inr h
  | cons p l ih =>
   intro a h
   rcases ih _ h with h | h
   ·exact .inl (List.mem_cons_of_mem _ h)
   ·rcases zey h with ⟨rfl,rfl⟩ | h
    ·exact .inl List.mem_cons_self
    ·exact .inr h
 exact (this ps [] h).resolve_right (by intro z; cases z)
theorem zeY {f g:Int->Int} {hs:List Int} {z:Int} {x:V} (h:((Sum.inl z:Key),x) ∈ ((hs.map f).map Sum.inl).zip ((hs.map g).map V.int)):∃ y ∈ hs,f y = z∧x = .int (g y):=by
 rw [List.map_map,List.map_map,List.zip_map',List.mem_map] at h
 obtain ⟨y,hy,e⟩:=h
 cases e
 exact ⟨y,hy,rfl,rfl⟩
structure Gn (b hl nl dt dk:Addr) (H Hc:Hp) (φ:Int->Int) (R hs:List Int):Prop where
 kq:Kq b hl nl H Hc
 h1:Hc hl = some (.lst (hs.map V.int))
 h2:Hc nl = some (.lst ((hs.map φ).map V.int))
 th:∃ kvs,Hc dt = some (.dK kvs)∧kvs.length ≤ hs.length∧∀ z x,valV kvs (.inl z) = some x->x = .int (φ z)
 bk:∃ kvs,Hc dk = some (.dK kvs)∧kvs.length ≤ hs.length∧∀ z x,valV kvs (.inl z) = some x->∃ v,(v = 0 ∨ v ∈ R)∧φ v = z∧x = .int v
 in_:∀ x ∈ hs,x = 0 ∨ x ∈ R
 fst:∃ x r,hs = x :: r∧x ≠ 0
theorem Gn.kp {b c hl nl dt dk:Addr} {cs:List Int} {H Hc Hd:Hp} {φ:Int->Int} {R hs:List Int} (g:Gn b hl nl dt dk H Hc φ R hs) (B:BagAt Hc b c cs) (k:Kp b Hc Hd) (n:hl ≠ b∧nl ≠ b):Gn b hl nl dt dk H Hd φ R hs:=by
 obtain ⟨k1,e1,l1,v1⟩:=g.th
 obtain ⟨k2,e2,l2,v2⟩:=g.bk
 have nd:∀ {q:Addr} {kvs:List (Key × V)},Hc q = some (.dK kvs)->q ≠ b:=fun e z=>by
  obtain ⟨_,_,_,_,hb,_⟩:=B.ex
  rw [z,hb] at e
  cases e
 exact ⟨g.kq.trans (.of_kp k),k _ _ g.h1 n.1,k _ _ g.h2 n.2,⟨k1,k _ _ e1 (nd e1),l1,v1⟩,⟨k2,k _ _ e2 (nd e2),l2,v2⟩,g.in_,g.fst⟩
theorem Gn.same {b hl nl dt dk:Addr} {H Hc Hd:Hp} {φ:Int->Int} {R hs:List Int} (g:Gn b hl nl dt dk H Hc φ R hs) (S:Same Hc Hd):Gn b hl nl dt dk H Hd φ R hs:=by
 obtain ⟨k1,e1,l1,v1⟩:=g.th
 obtain ⟨k2,e2,l2,v2⟩:=g.bk
 exact ⟨g.kq.trans (.of_same S),S _ _ g.h1,S _ _ g.h2,⟨k1,S _ _ e1,l1,v1⟩,⟨k2,S _ _ e2,l2,v2⟩,g.in_,g.fst⟩
noncomputable def zgx (C:Addr):Sp:=fun vs H Q _=>∃ (b c:Addr) (cs:List Int) (y:Yd) (d hl nl:Addr) (ts us:List Th) (s f:Int) (φ:Int->Int) (R hs:List Int),vs = [.ref b,.ref y.p,.ref d,.ref hl,.ref nl]∧BagAt H b c cs∧(∀ H',Kq b hl nl H H'->YdOk C H' y us s f∧ByAt H' d ts)∧Cor ts us s φ R∧H hl = some (.lst (hs.map V.int))∧H nl = some (.lst ((hs.map φ).map V.int))∧hl ≠ nl∧(hl ≠ b∧hl ≠ c∧nl ≠ b∧nl ≠ c)∧(∀ x ∈ hs,x = 0 ∨ x ∈ R)∧hs.length ≤ 400∧(∃ x r,hs = x :: r∧x ≠ 0)∧(∀ t ∈ ts,t.2.1.length ≤ 9∧t.2.2.length ≤ 9) ∧
 ∀ (hs':List Int) (H':Hp),(∀ x ∈ hs',x = 0 ∨ x ∈ R)->hs'.length ≤ 500->H' nl = some (.lst ((hs'.map φ).map V.int))->Q (.bl true) H'
set_option maxHeartbeats 4000000 in
theorem zeK (T:Txt K mg a):FnOk P w K mg base (CX1 P w) 4 a.f_law_gone a.d_law_gone ["bag","yard","by","holds","news"] (zgx a.c_Yard):=by
 refine T.F_law_gone.okC sc_law_gone (fun vs H Q E h=>?_) (fun cdv A outer s H vs Q E hr h=>?_)
 ·obtain ⟨b,c,cs,y,d,hl,nl,ts,us,s,f,φ,R,hs,rfl,_⟩:=h
  rfl
 ·obtain ⟨b,c,cs,y,d,hl,nl,ts,us,s,f,φ,R,hs,rfl,B,st,CO,hhl,hnl,hn,⟨hb1,hc1,hb2,hc2⟩,hR,l4,⟨x0,r0,eh,x00⟩,sm,q⟩:=h
  have hu:=zaX hr
  refine ⟨_,(zac (zau (i:=5) sc_law_gone.nd (by rfl) (Or.inl rfl) (zcY (K:=K) (by rfl) (by rfl) (by rfl) T.z_dict (by rfl) T.z_zip (zaa (pv 3) (zaa (pv 4) pa_nil))))
   (zac (zau (i:=6) sc_law_gone.nd (by rfl) (Or.inl rfl) (zcY (K:=K) (by rfl) (by rfl) (by rfl) T.z_dict (by rfl) T.z_zip (zaa (pv 4) (zaa (pv 3) pa_nil))))
   (zac (za6 PassesOwn.never (by rfl) (za1 (by rfl) T.z_range (zaa zab pa_nil)) (zas (i:=7) sc_law_gone.nd (by rfl) (Or.inl rfl))
   (zaf (zaS (PW.pt (zdK (PW.pt (zb8 (zar op_lt (pv 7) zab (zaw _)) (zbH (zbo (zai (zeO T) (hr.mono (by decide)) (by rfl) T.m_law_more T.F_law_more.kp T.b_law_more .nil zao (zaa (pv 0) pa_nil)))))) (zcF (zar op_ne (zax ix_F (pv 3) zab (fun _ _=>rfl)) zab (zaw _))))) (zac (zau (i:=8) sc_law_gone.nd (by rfl) (Or.inl rfl) (zai (zaj T) (hr.mono (by decide)) (by rfl) T.m_law_draw T.F_law_draw.kp T.b_law_draw .nil zao (zaa (pv 0) (zaa (zam call_lenF (by rfl) T.z_len (by decide +kernel) (zaa (pv 3) pa_nil)) pa_nil))))
   (zac (zaS (zar op_gt (zai (zaj T) (hr.mono (by decide)) (by rfl) T.m_law_draw T.F_law_draw.kp T.b_law_draw .nil zao (zaa (pv 0) (zaa zab pa_nil))) zab (zaw _)) (zaf (zau (i:=8) sc_law_gone.nd (by rfl) (Or.inl rfl) (zat op_sub (zam call_lenF (by rfl) T.z_len (by decide +kernel) (zaa (pv 3) pa_nil)) zab))) pss_nil)
   (zac (zau (i:=9) sc_law_gone.nd (by rfl) (Or.inl rfl) (zax ix_F (pv 3) (pv 8) (fun _ _=>rfl)))
   (zac (zaS (PW.pt (zb8 (zar op_eq (pv 9) zab (zaw _)) (zbH (zar (ziE hu) (zax ix_F (zaJ hu (pv 2) (pv 9) (fun _ _=>rfl)) zab (fun _ _=>rfl)) (zbu pa_nil) (zaw _))))) (zac (zau (i:=9) sc_law_gone.nd (by rfl) (Or.inl rfl) (zax ix_F (pv 3) zab (fun _ _=>rfl)))
   (zaf (zau (i:=8) sc_law_gone.nd (by rfl) (Or.inl rfl) zab))) pss_nil)
   (zaf (zaS (zar (ziW hu) (zax ix_F (zaJ hu (pv 2) (pv 9) (fun _ _=>rfl)) zab (fun _ _=>rfl)) (zbu pa_nil) (zaw _)) (zac (zau (i:=10) sc_law_gone.nd (by rfl) (Or.inl rfl) (zai (zaj T) (hr.mono (by decide)) (by rfl) T.m_law_draw T.F_law_draw.kp T.b_law_draw .nil zao (zaa (pv 0) (zaa (zam call_lenF (by rfl) T.z_len (by decide +kernel) (zaa (zax ix_F (zaJ hu (pv 2) (pv 9) (fun _ _=>rfl)) zab (fun _ _=>rfl)) pa_nil)) pa_nil))))
   (zac (zau (i:=9) sc_law_gone.nd (by rfl) (Or.inl rfl) (zax ix_F (zax ix_F (zaJ hu (pv 2) (pv 9) (fun _ _=>rfl)) zab (fun _ _=>rfl)) (pv 10) (fun _ _=>rfl)))
   (zac (zau (i:=11) sc_law_gone.nd (by rfl) (Or.inl rfl) (zaH (pv 1) T.cl_Yard T.M_Yard_word (zcf T) (hr.mono (by decide)) T.b_Yard_word .nil zao (zaa (zat op_add (zat op_add (zax ix_F (pv 4) (pv 8) (fun _ _=>rfl)) zab) (pv 10)) pa_nil)))
   (zac (zaS (zb3 (zbo (zai (zci T) (hr.mono (by decide)) (by rfl) T.m_law_alike T.F_law_alike.kp T.b_law_alike .nil zao (zaa (pv 1) (zaa (pv 2) (zaa (pv 9) (zaa (pv 11) pa_nil))))))) (zaf (zaq zcM)) pss_nil)
   (zac (zaS (PW.pt (zb8 (zar op_ne (zfj hu (pv 5) (pv 9) (pv 11) ⟨rfl,rfl,rfl,rfl⟩) (pv 11) (zaw _)) (zbH (zar op_ne (zfj hu (pv 6) (pv 11) (pv 9) ⟨rfl,rfl,rfl,rfl⟩) (pv 9) (zaw _))))) (zaf (zaq zcM)) pss_nil)
   (zac (za4 hu (pv 5) (pv 9) (pv 11) (by rfl))
   (zac (za4 hu (pv 6) (pv 11) (pv 9) (by rfl))
   (zac (za2 (zgj PySem.F.plainAttrs_list PySem.F.slot_list_append PySem.F.type_list_append mt_append (pv 3) (zaa (pv 9) pa_nil)))
   (zaf (za2 (zgj PySem.F.plainAttrs_list PySem.F.slot_list_append PySem.F.type_list_append mt_append (pv 4) (zaa (pv 11) pa_nil)))))))))))) pss_nil)))))) pss_nil)))
   (zaf (zaq zcM))))),?_⟩
  generalize hG:tSeq (tFor _ _ _) _ = tail
  simp! [ze9]
  refine ⟨hs.map Sum.inl,by rw [List.map_map]; exact .of hhl,(hs.map φ).map V.int,.of hnl,by simp,by rw [List.length_map]; omega,fun dt ndt=>?_⟩
  have S1:Same H (upd H dt (.dK (za0 ((hs.map Sum.inl).zip ((hs.map φ).map V.int))))):=Same.laid ndt
  have hdt:upd H dt (.dK (za0 ((hs.map Sum.inl).zip ((hs.map φ).map V.int)))) dt = _:=zad
  revert S1 hdt
  generalize upd H dt (.dK (za0 ((hs.map Sum.inl).zip ((hs.map φ).map V.int)))) = H1
  intro S1 hdt
  refine ⟨(hs.map φ).map Sum.inl,by rw [List.map_map (g:=kV)]; exact .of (S1 _ _ hnl),hs.map V.int,.of (S1 _ _ hhl),by simp,by rw [List.length_map,List.length_map]; omega,fun dk ndk=>?_⟩
  have S2:Same H (upd H1 dk (.dK (za0 (((hs.map φ).map Sum.inl).zip (hs.map V.int))))):=S1.step ndk
  have hdk:upd H1 dk (.dK (za0 (((hs.map φ).map Sum.inl).zip (hs.map V.int)))) dk = _:=zad
  have hdt2:=zan (u:=.dK (za0 (((hs.map φ).map Sum.inl).zip (hs.map V.int)))) hdt ndk
  have dtk:dt ≠ dk:=zah hdt ndk
  have ndk0:=S1.free ndk
  have G0:Gn b hl nl dt dk H (upd H1 dk (.dK (za0 (((hs.map φ).map Sum.inl).zip (hs.map V.int))))) φ R hs:=by
   refine ⟨.of_same S2,S2 _ _ hhl,S2 _ _ hnl,⟨_,hdt2,Nat.le_trans (zbw _) (by simp),fun z x hv=>?_⟩,⟨_,hdk,Nat.le_trans (zbw _) (by simp),fun z x hv=>?_⟩,hR,x0,r0,eh,x00⟩
   ·have m:=zdf hv
    obtain ⟨v,_,rfl,e⟩:=zeY (f:=id) (g:=φ) (hs:=hs) (by rw [List.map_id]; exact m)
    exact e
   ·have m:=zdf hv
    obtain ⟨v,hv,e1,e⟩:=zeY (f:=φ) (g:=id) (hs:=hs) (by rw [List.map_id hs]; exact m)
    exact ⟨v,hR v hv,e1,e⟩
  have B0:=B.keep S2
  revert G0 B0
  generalize upd H1 dk (.dK (za0 (((hs.map φ).map Sum.inl).zip (hs.map V.int)))) = H2
  intro G0 B0
  clear hdt hdt2 hdk S1 S2 ndk
  subst hG
  generalize hP:tSeq (zfh (tVar 5) _ _) _ = tP
  generalize hCk:tSeq (tIfS (tOr (zeq (tOp rNe (zfI _ _ _) _)) _) _ _) tP = tC_
  generalize hA:tSeq (tIfS (tNot (tB (zed (zdi _) _ _ _))) _ _) tC_ = tA
  generalize hE:tIfS (zeq (tOp (rEqE true) _ _)) _ _ = tE
  generalize hD:tSeq (tIfS (tOr (zeq (tOp rEq _ _)) _) _ _) tE = tD
  generalize hH:tSeq (tAsg (tOp rIxF (tVar 3) (tVar 8)) _) tD = tH
  generalize hM:tSeq (tAsg (zed sp_draw _ _ _) (zbV 8)) _ = tM
  obtain ⟨Jv,hJ⟩:∃ Jv:Nat->St->Hp->Prop,∀ j σ Hc,Jv j σ Hc ↔ ∃ (hs':List Int) (v7 v8 v9 v10 v11:Option V),σ = [some (V.ref b),some (V.ref y.p),some (V.ref d),some (V.ref hl),some (V.ref nl),some (V.ref dt),some (V.ref dk),v7,v8,v9,v10,v11]∧BagAt Hc b c cs∧Gn b hl nl dt dk H Hc φ R hs'∧hs'.length ≤ 400 + j:=⟨_,fun _ _ _=>Iff.rfl⟩
  refine L2.for1 (H1:=H2) 60 (fun Q2 h2=>by simp! []; exact h2) (by decide) (by decide) Jv ((hJ _ _ _).mpr ⟨hs,_,_,_,_,_,rfl,B0,G0,by omega⟩) ?_ ?_
  ·intro j σ Hc hj hjv
   obtain ⟨hs',v7,v8,v9,v10,v11,rfl,Bc,Gc,lc⟩:=(hJ _ _ _).mp hjv
   have j60:j < 60:=hj
   generalize hEn:({ nx:=Jv (j + 1),rt:=_,bk:=_,ct:=Jv (j + 1) }:Ends) = En
   have nx:En.nx = Jv (j + 1):=by rw [← hEn]
   have ert:En.rt = Q:=by rw [← hEn]
   clear hEn
   have endk:∀ (Hd:Hp) (hs2:List Int) (v7 v8 v10:Option V) (z:Int),BagAt Hd b c cs->Gn b hl nl dt dk H Hd φ R hs2->hs2.length ≤ 400 + j->(z = 0 ∨ z ∈ R)->tP En [some (V.ref b),some (V.ref y.p),some (V.ref d),some (V.ref hl),some (V.ref nl),some (V.ref dt),some (V.ref dk),v7,v8,some (.int z),v10,some (.int (φ z))] Hd:=by
    intro Hd hs2 v7 v8 v10 z Bd Gd ld hz
    obtain ⟨k1,e1,l1,w1⟩:=Gd.th
    obtain ⟨k2,e2,l2,w2⟩:=Gd.bk
    have h1:=Gd.h1
    have h2:=Gd.h2
    subst hP
    have n1:hl ≠ dt:=fun z=>by rw [z,e1] at h1; cases h1
    have n2:hl ≠ dk:=fun z=>by rw [z,e2] at h1; cases h1
    have n3:nl ≠ dt:=fun z=>by rw [z,e1] at h2; cases h2
    have n4:nl ≠ dk:=fun z=>by rw [z,e2] at h2; cases h2
    have nb:∀ {q:Addr} {kvs:List (Key × V)},Hd q = some (.dK kvs)->q ≠ b∧q ≠ c:=fun {q kvs} e=>by
     refine ⟨fun z=>?_,fun z=>?_⟩
     ·obtain ⟨_,_,_,_,hb,_⟩:=Bd.ex
      rw [z,hb] at e
      cases e
     ·rw [z,Bd.at_] at e
      cases e
    simp! [e1,e2,h1,h2,tBM,rAppend,nx]
    have g2:upd Hd dt (.dK (putK k1 (.inl z) (.int (φ z)))) dk = some (.dK k2):=by rw [zag dtk.symm]; exact e2
    have g3:upd (upd Hd dt (.dK (putK k1 (.inl z) (.int (φ z))))) dk (.dK (putK k2 (.inl (φ z)) (.int z))) hl = some (.lst (hs2.map V.int)):=by rw [zag n2,zag n1]; exact h1
    have g4:upd (upd (upd Hd dt (.dK (putK k1 (.inl z) (.int (φ z))))) dk (.dK (putK k2 (.inl (φ z)) (.int z)))) hl (.lst (hs2.map V.int ++ [.int z])) nl = some (.lst ((hs2.map φ).map V.int)):=by rw [zag hn.symm,zag n4,zag n3]; exact h2
    have p1:=zaD k1 (.inl z) (.int (φ z))
    have p2:=zaD k2 (.inl (φ z)) (.int z)
    refine ⟨by omega,_,g2,by omega,.inl ⟨rfl,_,.of g3⟩,_,g3,by rw [List.length_map]; omega,.inl ⟨rfl,_,.of g4⟩,_,g4,by rw [List.length_map,List.length_map]; omega,(hJ _ _ _).mpr ⟨hs2 ++ [z],_,_,_,_,_,rfl,(((Bd.other (nb e1).1 (nb e1).2).other (nb e2).1 (nb e2).2).other hb1 hc1).other hb2 hc2,⟨((Gd.kq.new ndt).new ndk0).at1.at2,?_,?_,⟨putK k1 (.inl z) (.int (φ z)),?_,?_,fun v x hv=>?_⟩,⟨putK k2 (.inl (φ z)) (.int z),?_,?_,fun v x hv=>?_⟩,fun x hx=>?_,?_⟩,?_⟩⟩
    ·rw [zag hn,zad,List.map_append]; rfl
    ·rw [zad,List.map_append,List.map_append]; rfl
    ·rw [zag n3.symm,zag n1.symm,zag dtk,zad]
    ·rw [List.length_append,List.length_singleton]; omega
    ·rcases zey hv with ⟨e,rfl⟩ | h
     ·cases e; rfl
     ·exact w1 v x h
    ·rw [zag n4.symm,zag n2.symm,zad]
    ·rw [List.length_append,List.length_singleton]; omega
    ·rcases zey hv with ⟨e,rfl⟩ | h
     ·cases e; exact ⟨z,hz,rfl,rfl⟩
     ·exact w2 v x h
    ·rcases List.mem_append.mp hx with h | h
     ·exact Gd.in_ x h
     ·rw [List.mem_singleton.mp h]; exact hz
    ·obtain ⟨u,r,e,n⟩:=Gd.fst
     exact ⟨u,r ++ [z],by rw [e]; rfl,n⟩
    ·rw [List.length_append,List.length_singleton]; omega
   have eC:∀ (Hd:Hp) (hs2:List Int) (v7 v8 v10:Option V) (z:Int),BagAt Hd b c cs->Gn b hl nl dt dk H Hd φ R hs2->hs2.length ≤ 400 + j->(z = 0 ∨ z ∈ R)->tA En [some (V.ref b),some (V.ref y.p),some (V.ref d),some (V.ref hl),some (V.ref nl),some (V.ref dt),some (V.ref dk),v7,v8,some (.int z),v10,some (.int (φ z))] Hd:=by
    intro Hd hs2 v7 v8 v10 z Bd Gd ld hz
    obtain ⟨Yd_,BYd⟩:=st Hd Gd.kq
    subst hA
    simp! []
    refine ⟨y,d,ts,us,s,f,z,φ z,rfl,Yd_,BYd,CO.like Yd_.s1 hz,sm,fun He Se=>⟨true,rfl,?_⟩⟩
    rw [if_neg (by simp)]
    have Ge:=Gd.same Se
    have Be:=Bd.keep Se
    obtain ⟨k1,e1,l1,w1⟩:=Ge.th
    obtain ⟨k2,e2,l2,w2⟩:=Ge.bk
    subst hCk
    have o1:(valV k1 (.inl z)).getD (.int (φ z)) = .int (φ z):=by
     cases e:valV k1 (.inl z) with
     | none=>rfl
     | some x=>rw [w1 z x e]; rfl
    have o2:(valV k2 (.inl (φ z))).getD (.int z) = .int z:=by
     cases e:valV k2 (.inl (φ z)) with
     | none=>rfl
     | some x =>
      obtain ⟨v,hv,ev,rfl⟩:=w2 _ _ e
      rw [(CO.eq_iff Yd_.s1 hv hz).mp ev]; rfl
    simp! [zfI]
    refine ⟨.inl ⟨k1,.inl e1⟩,_,DGet.k (k:=.inl z) e1,by rw [o1]; rfl,?_⟩
    rw [if_neg (fun n=>n o1)]
    refine ⟨.inl ⟨k2,.inl e2⟩,_,DGet.k (k:=.inl (φ z)) e2,by rw [o2]; rfl,?_⟩
    rw [if_neg (fun n=>n o2)]
    exact endk He hs2 v7 v8 v10 z Be Ge ld hz
   have eE:∀ (Hd:Hp) (hs2:List Int) (v7 v10 v11:Option V) (i:Nat) (x:Int),BagAt Hd b c cs->Gn b hl nl dt dk H Hd φ R hs2->hs2.length ≤ 400 + j->hs2[i]? = some x->x ≠ 0->tE En [some (V.ref b),some (V.ref y.p),some (V.ref d),some (V.ref hl),some (V.ref nl),some (V.ref dt),some (V.ref dk),v7,some (.int i),some (.int x),v10,v11] Hd:=by
    intro Hd hs2 v7 v10 v11 i x Bd Gd ld hi x0
    have xR:=(Gd.in_ x (List.mem_of_getElem? hi)).resolve_left x0
    obtain ⟨_,t,ht,rfl,hut,hh⟩:=CO.th x xR
    obtain ⟨Yd_,⟨kvs,hd,hb⟩⟩:=st Hd Gd.kq
    obtain ⟨p,l,m,vk,b1,b2,b3⟩:=hb t ht
    subst hE
    generalize hU:tSeq (tAsg (zed sp_draw _ _ _) (zbV 10)) _ = tU
    simp! [hd,vk,b1,b2]
    intro le nle
    have Sx:Same Hd (upd Hd le (.lst [])):=Same.laid nle
    have Be:=Bd.keep Sx
    have Ge:=Gd.same Sx
    have a2:=Sx _ _ b2
    have a0:=Sx _ _ hd
    have a1:=Sx _ _ b1
    revert Be Ge a2 a0 a1
    generalize upd Hd le (.lst []) = He
    intro Be Ge a2 a0 a1
    refine ⟨_,by rw [a2]; rfl,by rw [a2]; rfl,?_⟩
    by_cases ce:t.2.1 = []
    ·rw [if_neg (by rw [ce]; simp),nx]
     exact (hJ _ _ _).mpr ⟨hs2,_,_,_,_,_,rfl,Be,Ge,by omega⟩
    ·have lp:0 < t.2.1.length:=List.length_pos_iff.mpr ce
     have l9:=(sm t ht).1
     rw [if_pos (by cases e:t.2.1 with
      | nil=>exact absurd e ce
      | cons _ _=>rfl)]
     subst hU
     simp! [a0,vk,a1,a2,List.length_map]
     refine ⟨b,c,cs,t.2.1.length,rfl,Be,by omega,by omega,fun jj Hf j0 j1 Bf kf=>?_⟩
     obtain ⟨n,rfl⟩:=Int.eq_ofNat_of_zero_le j0
     have nl1:n < t.2.1.length:=by omega
     have Gf:=Ge.kp Be kf ⟨hb1,hb2⟩
     obtain ⟨Yf,⟨kvs',hd',hb'⟩⟩:=st Hf Gf.kq
     obtain ⟨p',l',m',vk',c1,c2,c3⟩:=hb' t ht
     have hx:=List.getElem?_eq_getElem nl1
     have at1:atI (t.2.1.map V.int) ((n:Nat):Int) = some (.int t.2.1[n]):=zaU (by rw [List.getElem?_map,hx]; rfl)
     have at2:atI ((hs2.map φ).map V.int) ((i:Nat):Int) = some (.int (φ t.1)):=zaU (by rw [List.getElem?_map,List.getElem?_map,hi]; rfl)
     have g2:=Gf.h2
     have hp:=Yf.yard.ins
     have mb:=Yf.lay.mem hut
     have s1:=Yf.s1
     have es:thSz (φ t.1,t.2.1.map φ,t.2.2) = 1 + t.2.1.length + t.2.2.length:=by unfold thSz; simp
     have mb2:φ t.1 + thSz (φ t.1,t.2.1.map φ,t.2.2) ≤ f:=mb.2
     have mb1:s ≤ φ t.1:=mb.1
     simp! [hd',vk',c1,c2,at1,g2,at2,hp,zaI]
     have wd:zav us (φ t.1 + 1 + (n:Int)) = some (φ t.2.1[n]):=zbz Yf.lay hut n _ (by
      show (t.2.1.map φ ++ t.2.2)[n]? = _
      rw [List.getElem?_append_left (by rw [List.length_map]; exact nl1),List.getElem?_map,hx]; rfl)
     refine ⟨y,_,f,_,_,rfl,Yf.yard,zcB (f:=f) (by omega) (by omega) Yf.f1,fun v hv=>?_,fun nn=>?_⟩
     ·rw [wd] at hv
      cases hv
      exact eC Hf hs2 _ _ _ _ Bf Gf ld (hh _ (List.getElem_mem nl1))
     ·rw [wd] at nn
      cases nn
   have eD:∀ (Hd:Hp) (hs2:List Int) (v7 v9 v10 v11:Option V) (i:Nat) (x:Int),BagAt Hd b c cs->Gn b hl nl dt dk H Hd φ R hs2->hs2.length ≤ 400 + j->hs2[i]? = some x->tH En [some (V.ref b),some (V.ref y.p),some (V.ref d),some (V.ref hl),some (V.ref nl),some (V.ref dt),some (V.ref dk),v7,some (.int i),v9,v10,v11] Hd:=by
    intro Hd hs2 v7 v9 v10 v11 i x Bd Gd ld hi
    have at1:atI (hs2.map V.int) ((i:Nat):Int) = some (.int x):=zaU (by rw [List.getElem?_map,hi]; rfl)
    have h1:=Gd.h1
    subst hH
    simp! [h1,at1]
    subst hD
    have zero:∀ (He:Hp),BagAt He b c cs->Gn b hl nl dt dk H He φ R hs2->∃ x',seqO (He hl) = some x'∧∃ x1,atI x' 0 = some x1∧tE En [some (V.ref b),some (V.ref y.p),some (V.ref d),some (V.ref hl),some (V.ref nl),some (V.ref dt),some (V.ref dk),v7,some (.int 0),some x1,v10,v11] He:=by
     intro He Be Ge
     obtain ⟨x0,r0,ex,n0⟩:=Ge.fst
     have h1:=Ge.h1
     have at0:atI (hs2.map V.int) 0 = some (.int x0):=by rw [ex]; exact zdu
     exact ⟨_,by rw [h1]; rfl,_,at0,eE He hs2 _ _ _ 0 x0 Be Ge ld (by rw [ex]; rfl) n0⟩
    simp! []
    by_cases cx:x = 0
    ·rw [if_pos cx]
     exact zero Hd Bd Gd
    ·rw [if_neg cx]
     have xR:=(Gd.in_ x (List.mem_of_getElem? hi)).resolve_left cx
     obtain ⟨_,t,ht,rfl,hut,hh⟩:=CO.th x xR
     obtain ⟨Yd_,⟨kvs,hd,hb⟩⟩:=st Hd Gd.kq
     obtain ⟨p,l,m,vk,b1,b2,b3⟩:=hb t ht
     refine ⟨_,hd,_,vk,p,rfl,_,by rw [b1]; rfl,_,zgK,fun le nle=>⟨l,rfl,?_⟩⟩
     have Sx:Same Hd (upd Hd le (.lst [])):=Same.laid nle
     have Be:=Bd.keep Sx
     have Ge:=Gd.same Sx
     have a2:=Sx _ _ b2
     revert Be Ge a2
     generalize upd Hd le (.lst []) = He
     intro Be Ge a2
     refine ⟨_,by rw [a2]; rfl,by rw [a2]; rfl,?_⟩
     split
     ·exact zero He Be Ge
     ·exact eE He hs2 _ _ _ i t.1 Be Ge ld hi cx
   have more:∀ (v7:Option V),tM En [some (V.ref b),some (V.ref y.p),some (V.ref d),some (V.ref hl),some (V.ref nl),some (V.ref dt),some (V.ref dk),v7,v8,v9,v10,v11] Hc:=by
    intro v7
    subst hM
    have h1:=Gc.h1
    have lp:0 < hs'.length:=by obtain ⟨_,_,e,_⟩:=Gc.fst; rw [e]; simp
    simp! [h1,List.length_map]
    refine ⟨b,c,cs,hs'.length,rfl,Bc,by omega,by omega,fun a0 Hd a00 a01 Bd kd=>?_⟩
    have Gd:=Gc.kp Bc kd ⟨hb1,hb2⟩
    obtain ⟨n,rfl⟩:=Int.eq_ofNat_of_zero_le a00
    refine ⟨b,c,cs,3,rfl,Bd,by decide,by decide,fun r0 He r00 r01 Be ke=>⟨r0,rfl,?_⟩⟩
    have Ge:=Gd.kp Bd ke ⟨hb1,hb2⟩
    have h1:=Ge.h1
    have nl1:n < hs'.length:=by omega
    simp! [h1,List.length_map]
    split
    ·rw [show (hs'.length:Int) - 1 = ((hs'.length - 1:Nat):Int) by omega]
     exact eD He hs' _ _ _ _ _ _ Be Ge lc (List.getElem?_eq_getElem (by omega))
    ·exact eD He hs' _ _ _ _ _ _ Be Ge lc (List.getElem?_eq_getElem nl1)
   obtain ⟨x0,r0,ex,n0⟩:=Gc.fst
   have h1:=Gc.h1
   have at0:atI (hs'.map V.int) 0 = some (.int x0):=by rw [ex]; exact zdu
   simp! [h1,at0,nx]
   split
   ·exact more _
   ·refine ⟨b,c,cs,rfl,Bc,fun r=>⟨r,rfl,?_⟩⟩
    cases r with
    | true =>
     rw [if_pos rfl]
     exact ⟨_,by rw [h1]; rfl,_,at0,rfl,by rw [if_pos (fun z=>n0 (by cases z; rfl))]; exact more _⟩
    | false =>
     rw [if_neg (by simp)]
     exact (hJ _ _ _).mpr ⟨hs',_,_,_,_,_,rfl,Bc,Gc,by omega⟩
  ·intro σ Hc hjv
   obtain ⟨hs',v7,v8,v9,v10,v11,rfl,Bc,Gc,lc⟩:=(hJ _ _ _).mp hjv
   simp! []
   exact q hs' Hc Gc.in_ (by have:(60:Int).toNat = 60:=rfl; omega) Gc.h2
end
section
variable {P:Program} {w:World} {K:PySem.W.Frag} {mg:Str->Option Value} {base:Heap} {a:Ad}
noncomputable def spLaw (K:PySem.W.Frag):Sp:=fun vs H Q _=>∃ (a:Addr) (ns:List Int),vs = [.ref a]∧SqL K H a (ns.map V.int)∧ns.length ≤ 63∧∀ H',Q (.bl true) H'
theorem zgy {C x dx dw ds:Addr} {st:Int} {H H':Hp} (hx:H x = none) (hdx:H dx = none) (nx:dx ≠ x) (n1:upd (upd H dx (.own x)) x (.ins C dx []) dw = none) (n2:upd (upd H dx (.own x)) x (.ins C dx []) ds = none)
  (f:Fr (· = x) (upd (upd H dx (.own x)) x (.ins C dx [])) H') (Y:YardAt C H' ⟨x,dx,dw,ds⟩ (fun _=>none) [] st):Same H H'∧∀ L,NL L H->NL (ds :: dw :: x :: L) H':=by
 have hdx':upd (upd H dx (.own x)) x (.ins C dx []) dx = some (.own x):=by rw [zag nx]; exact zad
 have hxx:upd (upd H dx (.own x)) x (.ins C dx []) x = some (.ins C dx []):=zad
 have a1:dw ≠ x:=(zah hxx n1).symm
 have a2:dw ≠ dx:=(zah hdx' n1).symm
 have a3:ds ≠ x:=(zah hxx n2).symm
 have a4:ds ≠ dx:=(zah hdx' n2).symm
 have s:Same H H':=fun q o e=>f.keep q o (by rw [zag (zah e hx),zag (zah e hdx)]; exact e) (zah e hx)
 rw [zag a1,zag a2] at n1
 rw [zag a3,zag a4] at n2
 refine ⟨s,fun L N=>?_⟩
 obtain ⟨kw,hw,_⟩:=Y.words
 obtain ⟨ks,hs,_⟩:=Y.sizes
 have fr:∀ q,H q = none->q ∉ L:=fun q hq m=>by obtain ⟨o,e⟩:=N.2 q m; rw [hq] at e; cases e
 have N2:=N.same s
 refine ⟨?_,fun q hq=>?_⟩
 ·simp only [List.nodup_cons,List.mem_cons,not_or]
  exact ⟨⟨Y.ne.symm,a3,fr _ n2⟩,⟨a1,fr _ n1⟩,fr _ hx,N.1⟩
 ·rcases List.mem_cons.mp hq with e | hq
  ·rw [e]; exact ⟨_,hs⟩
  ·rcases List.mem_cons.mp hq with e | hq
   ·rw [e]; exact ⟨_,hw⟩
   ·rcases List.mem_cons.mp hq with e | hq
    ·rw [e]; exact ⟨_,Y.ins⟩
    ·exact N2.2 q hq
theorem zjd {xs:List V}:cutV xs (some 1) none = xs.drop 1:=by
 unfold cutV HT.sIx
 simp
 cases xs with
 | nil=>rfl
 | cons x l=>rw [List.length_cons,Nat.min_eq_left (by omega)]; exact List.take_of_length_le (by simp)
set_option maxHeartbeats 4000000 in
theorem zjm (T:Txt K mg a):FnOk P w K mg base (CX1 P w) 5 a.f_law a.d_law ["script"] (spLaw K):=by
 refine T.F_law.okC sc_law (fun vs H Q E h=>?_) (fun cdv A outer s H vs Q E hr h=>?_)
 ·obtain ⟨r,ns,rfl,_⟩:=h
  rfl
 ·obtain ⟨r,ns,rfl,hS,_,k⟩:=h
  have hu:=zaX hr
  refine ⟨_,(zac (zau (i:=1) sc_law.nd (by rfl) (Or.inl rfl) (zai (zfC T) (hr.mono (by decide)) (by rfl) T.m_law_bag T.F_law_bag.kp T.b_law_bag .nil zao (zaa (pv 0) pa_nil)))
   (zac (zau (i:=2) sc_law.nd (by rfl) (Or.inl rfl) (zai (zaj T) (hr.mono (by decide)) (by rfl) T.m_law_draw T.F_law_draw.kp T.b_law_draw .nil zao (zaa (pv 1) (zaa zab pa_nil))))
   (zac (zau (i:=3) sc_law.nd (by rfl) (Or.inl rfl) (zai (zd6 T) (hr.mono (by decide)) (by rfl) T.m_law_start T.F_law_start.kp T.b_law_start .nil zao (zaa (pv 1) pa_nil)))
   (zac (zau (i:=4) sc_law.nd (by rfl) (Or.inl rfl) (zgq T.M_Yard (zbG T) (hr.mono (by decide)) (by rfl) T.m_Yard T.b_Yard___init .nil zao (zaa (pv 3) pa_nil)))
   (zac (zau (i:=5) sc_law.nd (by rfl) (Or.inl rfl) (zai (zdI T) (hr.mono (by decide)) (by rfl) T.m_law_filled T.F_law_filled.kp T.b_law_filled .nil zao (zaa (pv 1) (zaa (pv 4) pa_nil))))
   (zac (zau (i:=6) sc_law.nd (by rfl) (Or.inr rfl) (zai (zeQ T) (hr.mono (by decide)) (by rfl) T.m_law_free T.F_law_free.kp T.b_law_free .nil zao (zaa (pv 3) (zaa (pv 5) pa_nil))))
   (zac (zau (i:=7) sc_law.nd (by rfl) (Or.inl rfl) (zat op_cat (zbu (zaa (zax ix_F (zax ix_F (pv 5) (zai (zaj T) (hr.mono (by decide)) (by rfl) T.m_law_draw T.F_law_draw.kp T.b_law_draw .nil zao (zaa (pv 1) (zaa (zam call_lenF (by rfl) T.z_len (by decide +kernel) (zaa (pv 5) pa_nil)) pa_nil))) (fun _ _=>rfl)) zab (fun _ _=>rfl)) pa_nil)) (zcr sl_list (zai (zdT T) (hr.mono (by decide)) (by rfl) T.m_law_roots T.F_law_roots.kp T.b_law_roots .nil zao (zaa (pv 1) (zaa (pv 5) pa_nil))) (zdy zab) po_none)))
   (zac (zau (i:=8) sc_law.nd (by rfl) (Or.inl rfl) pe_dnewK)
   (zac (za6 PassesOwn.never (by rfl) (zbc (pv 5)) (zas (i:=9) sc_law.nd (by rfl) (Or.inl rfl))
   (zaf (za4 hu (pv 8) (zax ix_F (pv 9) zab (fun _ _=>rfl)) (pv 9) (by rfl))))
   (zac (zau (i:=10) sc_law.nd (by rfl) (Or.inl rfl) (zaR call_list_of (by rfl) T.z_list (by decide +kernel) (zaa (pv 7) pa_nil)))
   (zac (za6 PassesOwn.never (by rfl) (za1 (by rfl) T.z_range (zaa (zat op_add zab (pv 2)) pa_nil)) (zas (i:=11) sc_law.nd (by rfl) (Or.inl rfl))
   (zac (zau (i:=12) sc_law.nd (by rfl) (Or.inl rfl) (zai (zgc T) (hr.mono (by decide)) (by rfl) T.m_carted T.F_carted.kp T.b_carted .nil zao (zaa (pv 4) (zaa (zaR call_list_of (by rfl) T.z_list (by decide +kernel) (zaa (pv 10) pa_nil)) pa_nil))))
   (zac (zaS (PW.pt (zb8 (zb3 (zbo (zam call_isF (by rfl) T.z_isinstance (by decide +kernel) (zaa (pv 12) (zaa (zc0 (v:=.ty "tuple") (u:=.type "tuple") (by rfl) T.z_tuple (by decide +kernel) (by rfl)) pa_nil))))) (zb8 (zar op_ne (zam call_lenF (by rfl) T.z_len (by decide +kernel) (zaa (pv 12) pa_nil)) zab (zaw _)) (zbH (zb3 (zbo (zam call_isF (by rfl) T.z_isinstance (by decide +kernel) (zaa (zax ix_F (pv 12) zab (fun _ _=>rfl)) (zaa (zc0 (v:=.ty "list") (u:=.type "list") (by rfl) T.z_list (by decide +kernel) (by rfl)) pa_nil))))))))) (zaf (zaq zcM)) pss_nil)
   (zac (zau (i:=10) sc_law.nd (by rfl) (Or.inl rfl) (zai (zcK T) (hr.mono (by decide)) (by rfl) T.m_law_partners T.F_law_partners.kp T.b_law_partners .nil zao (zaa (zax ix_F (pv 12) zab (fun _ _=>rfl)) (zaa (pv 10) pa_nil))))
   (zac (zaS (zcE (ziT (pv 10))) (zaf (zaq zcM)) pss_nil)
   (zaf (zau (i:=4) sc_law.nd (by rfl) (Or.inl rfl) (zax ix_F (pv 12) zab (fun _ _=>rfl)))))))))
   (zac (za6 PassesOwn.never (by rfl) (zig (by rfl) T.z_zip (zaa (pv 7) (zaa (pv 10) pa_nil))) (zc4 (n:=2) (by rfl) (zaN (zas (i:=13) sc_law.nd (by rfl) (Or.inl rfl)) (zaN (zas (i:=14) sc_law.nd (by rfl) (Or.inl rfl)) pgs_nil)))
   (zac (zaS (PW.pt (zb8 (PW.pt (zdK (zar op_ne (pv 14) zab (zaw _)) (zcF (zar op_lt (pv 14) (pv 6) (zaw _))))) (zbH (zb3 (zbo (zai (zci T) (hr.mono (by decide)) (by rfl) T.m_law_alike T.F_law_alike.kp T.b_law_alike .nil zao (zaa (pv 4) (zaa (pv 8) (zaa (pv 13) (zaa (pv 14) pa_nil)))))))))) (zaf (zaq zcM)) pss_nil)
   (zaf (zaS (zbo (zaH (pv 4) T.cl_Yard T.M_Yard_is_thing (zbq T) (hr.mono (by decide)) T.b_Yard_is_thing .nil zao (zaa (pv 13) pa_nil))) (zaf (zaq zcM)) pss_nil))))
   (zac (zaS (PW.pt (zb8 (zar op_ne (zam call_lenSet (by rfl) T.z_len (by decide +kernel) (zaa (zaR (zbk (by rfl)) (by rfl) T.z_set (by decide +kernel) (zaa (pv 7) pa_nil)) pa_nil)) (zam call_lenSet (by rfl) T.z_len (by decide +kernel) (zaa (zaR (zbk (by rfl)) (by rfl) T.z_set (by decide +kernel) (zaa (pv 10) pa_nil)) pa_nil)) (zaw _)) (zbH (zar op_ne (zam call_lenSet (by rfl) T.z_len (by decide +kernel) (zaa (zaR (zdH (by rfl) hr.units) (by rfl) T.z_set (by decide +kernel) (zaa (zeL (K:=K) (by rfl) (by rfl) (by rfl) T.z_list (by rfl) T.z_zip (zaa (pv 7) (zaa (pv 10) pa_nil))) pa_nil)) pa_nil)) (zam call_lenSet (by rfl) T.z_len (by decide +kernel) (zaa (zaR (zbk (by rfl)) (by rfl) T.z_set (by decide +kernel) (zaa (pv 7) pa_nil)) pa_nil)) (zaw _))))) (zaf (zaq zcM)) pss_nil)
   (zac (zaS (zb3 (zbo (zai (zeK T) (hr.mono (by decide)) (by rfl) T.m_law_gone T.F_law_gone.kp T.b_law_gone .nil zao (zaa (pv 1) (zaa (pv 4) (zaa (pv 8) (zaa (pv 7) (zaa (pv 10) pa_nil)))))))) (zaf (zaq zcM)) pss_nil)
   (zaf (zaq (zbM op_eq (zam call_lenF (by rfl) T.z_len (by decide +kernel) (zaa (zbr (N':=["new","free"]) (cap:=[none,some 6]) ⟨rfl,(by decide +kernel),(by decide +kernel),(by rfl),rfl,(by rfl)⟩ (by rfl) (zbc (pv 10)) (fun C_ ex_ s_ H_=>(zas (i:=0) (show (["new","free"]:List Str).Nodup by decide +kernel) (by rfl) (Or.inl rfl))) za3 (fun C_ ex_ s_ H_=>(zds (PW.pt (zdK (zar op_ne (pv 0) zab (zaw _)) (zcF (zar op_lt (pv 0) (pv 1) (zaw _))))))) (fun C_ ex_ s_ H_=>(pv 0))) pa_nil)) zab (zaw _)))))))))))))))))),?_⟩
  generalize hR:tRet (tOp _ _ _) = tR
  generalize hGn:tSeq (tIfS (tNot (tB (zed (zgx _) _ _ _))) _ _) tR = tGn
  generalize hSt:tSeq (tIfS (tOr _ _) _ _) tGn = tSt
  generalize hZ:tSeq (tFor (iZip _ _) _ _) tSt = tZ
  generalize hF2:tSeq (tFor (zdU _) _ _) tZ = tF2
  generalize hN:tSeq (tAsg _ (zbV 10)) tF2 = tN
  generalize hF1:tSeq (tFor _ _ _) tN = tF1
  generalize hBy:tSeq (tAsg _ (zbV 8)) tF1 = tBy
  generalize hRt:tSeq (tAsg _ (zbV 7)) tBy = tRt
  simp! []
  refine ⟨r,ns,rfl,hS,fun b c cs H1 nb nc B1 S1=>?_⟩
  simp! []
  refine ⟨b,c,cs,2,rfl,B1,by decide,by decide,fun tw H2 tw0 tw1 B2 k2=>?_⟩
  simp! []
  refine ⟨b,c,cs,rfl,B2,fun s0 H3 s00 s01 B3 k3=>?_⟩
  simp! []
  have N3:NL [c,b] H3:=⟨by simp [B3.ne],fun q hq=>by
   simp only [List.mem_cons,List.not_mem_nil,or_false] at hq
   rcases hq with rfl | rfl
   ·exact ⟨_,B3.at_⟩
   ·exact zb5 B3⟩
  intro x0 dx0 hx0 hdx0 nx0
  refine ⟨x0,dx0,s0,rfl,zad,fun dw0 ds0 H5 hdw0 hds0 Y0 F0=>⟨rfl,?_⟩⟩
  obtain ⟨S45,N5⟩:=zgy hx0 hdx0 nx0 hdw0 hds0 F0 Y0
  replace N5:=N5 _ N3
  refine ⟨b,c,⟨x0,dx0,dw0,ds0⟩,cs,s0,rfl,B3.keep S45,Y0,N5,s00,s01,fun tl g as ts fr H6 W l0 l400 gd=>?_⟩
  generalize hyd:(⟨x0,dx0,dw0,ds0⟩:Yd) = yd at W
  have ex:x0 = yd.p:=by rw [← hyd]
  rw [ex]
  clear hyd Y0 N5 hx0 hdx0 nx0 hdw0 hds0 F0 S45
  have lb:=Law.Lay.bound W.lay W.small
  have b0:fr ≤ 10 ^ 60:=by
   have p61:(10 ^ 59 + 19 * 400:Int) ≤ 10 ^ 60:=by decide
   omega
  refine ⟨tl,as,ts,s0,fr,rfl,W.rows,W.lay,by omega,fun H7 S7=>?_⟩
  have W7:=W.same S7
  subst hRt
  have top:=W7.rows.top
  simp! [top,List.length_map,W7.rows.len]
  refine ⟨b,c,cs,ts.length,rfl,W7.bag,by omega,by omega,fun i0 H8 i00 i01 B8 k8=>?_⟩
  obtain ⟨n,rfl⟩:=Int.eq_ofNat_of_zero_le i00
  have W8:=W7.drawn B8 k8
  have nlt:n < ts.length:=by omega
  have hx:=List.getElem?_eq_getElem nlt
  have mx:=List.getElem_mem nlt
  obtain ⟨aa,ha,r1,r2,r3⟩:=W8.rows.at_ hx
  revert hx mx r1
  generalize ts[n] = t0
  intro hx mx r1
  refine ⟨n,rfl,_,by rw [W8.rows.top]; rfl,_,zaU (by rw [List.getElem?_map,ha]; rfl),aa.1,rfl,_,by rw [r1]; rfl,_,zdu,fun l1 nl1=>?_⟩
  have W9:=W8.same (Same.laid nl1 (u:=.lst [V.int t0.1]))
  have hl1:upd H8 l1 (.lst [V.int t0.1]) l1 = some (.lst [V.int t0.1]):=zad
  have l1b:l1 ≠ b:=fun z=>by obtain ⟨u,e⟩:=zb5 W8.bag; rw [z,e] at nl1; cases nl1
  revert W9 hl1
  generalize upd H8 l1 (.lst [V.int t0.1]) = H9
  intro W9 hl1
  simp! [tSl,zhU,tNoPart]
  refine ⟨b,c,tl,cs,as,ts,rfl,W9.bag,fun H' B' k'=>(W9.drawn B' k').rows,l0,by omega,fun rl0 rts H10 nrl0 hrl0 lr gr B10 k10=>⟨rl0,_,rfl,.of hrl0,fun l2 nl2=>?_⟩⟩
  rw [zjd]
  have W10:=(W9.drawn B10 k10).same (Same.laid nl2 (u:=.lst ((rts.map V.int).drop 1)))
  have hl1':=zan (u:=.lst ((rts.map V.int).drop 1)) (k10 _ _ hl1 l1b) nl2
  have hl2:upd H10 l2 (.lst ((rts.map V.int).drop 1)) l2 = _:=zad
  revert W10 hl1' hl2
  generalize upd H10 l2 (.lst ((rts.map V.int).drop 1)) = H11
  intro W11 hl1' hl2
  refine ⟨l1,l2,_,_,rfl,rfl,hl1',hl2,by rw [List.length_drop,List.length_map,sizeLine_eq]; simp; omega,fun rl nrl=>?_⟩
  obtain ⟨roots,er⟩:∃ roots:List Int,roots = t0.1 :: rts.drop 1:=⟨_,rfl⟩
  have el:[V.int t0.1] ++ (rts.map V.int).drop 1 = roots.map V.int:=by rw [er,List.map_cons,List.map_drop]; rfl
  rw [el]
  have W12:=W11.same (Same.laid nrl (u:=.lst (roots.map V.int)))
  have hrl:upd H11 rl (.lst (roots.map V.int)) rl = some (.lst (roots.map V.int)):=zad
  have al:∀ q o,H11 q = some o->q ≠ rl:=fun q o e z=>by rw [z,nrl] at e; cases e
  have rin:∀ x ∈ roots,x = 0 ∨ x ∈ ts.map (·.1):=fun x hx=>by
   rw [er] at hx
   rcases List.mem_cons.mp hx with rfl | hx
   ·exact .inr (List.mem_map.mpr ⟨t0,mx,rfl⟩)
   ·exact (gr x (List.mem_of_mem_drop hx)).imp id fun ⟨t,ht,e⟩=>List.mem_map.mpr ⟨t,ht,e⟩
  have rlen:roots.length ≤ 400:=by rw [er,List.length_cons,List.length_drop]; omega
  have rfst:∃ x q,roots = x :: q∧x ≠ 0:=⟨_,_,er,by have:=(W.lay.mem mx).1; omega⟩
  have rlr:∀ (k:Nat) (x:Addr × Addr × Addr),as[k]? = some x->x.2.1 ≠ rl∧x.2.2 ≠ rl∧x.2.1 ≠ b∧x.2.2 ≠ b:=fun k x hx=>by
   have kl:k < ts.length:=by rw [← W11.rows.len]; exact (List.getElem?_eq_some_iff.mp hx).1
   obtain ⟨_,e2,e3⟩:=W11.rows.row k x _ hx (List.getElem?_eq_getElem kl)
   obtain ⟨g1,g2⟩:=W11.tags k x hx
   refine ⟨al _ _ e2,al _ _ e3,fun z=>?_,fun z=>?_⟩
   ·rw [z,W11.gb] at g1; cases g1
   ·rw [z,W11.gb] at g2; cases g2
  have rlb:rl ≠ b∧rl ≠ c:=⟨fun z=>by obtain ⟨u,e⟩:=zb5 W11.bag; exact al _ _ e z.symm,fun z=>al _ _ W11.bag.at_ z.symm⟩
  revert W12 hrl
  generalize upd H11 rl (.lst (roots.map V.int)) = H12
  intro W12 hrl
  clear hl1 hl1' hl2 W11 W9 W8 W7 al er el nrl
  subst hBy
  simp! []
  intro d nd
  subst hF1
  have R:=W12.rows
  refine forL (H1:=upd H12 d (.dK [])) tl (as.map fun a=>V.ref a.1) (fun Q2 h2=>by simp! []; exact h2) (fun i σ H2=>∃ (kvs:List (Key × V)) (v9:Option V),σ = [some (V.ref r),some (V.ref b),some (V.int tw),some (V.int s0),some (V.ref yd.p),some (V.ref tl),some (V.int fr),some (V.ref rl),some (V.ref d),v9,none,none,none,none,none]∧H2 d = some (.dK kvs)∧kvs.length ≤ i∧Same H12 H2∧∀ (k:Nat) (a:Addr × Addr × Addr) (t:Th),k < i->as[k]? = some a->ts[k]? = some t->valV kvs (Sum.inl t.1) = some (.ref a.1))
   ⟨[],_,rfl,zad,Nat.le_refl _,.laid nd,fun k a t h=>absurd h (Nat.not_lt_zero _)⟩ (fun i σ H2 _ ⟨_,_,_,_,_,S,_⟩=>.of (S _ _ R.top)) ?_ ?_
  ·rintro i x σ H2 hi ⟨kvs,v4,rfl,hd,lk,S,hv⟩
   obtain ⟨aa,ha,rfl⟩:=zaG hi
   have il:i < ts.length:=by rw [← R.len]; exact (List.getElem?_eq_some_iff.mp ha).1
   obtain ⟨r1,_,_⟩:=R.row i aa _ ha (List.getElem?_eq_getElem il)
   have r1':=S _ _ r1
   simp! [r1',hd]
   have lp:=zaD kvs (.inl ts[i].1) (.ref aa.1)
   refine ⟨by omega,by omega,zfl S nd,fun k a' t' hk h1 h2=>?_⟩
   rw [zaV]
   by_cases c:k = i
   ·subst c
    rw [ha] at h1
    cases h1
    rw [List.getElem?_eq_getElem il] at h2
    cases h2
    rw [if_pos rfl]
   ·have kl:=(List.getElem?_eq_some_iff.mp h2).1
    have r:=List.pairwise_iff_getElem.mp W.lay.rising k i (by rw [List.length_map]; exact kl) (by rw [List.length_map]; exact il) (by omega)
    rw [List.getElem_map,List.getElem_map,(List.getElem?_eq_some_iff.mp h2).2] at r
    rw [if_neg (fun e=>by injection e with e; omega)]
    exact hv k a' t' (by omega) h1 h2
  ·rintro σ H2 ⟨kvs,v9,rfl,hd,lk,S,hv⟩
   replace hv:∀ (k:Nat) (a:Addr × Addr × Addr) (t:Th),as[k]? = some a->ts[k]? = some t->valV kvs (Sum.inl t.1) = some (.ref a.1):=fun k a t h1 h2=>hv k a t (by rw [List.length_map]; exact (List.getElem?_eq_some_iff.mp h1).1) h1 h2
   have W13:=W12.same S
   have hrl:=S _ _ hrl
   have R:=W13.rows
   have BY:∀ H',(∀ q o,H2 q = some o->q ≠ b->q ≠ rl->H' q = some o)->ByAt H' d ts:=fun H' kp=>by
    have tb:∀ {q:Addr} {xs:List V},H2 q = some (.tup xs)->H' q = some (.tup xs):=fun {q xs} e=>kp _ _ e (fun z=>by obtain ⟨_,_,_,_,hb,_⟩:=W13.bag.ex; rw [z,hb] at e; cases e) (fun z=>by rw [z,hrl] at e; cases e)
    refine ⟨⟨kvs,kp _ _ hd (fun z=>by obtain ⟨_,_,_,_,hb,_⟩:=W13.bag.ex; rw [z,hb] at hd; cases hd) (fun z=>by rw [z,hrl] at hd; cases hd),fun t ht=>?_⟩⟩
    obtain ⟨k,hk⟩:=List.mem_iff_getElem?.mp ht
    obtain ⟨aa,ha,r1,r2,r3⟩:=R.at_ hk
    obtain ⟨n1,n2,n3,n4⟩:=rlr k aa ha
    exact ⟨_,_,_,hv k aa t ha hk,tb r1,kp _ _ r2 n3 n1,kp _ _ r3 n4 n2⟩
   clear hv lk S R
   subst hN
   simp! []
   refine ⟨_,.inl (.of hrl),fun nl0 nnl0=>?_⟩
   have S3:Same H2 (upd H2 nl0 (.lst (roots.map V.int))):=Same.laid nnl0
   have hn3:upd H2 nl0 (.lst (roots.map V.int)) nl0 = some (.lst (roots.map V.int)):=zad
   revert S3 hn3
   generalize upd H2 nl0 (.lst (roots.map V.int)) = H3
   intro S3 hn3
   subst hF2
   obtain ⟨Iv,hI⟩:∃ Iv:Nat->St->Hp->Prop,∀ i σ Hc,Iv i σ Hc ↔ ∃ (us:List Th) (lo fc:Int) (yc:Yd) (nl:Addr) (φ:Int->Int) (Rr:List Int) (v11 v12:Option V),σ = [some (V.ref r),some (V.ref b),some (V.int tw),some (V.int s0),some (V.ref yc.p),some (V.ref tl),some (V.int fr),some (V.ref rl),some (V.ref d),v9,some (V.ref nl),v11,v12,none,none]∧Same H2 Hc∧YdOk a.c_Yard Hc yc us lo fc∧Cor ts us lo φ Rr∧zcJ us∧us.length ≤ 400∧(fr ≤ fc∧fc ≤ 10 ^ 60 + 10000 * (i:Int))∧Hc nl = some (.lst ((roots.map φ).map V.int))∧(∀ x ∈ roots,x = 0 ∨ x ∈ Rr)∧(i = 0 ∨ fr ≤ lo)∧H2 nl = none:=⟨_,fun _ _ _=>Iff.rfl⟩
   have p61:(10:Int) ^ 60 + 20000 ≤ 10 ^ 61:=by decide
   have tw2:(1 + tw).toNat ≤ 2∧1 ≤ (1 + tw).toNat:=by omega
   refine L2.for1 (H1:=H3) (1 + tw) (fun Q2 h2=>by simp! []; exact h2) (by omega) (by omega) Iv ((hI _ _ _).mpr ⟨ts,s0,fr,yd,nl0,id,ts.map (·.1),_,_,rfl,S3,⟨W13.yard.same S3,W.lay,W.small,s00,by omega⟩,Cor.id_ W.lay s00 gd,gd,l400,⟨Int.le_refl _,by omega⟩,by rw [List.map_id]; exact hn3,rin,.inl rfl,nnl0⟩) ?_ ?_
   ·intro i σ Hc hi h
    obtain ⟨us,lo,fc,yc,nl,φ,Rr,v11,v12,rfl,Sc,Y,CO,gu,lu,⟨f1,f2⟩,hnl,rn,_,nnl⟩:=(hI _ _ _).mp h
    generalize hEn:({ nx:=Iv (i + 1),rt:=_,bk:=_,ct:=Iv (i + 1) }:Ends) = En
    have nx:En.nx = Iv (i + 1):=by rw [← hEn]
    have ert:En.rt = Q:=by rw [← hEn]
    clear hEn
    generalize hC1:tSeq (tIfS (tOr _ _) _ _) _ = tC1
    simp! []
    refine ⟨_,.inl (.of hnl),fun l4 nl4=>?_⟩
    have S4:Same Hc (upd Hc l4 (.lst ((roots.map φ).map V.int))):=Same.laid nl4
    have hl4:upd Hc l4 (.lst ((roots.map φ).map V.int)) l4 = some (.lst ((roots.map φ).map V.int)):=zad
    revert S4 hl4
    generalize upd Hc l4 (.lst ((roots.map φ).map V.int)) = H4
    intro S4 hl4
    have s1:=Y.s1
    have fle:fc ≤ 10 ^ 61:=Y.f1
    have ok:ThOk us:=⟨by omega,Y.small,fun t ht=>zcB (f:=fc) (by have:=(Y.lay.mem ht).1; omega) (by have:=(Y.lay.mem ht).2; have:=zaW t; omega) Y.f1⟩
    have rts:∀ x ∈ roots.map φ,x = 0 ∨ ∃ t ∈ us,t.1 = x:=fun x hx=>by
     obtain ⟨v,hv,rfl⟩:=List.mem_map.mp hx
     rcases rn v hv with rfl | z
     ·exact .inl CO.z
     ·obtain ⟨_,t,_,_,m,_⟩:=CO.th v z
      exact .inr ⟨_,m,rfl⟩
    have co:CartOk us fc (roots.map φ):=⟨rts,gu,by rw [List.length_map]; omega,by have:=Y.lay.le; omega,fle⟩
    refine ⟨yc,l4,us,lo,fc,roots.map φ,rfl,Y.yard.same S4,Y.lay,ok,hl4,co,fun r5 yf pl prs ord H5 ct nd th hr5 Y5 PR5 S5 n1 n2 n3 n4=>?_⟩
    have S25:=S4.trans S5
    have oln:=zbt nd th
    have PRt:=PR5.top
    have hnl5:=S25 _ _ hnl
    subst hC1
    generalize hC2:tSeq (tAsg _ (zbV 10)) _ = tC2
    simp! [hr5,PRt]
    rw [if_neg (fun z=>z rfl)]
    have n0:∀ x ∈ ord,x ≠ 0:=fun x hx=>by
     obtain ⟨t,ht,rfl⟩:=th x hx
     have:=(Y.lay.mem ht).1
     omega
    have ro:∀ x ∈ roots.map φ,x = 0 ∨ x ∈ ord:=fun x hx=>by
     by_cases c:x = 0
     ·exact .inl c
     ·exact .inr (zdc ct (List.mem_append_left _ hx) c)
    have el:=zdl ok.small (ord:=ord) (f:=fc)
    have ll:=(zbS (ts:=us) (f:=fc) (ord:=ord)).le
    have fl:=Y.lay.le
    subst hC2
    simp! [hr5]
    refine ⟨pl,nl,prs,us,fc,ord,roots.map φ,rfl,PR5,hnl5,nd,n0,ro,by omega,by rw [List.length_map]; omega,fun nl' H6 S6 nn e6=>?_⟩
    have hr6:=S6 _ _ hr5
    simp! [hr6,nx]
    refine (hI _ _ _).mpr ⟨zcm us fc ord,fc,zaQ us fc ord,yf,nl',mvOf (zal us fc ord) ∘ φ,_,_,_,rfl,Sc.trans (S25.trans S6),⟨Y5.same S6,zbS,zeD Y.small,by omega,by omega⟩,CO.comp (zhg Y.lay s1 ct nd th) Y.lay s1,zfw Y.lay ct nd,by unfold zcm; rw [List.length_map,zaC]; omega,⟨by omega,by omega⟩,by rw [e6,List.map_map (g:=mvOf (zal us fc ord))],fun x hx=>?_,.inr f1,(Sc.trans S25).free nn⟩
    rcases rn x hx with z | z
    ·exact .inl z
    ·refine .inr (List.mem_filter.mpr ⟨z,decide_eq_true ?_⟩)
     have:=CO.ge x z
     exact (ro _ (List.mem_map.mpr ⟨x,hx,rfl⟩)).resolve_left (by omega)
   ·intro σ Hc h
    obtain ⟨us,lo,fc,yc,nl,φ,Rr,v11,v12,rfl,Sc,Y,CO,gu,lu,⟨f1,f2⟩,hnl,rn,lo1,nnl⟩:=(hI _ _ _).mp h
    have flo:fr ≤ lo:=lo1.resolve_left (by omega)
    have s1:=Y.s1
    have old:∀ x ∈ roots,x < fr:=fun x hx=>by
     rcases rin x hx with rfl | z
     ·have:=W.lay.le; omega
     ·obtain ⟨t,ht,rfl⟩:=List.mem_map.mp z
      have:=(W.lay.mem ht).2
      have:=zaW t
      omega
    have hrlc:=Sc _ _ hrl
    dsimp only
    subst hZ
    obtain ⟨Zv,hZv⟩:∃ Zv:Nat->St->Hp->Prop,∀ i σ H4,Zv i σ H4 ↔ ∃ v13 v14:Option V,σ = [some (V.ref r),some (V.ref b),some (V.int tw),some (V.int s0),some (V.ref yc.p),some (V.ref tl),some (V.int fr),some (V.ref rl),some (V.ref d),v9,some (V.ref nl),v11,v12,v13,v14]∧Same Hc H4:=⟨_,fun _ _ _=>Iff.rfl⟩
    refine forZ (H1:=Hc) rl nl (roots.map V.int) ((roots.map φ).map V.int) (fun Q2 h2=>by simp! []; exact h2) Zv ((hZv _ _ _).mpr ⟨_,_,rfl,Same.refl _⟩) (by simp) (fun i σ H4 _ z=>by obtain ⟨_,_,_,S⟩:=(hZv _ _ _).mp z; exact ⟨.of (S _ _ hrlc),.of (S _ _ hnl)⟩) ?_ ?_
    ·intro i x y p σ H4 hx hy z np
     obtain ⟨v13,v14,rfl,S4⟩:=(hZv _ _ _).mp z
     generalize hEn:({ nx:=Zv (i + 1),rt:=_,bk:=_,ct:=Zv (i + 1) }:Ends) = En
     have nx:En.nx = Zv (i + 1):=by rw [← hEn]
     clear hEn
     obtain ⟨v,hv,rfl⟩:=zaG hx
     rw [List.getElem?_map,List.getElem?_map,hv] at hy
     cases hy
     have S5:=S4.step np (u:=.tup [V.int v,V.int (φ v)])
     refine zcc zad rfl ?_
     have mv:=List.mem_of_getElem? hv
     revert S5
     generalize upd H4 p (.tup [V.int v,V.int (φ v)]) = H5
     intro S5
     have Y5:=Y.same S5
     have hp:=Y5.yard.ins
     have BY5:=BY H5 fun q o e _ _=>S5 _ _ (Sc _ _ e)
     have nlt:φ v = 0 ∨ ¬ φ v < fr:=by
      rcases rn v mv with rfl | z
      ·exact .inl CO.z
      ·have:=CO.ge v z
       exact .inr (by omega)
     generalize hIs:tIfS (tB (zho _ _ _ _ _ _ _)) _ _ = tIs
     simp! []
     generalize hX:zdi a.c_Yard _ _ _ _ = X
     have go:X:=by
      rw [← hX]
      refine ⟨yc,d,ts,us,lo,fc,v,φ v,rfl,Y5,BY5,CO.like s1 (rn v mv),W.small,fun H6 S6=>⟨true,rfl,?_⟩⟩
      rw [if_neg (by simp)]
      have Y6:=Y5.same S6
      have hp:=Y6.yard.ins
      subst hIs
      simp! [hp,zaI]
      refine ⟨yc,v,fc,_,_,rfl,Y6.yard,fun ⟨t,ht,e⟩=>?_,fun _=>⟨false,rfl,?_⟩⟩
      ·obtain ⟨u,hu1,rfl⟩:=List.mem_map.mp ht
       have h1:=(Y6.lay.mem hu1).1
       have h2:=old v mv
       have e':u.1 = v:=e
       omega
      ·rw [if_neg (by simp),nx]
       exact (hZv _ _ _).mpr ⟨_,_,rfl,S5.trans S6⟩
     rcases nlt with z | z
     ·rw [if_neg (fun n=>n z)]
      exact go
     ·by_cases c:φ v = 0
      ·rw [if_neg (fun n=>n c)]
       exact go
      ·rw [if_pos c,if_neg z]
       exact go
    ·intro σ H4 z
     obtain ⟨v13,v14,rfl,S4⟩:=(hZv _ _ _).mp z
     have hrl4:=S4 _ _ hrlc
     have hnl4:=S4 _ _ hnl
     have e1:dc (roots.map φ) = dc roots:=by
      have:=zgR φ id roots fun x hx y hy=>CO.eq_iff s1 (rn x hx) (rn y hy)
      rw [List.map_id] at this
      exact this
     have d9:=zje roots
     dsimp only
     subst hSt
     generalize hT2:zeq (tOp rNe (tCB _ (zcn (tCB _ (zcn (zdp _ _) tNil)) tNil)) _) = tT2
     simp! []
     refine ⟨roots,hrl4,by omega,fun a1 na1=>⟨_,rfl,by omega,roots.map φ,zan hnl4 na1,by rw [List.length_map]; omega,fun a2 na2=>⟨_,rfl,by rw [e1]; omega,?_⟩⟩⟩
     rw [e1,if_neg (fun z=>z rfl)]
     have S6:=(Same.laid na1 (u:=SetN a1 (dc roots))).step na2 (u:=SetN a2 (dc roots))
     revert S6
     generalize upd (upd H4 a1 (SetN a1 (dc roots))) a2 (SetN a2 (dc roots)) = H6
     intro S6
     have S06:=S4.trans S6
     have hrl6:=S06 _ _ hrlc
     have hnl6:=S06 _ _ hnl
     subst hT2
     simp! [zdp]
     refine ⟨roots.map V.int,.inr (.inl ⟨rl,rfl,.of hrl6⟩),(roots.map φ).map V.int,.inr (.inl ⟨nl,rfl,.of hnl6⟩),by simp,by rw [List.length_map]; omega,fun D rs H7 S7 nD hD lrs rw7=>?_⟩
     have e2:dc (roots.map fun x=>([.inl x,.inl (φ x)]:List Key)) = dc roots:=by
      have:=zgR (fun x=>([.inl x,.inl (φ x)]:List Key)) id roots fun x _ y _=>⟨fun e=>by injection e with e; injection e,fun e=>by rw [show x = y from e]⟩
      rw [List.map_id] at this
      exact this
     refine ⟨rs,hD,roots.map fun x=>([.inl x,.inl (φ x)]:List Key),by rw [lrs]; simp,fun i b' k' h1 h2=>?_,by rw [List.length_map]; omega,fun a3 na3=>⟨_,rfl,by rw [e2]; omega,roots,zan (S7 _ _ hrl6) na3,by omega,fun a4 na4=>⟨_,rfl,by omega,?_⟩⟩⟩
     ·rw [List.getElem?_map] at h2
      cases ex:roots[i]? with
      | none=>rw [ex] at h2; cases h2
      | some x =>
       rw [ex] at h2
       cases h2
       exact rw7 i b' _ _ h1 (by rw [List.getElem?_map,ex]; rfl) (by rw [List.getElem?_map,List.getElem?_map,ex]; rfl)
     rw [e2] at na4
     rw [e2,if_neg (fun z=>z rfl)]
     have S8:=((S06.trans S7).step na3 (u:=SetN a3 (dc roots))).step na4 (u:=SetN a4 (dc roots))
     revert S8
     generalize upd (upd H7 a3 (SetN a3 (dc roots))) a4 (SetN a4 (dc roots)) = H8
     intro S8
     have S28:=Sc.trans S8
     have B8:=W13.bag.keep S28
     have Y8:=Y.same S8
     have hrl8:=S8 _ _ hrlc
     have hnl8:=S8 _ _ hnl
     have rnl:rl ≠ nl:=fun z=>by rw [z,nnl] at hrl; cases hrl
     have nlb:nl ≠ b∧nl ≠ c:=⟨(fun z=>by obtain ⟨u,e⟩:=zb5 W13.bag; rw [← z,nnl] at e; cases e),(fun z=>by have e:=W13.bag.at_; rw [← z,nnl] at e; cases e)⟩
     have st:∀ H',Kq b rl nl H8 H'->YdOk a.c_Yard H' yc us lo fc∧ByAt H' d ts:=fun H' kq=>by
      have nls:∀ {q:Addr} {o:HO},H8 q = some o->(∀ xs,o ≠ .lst xs)->¬ (q = b ∨ q = rl ∨ q = nl):=fun {q o} e n z=>by
       rcases z with rfl | rfl | rfl
       ·obtain ⟨_,_,_,_,hb,_⟩:=B8.ex
        rw [hb] at e; cases e; exact n _ rfl
       ·rw [hrl8] at e; cases e; exact n _ rfl
       ·rw [hnl8] at e; cases e; exact n _ rfl
      have F:Fr (fun q=>q = b ∨ q = rl ∨ q = nl) H8 H':=⟨fun q o e n=>kq q o e (fun z=>n (.inl z)) (fun z=>n (.inr (.inl z))) (fun z=>n (.inr (.inr z))),fun q xs e=>by
       have n:=nls e (fun _ z=>by cases z)
       exact kq q _ e (fun z=>n (.inl z)) (fun z=>n (.inr (.inl z))) (fun z=>n (.inr (.inr z)))⟩
      obtain ⟨kw,hw,_⟩:=Y8.yard.words
      obtain ⟨ks,hs,_⟩:=Y8.yard.sizes
      exact ⟨⟨Y8.yard.fr F (nls Y8.yard.ins (fun _ z=>by cases z)) (nls hw (fun _ z=>by cases z)) (nls hs (fun _ z=>by cases z)),Y.lay,Y.small,Y.s1,Y.f1⟩,BY H' fun q o e n1 n2=>kq q o (S28 _ _ e) n1 n2 (fun z=>by rw [z,nnl] at e; cases e)⟩
     subst hGn
     simp! []
     refine ⟨b,c,cs,yc,d,rl,nl,ts,us,lo,fc,φ,Rr,roots,rfl,B8,st,CO,hrl8,hnl8,rnl,⟨rlb.1,rlb.2,nlb.1,nlb.2⟩,rn,rlen,rfst,W.small,fun hs' H9 in' l5 hnl9=>⟨true,rfl,?_⟩⟩
     rw [if_neg (by simp)]
     subst hR
     simp! []
     refine ze0 (H1:=H9) nl ((hs'.map φ).map V.int) (fun _=>none) (fun Q2 h2=>by simp! []; exact h2) (.of hnl9) (by rw [sizeLine_eq,List.length_map,List.length_map]; omega) ?_ ?_
     ·intro x H10 R N hx S10 hR hN
      obtain ⟨v,hv,rfl⟩:=List.mem_map.mp hx
      obtain ⟨u,hu1,rfl⟩:=List.mem_map.mp hv
      simp! [zaT]
      have fin:N H10:=hN rfl _ (Same.refl _)
      rcases in' u hu1 with rfl | z
      ·rw [if_neg (fun n=>n CO.z)]
       exact fin
      ·have:=CO.ge u z
       rw [if_pos (by omega),if_neg (by omega)]
       exact fin
     ·intro D2 H10 hD2 S10 e10
      have e0:((hs'.map φ).map V.int).filterMap (fun _=>(none:Option V)) = []:=by
       rw [List.filterMap_eq_nil_iff]; exact fun _ _=>rfl
      rw [e0] at e10
      simp! [e10]
      exact k H10
end
set_option maxHeartbeats 4000000 in
theorem all_mk {l:PySem.W.OpenLaw} {w:World} {K:PySem.W.Frag} {h:Heap} {mg:Str->Option Value} {fa:Addr} {C_Yard:Addr} {X_NoSpot:Addr} {X_NoThing:Addr} {f0 f1 f2 f3 f4 f5 f6 f7 f8 f9 f10 f11 f12 f13 f14 f15 f16 f17 f18 f19 f20 f21 f22 f23 f24 f25 f26 f27 f28 f29 f30:Addr}
  (X:K.In h) (G:h.Ns mainGlobals mg) (hfa:mg "law" = some (.ref fa))
  (aC_Yard:PySem.W.nsIn K mainGlobals "Yard" = some (some (.ref C_Yard)))
  (pg_Yard:PySem.W.plainGet K C_Yard Str.empty = true)
  (hd_Yard:PySem.W.hasDictIn K C_Yard = true)
  (po_Yard:PySem.W.plainOver K C_Yard = true)
  (sa_Yard:PySem.W.findIn K (.ref C_Yard) "__setattr__" = some (some (.builtin "object.__setattr__")))
  (mk_Yard:PySem.W.makesIn K C_Yard = true)
  (kc_Yard:PySem.W.keepIn K (.ref C_Yard) = true)
  (nA_free:PySem.W.findIn K (.ref C_Yard) "free" = some none)
  (nA_words:PySem.W.findIn K (.ref C_Yard) "words" = some none)
  (nA_sizes:PySem.W.findIn K (.ref C_Yard) "sizes" = some none)
  (aX_NoSpot:PySem.W.nsIn K mainGlobals "NoSpot" = some (some (.ref X_NoSpot))) (qX_NoSpot:XCls K X_NoSpot)
  (aX_NoThing:PySem.W.nsIn K mainGlobals "NoThing" = some (some (.ref X_NoThing))) (qX_NoThing:XCls K X_NoThing)
  (a0:PySem.W.nsIn K mainGlobals "head" = some (some (.ref f0)))
  (F0:∃ fd,Fun K "head" "head" s_head f0 fd)
  (a1:PySem.W.findIn K (.ref C_Yard) "__init__" = some (some (.ref f1))) (i1:PySem.W.isFn K (.ref f1) = true)
  (F1:∃ fd,Fun K "__init__" "Yard.__init__" s_Yard___init f1 fd)
  (a2:PySem.W.findIn K (.ref C_Yard) "make" = some (some (.ref f2))) (i2:PySem.W.isFn K (.ref f2) = true)
  (F2:∃ fd,Fun K "make" "Yard.make" s_Yard_make f2 fd)
  (a3:PySem.W.findIn K (.ref C_Yard) "is_thing" = some (some (.ref f3))) (i3:PySem.W.isFn K (.ref f3) = true)
  (F3:∃ fd,Fun K "is_thing" "Yard.is_thing" s_Yard_is_thing f3 fd)
  (a4:PySem.W.findIn K (.ref C_Yard) "size_of" = some (some (.ref f4))) (i4:PySem.W.isFn K (.ref f4) = true)
  (F4:∃ fd,Fun K "size_of" "Yard.size_of" s_Yard_size_of f4 fd)
  (a5:PySem.W.findIn K (.ref C_Yard) "word" = some (some (.ref f5))) (i5:PySem.W.isFn K (.ref f5) = true)
  (F5:∃ fd,Fun K "word" "Yard.word" s_Yard_word f5 fd)
  (a6:PySem.W.findIn K (.ref C_Yard) "set_word" = some (some (.ref f6))) (i6:PySem.W.isFn K (.ref f6) = true)
  (F6:∃ fd,Fun K "set_word" "Yard.set_word" s_Yard_set_word f6 fd)
  (a7:PySem.W.findIn K (.ref C_Yard) "words_from" = some (some (.ref f7))) (i7:PySem.W.isFn K (.ref f7) = true)
  (F7:∃ fd,Fun K "words_from" "Yard.words_from" s_Yard_words_from f7 fd)
  (a8:PySem.W.findIn K (.ref C_Yard) "holds_of" = some (some (.ref f8))) (i8:PySem.W.isFn K (.ref f8) = true)
  (F8:∃ fd,Fun K "holds_of" "Yard.holds_of" s_Yard_holds_of f8 fd)
  (a9:PySem.W.findIn K (.ref C_Yard) "numbers_of" = some (some (.ref f9))) (i9:PySem.W.isFn K (.ref f9) = true)
  (F9:∃ fd,Fun K "numbers_of" "Yard.numbers_of" s_Yard_numbers_of f9 fd)
  (a10:PySem.W.nsIn K mainGlobals "lay_held" = some (some (.ref f10)))
  (F10:∃ fd,Fun K "lay_held" "lay_held" s_lay_held f10 fd)
  (a11:PySem.W.nsIn K mainGlobals "lay_words" = some (some (.ref f11)))
  (F11:∃ fd,Fun K "lay_words" "lay_words" s_lay_words f11 fd)
  (a12:PySem.W.nsIn K mainGlobals "carted" = some (some (.ref f12)))
  (F12:∃ fd,Fun K "carted" "carted" s_carted f12 fd)
  (a13:PySem.W.nsIn K mainGlobals "_law_bag" = some (some (.ref f13)))
  (F13:∃ fd,Fun K "_law_bag" "_law_bag" s_law_bag f13 fd)
  (a14:PySem.W.nsIn K mainGlobals "_law_draw" = some (some (.ref f14)))
  (F14:∃ fd,Fun K "_law_draw" "_law_draw" s_law_draw f14 fd)
  (a15:PySem.W.nsIn K mainGlobals "_law_more" = some (some (.ref f15)))
  (F15:∃ fd,Fun K "_law_more" "_law_more" s_law_more f15 fd)
  (a16:PySem.W.nsIn K mainGlobals "_law_whole" = some (some (.ref f16)))
  (F16:∃ fd,Fun K "_law_whole" "_law_whole" s_law_whole f16 fd)
  (a17:PySem.W.nsIn K mainGlobals "_law_start" = some (some (.ref f17)))
  (F17:∃ fd,Fun K "_law_start" "_law_start" s_law_start f17 fd)
  (a18:PySem.W.nsIn K mainGlobals "_law_worth" = some (some (.ref f18)))
  (F18:∃ fd,Fun K "_law_worth" "_law_worth" s_law_worth f18 fd)
  (a19:PySem.W.nsIn K mainGlobals "_law_size" = some (some (.ref f19)))
  (F19:∃ fd,Fun K "_law_size" "_law_size" s_law_size f19 fd)
  (a20:PySem.W.nsIn K mainGlobals "_law_many" = some (some (.ref f20)))
  (F20:∃ fd,Fun K "_law_many" "_law_many" s_law_many f20 fd)
  (a21:PySem.W.nsIn K mainGlobals "_law_hold" = some (some (.ref f21)))
  (F21:∃ fd,Fun K "_law_hold" "_law_hold" s_law_hold f21 fd)
  (a22:PySem.W.nsIn K mainGlobals "_law_field" = some (some (.ref f22)))
  (F22:∃ fd,Fun K "_law_field" "_law_field" s_law_field f22 fd)
  (a23:PySem.W.nsIn K mainGlobals "_law_filled" = some (some (.ref f23)))
  (F23:∃ fd,Fun K "_law_filled" "_law_filled" s_law_filled f23 fd)
  (a24:PySem.W.nsIn K mainGlobals "_law_roots" = some (some (.ref f24)))
  (F24:∃ fd,Fun K "_law_roots" "_law_roots" s_law_roots f24 fd)
  (a25:PySem.W.nsIn K mainGlobals "_law_free" = some (some (.ref f25)))
  (F25:∃ fd,Fun K "_law_free" "_law_free" s_law_free f25 fd)
  (a26:PySem.W.nsIn K mainGlobals "_law_thing" = some (some (.ref f26)))
  (F26:∃ fd,Fun K "_law_thing" "_law_thing" s_law_thing f26 fd)
  (a27:PySem.W.nsIn K mainGlobals "_law_alike" = some (some (.ref f27)))
  (F27:∃ fd,Fun K "_law_alike" "_law_alike" s_law_alike f27 fd)
  (a28:PySem.W.nsIn K mainGlobals "_law_partners" = some (some (.ref f28)))
  (F28:∃ fd,Fun K "_law_partners" "_law_partners" s_law_partners f28 fd)
  (a29:PySem.W.nsIn K mainGlobals "_law_gone" = some (some (.ref f29)))
  (F29:∃ fd,Fun K "_law_gone" "_law_gone" s_law_gone f29 fd)
  (a30:PySem.W.nsIn K mainGlobals "law" = some (some (.ref f30)))
  (F30:∃ fd,Fun K "law" "law" s_law f30 fd)
  (z_abs:PySem.W.nsIn K mainGlobals "abs" = some none)
  (z_bool:PySem.W.nsIn K mainGlobals "bool" = some none)
  (z_dict:PySem.W.nsIn K mainGlobals "dict" = some none)
  (z_enumerate:PySem.W.nsIn K mainGlobals "enumerate" = some none)
  (z_int:PySem.W.nsIn K mainGlobals "int" = some none)
  (z_isinstance:PySem.W.nsIn K mainGlobals "isinstance" = some none)
  (z_len:PySem.W.nsIn K mainGlobals "len" = some none)
  (z_list:PySem.W.nsIn K mainGlobals "list" = some none)
  (z_max:PySem.W.nsIn K mainGlobals "max" = some none)
  (z_range:PySem.W.nsIn K mainGlobals "range" = some none)
  (z_set:PySem.W.nsIn K mainGlobals "set" = some none)
  (z_sum:PySem.W.nsIn K mainGlobals "sum" = some none)
  (z_tuple:PySem.W.nsIn K mainGlobals "tuple" = some none)
  (z_zip:PySem.W.nsIn K mainGlobals "zip" = some none) :
  ∃ fd:FuncData,(∀ (s:Shared) (v:Value),BindsTo s fd ⟨[v],[]⟩ [("script",v)])∧∀ base:Heap,K.In base->base.Ns mainGlobals mg->FnOk l.prog w K mg base (CX1 l.prog w) 5 fa fd ["script"] (spLaw K):=by
 have e:=hfa.symm.trans (PySem.W.mg_of X G a30)
 cases e
 obtain ⟨_,F0⟩:=F0
 have b0:=F0.binds (ps:=["h","m"]) fun _ _ _ _ _ _ us hl=>by obtain ⟨_,_,rfl⟩:=lq2 us hl; rfl
 obtain ⟨_,F1⟩:=F1
 have b1:=F1.binds (ps:=["self","start"]) fun _ _ _ _ _ _ us hl=>by obtain ⟨_,_,rfl⟩:=lq2 us hl; rfl
 obtain ⟨_,F2⟩:=F2
 have b2:=F2.binds (ps:=["self","h","m"]) fun _ _ _ _ _ _ us hl=>by obtain ⟨_,_,_,rfl⟩:=lq3 us hl; rfl
 obtain ⟨_,F3⟩:=F3
 have b3:=F3.binds (ps:=["self","at"]) fun _ _ _ _ _ _ us hl=>by obtain ⟨_,_,rfl⟩:=lq2 us hl; rfl
 obtain ⟨_,F4⟩:=F4
 have b4:=F4.binds (ps:=["self","at"]) fun _ _ _ _ _ _ us hl=>by obtain ⟨_,_,rfl⟩:=lq2 us hl; rfl
 obtain ⟨_,F5⟩:=F5
 have b5:=F5.binds (ps:=["self","spot"]) fun _ _ _ _ _ _ us hl=>by obtain ⟨_,_,rfl⟩:=lq2 us hl; rfl
 obtain ⟨_,F6⟩:=F6
 have b6:=F6.binds (ps:=["self","spot","word"]) fun _ _ _ _ _ _ us hl=>by obtain ⟨_,_,_,rfl⟩:=lq3 us hl; rfl
 obtain ⟨_,F7⟩:=F7
 have b7:=F7.binds (ps:=["self","first","many"]) fun _ _ _ _ _ _ us hl=>by obtain ⟨_,_,_,rfl⟩:=lq3 us hl; rfl
 obtain ⟨_,F8⟩:=F8
 have b8:=F8.binds (ps:=["self","at"]) fun _ _ _ _ _ _ us hl=>by obtain ⟨_,_,rfl⟩:=lq2 us hl; rfl
 obtain ⟨_,F9⟩:=F9
 have b9:=F9.binds (ps:=["self","at"]) fun _ _ _ _ _ _ us hl=>by obtain ⟨_,_,rfl⟩:=lq2 us hl; rfl
 obtain ⟨_,F10⟩:=F10
 have b10:=F10.binds (ps:=["yard","fresh","holds","places","pairs"]) fun _ _ _ _ _ _ us hl=>by obtain ⟨_,_,_,_,_,rfl⟩:=lq5 us hl; rfl
 obtain ⟨_,F11⟩:=F11
 have b11:=F11.binds (ps:=["fresh","first","words"]) fun _ _ _ _ _ _ us hl=>by obtain ⟨_,_,_,rfl⟩:=lq3 us hl; rfl
 obtain ⟨_,F12⟩:=F12
 have b12:=F12.binds (ps:=["yard","roots"]) fun _ _ _ _ _ _ us hl=>by obtain ⟨_,_,rfl⟩:=lq2 us hl; rfl
 obtain ⟨_,F13⟩:=F13
 have b13:=F13.binds (ps:=["script"]) fun _ _ _ _ _ _ us hl=>by obtain ⟨_,rfl⟩:=lq1 us hl; rfl
 obtain ⟨_,F14⟩:=F14
 have b14:=F14.binds (ps:=["bag","many"]) fun _ _ _ _ _ _ us hl=>by obtain ⟨_,_,rfl⟩:=lq2 us hl; rfl
 obtain ⟨_,F15⟩:=F15
 have b15:=F15.binds (ps:=["bag"]) fun _ _ _ _ _ _ us hl=>by obtain ⟨_,rfl⟩:=lq1 us hl; rfl
 obtain ⟨_,F16⟩:=F16
 have b16:=F16.binds (ps:=["found"]) fun _ _ _ _ _ _ us hl=>by obtain ⟨_,rfl⟩:=lq1 us hl; rfl
 obtain ⟨_,F17⟩:=F17
 have b17:=F17.binds (ps:=["bag"]) fun _ _ _ _ _ _ us hl=>by obtain ⟨_,rfl⟩:=lq1 us hl; rfl
 obtain ⟨_,F18⟩:=F18
 have b18:=F18.binds (ps:=["bag"]) fun _ _ _ _ _ _ us hl=>by obtain ⟨_,rfl⟩:=lq1 us hl; rfl
 obtain ⟨_,F19⟩:=F19
 have b19:=F19.binds (ps:=["bag"]) fun _ _ _ _ _ _ us hl=>by obtain ⟨_,rfl⟩:=lq1 us hl; rfl
 obtain ⟨_,F20⟩:=F20
 have b20:=F20.binds (ps:=["bag"]) fun _ _ _ _ _ _ us hl=>by obtain ⟨_,rfl⟩:=lq1 us hl; rfl
 obtain ⟨_,F21⟩:=F21
 have b21:=F21.binds (ps:=["bag","things","k","chain"]) fun _ _ _ _ _ _ us hl=>by obtain ⟨_,_,_,_,rfl⟩:=lq4 us hl; rfl
 obtain ⟨_,F22⟩:=F22
 have b22:=F22.binds (ps:=["yard","things","k","j","worth"]) fun _ _ _ _ _ _ us hl=>by obtain ⟨_,_,_,_,_,rfl⟩:=lq5 us hl; rfl
 obtain ⟨_,F23⟩:=F23
 have b23:=F23.binds (ps:=["bag","yard"]) fun _ _ _ _ _ _ us hl=>by obtain ⟨_,_,rfl⟩:=lq2 us hl; rfl
 obtain ⟨_,F24⟩:=F24
 have b24:=F24.binds (ps:=["bag","things"]) fun _ _ _ _ _ _ us hl=>by obtain ⟨_,_,rfl⟩:=lq2 us hl; rfl
 obtain ⟨_,F25⟩:=F25
 have b25:=F25.binds (ps:=["start","things"]) fun _ _ _ _ _ _ us hl=>by obtain ⟨_,_,rfl⟩:=lq2 us hl; rfl
 obtain ⟨_,F26⟩:=F26
 have b26:=F26.binds (ps:=["yard","hold"]) fun _ _ _ _ _ _ us hl=>by obtain ⟨_,_,rfl⟩:=lq2 us hl; rfl
 obtain ⟨_,F27⟩:=F27
 have b27:=F27.binds (ps:=["yard","by","hold","new"]) fun _ _ _ _ _ _ us hl=>by obtain ⟨_,_,_,_,rfl⟩:=lq4 us hl; rfl
 obtain ⟨_,F28⟩:=F28
 have b28:=F28.binds (ps:=["found","roots"]) fun _ _ _ _ _ _ us hl=>by obtain ⟨_,_,rfl⟩:=lq2 us hl; rfl
 obtain ⟨_,F29⟩:=F29
 have b29:=F29.binds (ps:=["bag","yard","by","holds","news"]) fun _ _ _ _ _ _ us hl=>by obtain ⟨_,_,_,_,_,rfl⟩:=lq5 us hl; rfl
 obtain ⟨_,F30⟩:=F30
 obtain ⟨_,_,_,_,_,_,_,_,_,e_,_,_⟩:=F30.ex
 subst e_
 have b30:=F30.binds (ps:=["script"]) fun _ _ _ _ _ _ us hl=>by obtain ⟨_,rfl⟩:=lq1 us hl; rfl
 have T:Txt K mg ⟨_,_,_,_,_,_,_,_,_,_,_,_,_,_,_,_,_,_,_,_,_,_,_,_,_,_,_,_,_,_,_,_,_,_,_,_,_,_,_,_,_,_,_,_,_,_,_,_,_,_,_,_,_,_,_,_,_,_,_,_,_,_,_,_,_⟩:=⟨⟨pg_Yard,hd_Yard,po_Yard,sa_Yard⟩,PySem.W.mg_of X G aC_Yard,⟨mk_Yard,a1,i1,kc_Yard⟩,nA_free,nA_words,nA_sizes,qX_NoSpot,PySem.W.mg_of X G aX_NoSpot,qX_NoThing,PySem.W.mg_of X G aX_NoThing,F0,b0,PySem.W.mg_of X G a0,F1,b1,F2,b2,⟨a2,i2,F2.kp⟩,F3,b3,⟨a3,i3,F3.kp⟩,F4,b4,⟨a4,i4,F4.kp⟩,F5,b5,⟨a5,i5,F5.kp⟩,F6,b6,⟨a6,i6,F6.kp⟩,F7,b7,⟨a7,i7,F7.kp⟩,F8,b8,⟨a8,i8,F8.kp⟩,F9,b9,⟨a9,i9,F9.kp⟩,F10,b10,PySem.W.mg_of X G a10,F11,b11,PySem.W.mg_of X G a11,F12,b12,PySem.W.mg_of X G a12,F13,b13,PySem.W.mg_of X G a13,F14,b14,PySem.W.mg_of X G a14,F15,b15,PySem.W.mg_of X G a15,F16,b16,PySem.W.mg_of X G a16,F17,b17,PySem.W.mg_of X G a17,F18,b18,PySem.W.mg_of X G a18,F19,b19,PySem.W.mg_of X G a19,F20,b20,PySem.W.mg_of X G a20,F21,b21,PySem.W.mg_of X G a21,F22,b22,PySem.W.mg_of X G a22,F23,b23,PySem.W.mg_of X G a23,F24,b24,PySem.W.mg_of X G a24,F25,b25,PySem.W.mg_of X G a25,F26,b26,PySem.W.mg_of X G a26,F27,b27,PySem.W.mg_of X G a27,F28,b28,PySem.W.mg_of X G a28,F29,b29,PySem.W.mg_of X G a29,F30,b30,PySem.W.mg_of X G a30,PySem.W.mg_none_of X G z_abs,PySem.W.mg_none_of X G z_bool,PySem.W.mg_none_of X G z_dict,PySem.W.mg_none_of X G z_enumerate,PySem.W.mg_none_of X G z_int,PySem.W.mg_none_of X G z_isinstance,PySem.W.mg_none_of X G z_len,PySem.W.mg_none_of X G z_list,PySem.W.mg_none_of X G z_max,PySem.W.mg_none_of X G z_range,PySem.W.mg_none_of X G z_set,PySem.W.mg_none_of X G z_sum,PySem.W.mg_none_of X G z_tuple,PySem.W.mg_none_of X G z_zip⟩
 exact ⟨_,fun s v=>.of_eq rfl,fun base _ _=>zjm T⟩
theorem walk {l:PySem.W.OpenLaw} {q:Program} {loose:List Str} {XP:(Str->Option Value)->Heap->Prop} {YP:World->Heap->Prop} {d:DefRec} {K:Params->PySem.W.Frag} (hn:l.most = some 63) (hdf:d.params.defaults = [])
  (hY:∀ (w:World) (h:Heap),YP w h->(K w.params).In h)
  (F:∀ (w:World) (mg:Str->Option Value) (fa:Addr) (h:Heap),(K w.params).In h->h.Ns mainGlobals mg->mg d.name = some (.ref fa) ->
   ∃ fd:FuncData,(∀ (s:Shared) (u:Value),BindsTo s fd ⟨[u],[]⟩ [("script",u)])∧∀ base:Heap,(K w.params).In base->base.Ns mainGlobals mg->FnOk l.prog w (K w.params) mg base (CX1 l.prog w) 5 fa fd ["script"] (spLaw (K w.params))) :
  PySem.W.WalkO q loose XP YP l.row.toRowW d [] (fun f vs=>PySem.call f vs) :=
 L2.walk_of (n:=63) (k:=5) (x:="script") (CX:=fun w=>(CX1 l.prog w)) (sp:=fun w=>spLaw (K w.params)) hn (by decide) hdf ⟨rfl,by decide,by decide⟩ hY F (fun _ _ a ns hl _ hS=>⟨a,ns,rfl,hS,hl,fun _=>rfl⟩) (fun _ _ _ _ _ z=>by obtain ⟨_,_,_,_,_,_,_,_,_,_,_,_,z⟩:=z; exact z)
end Law
open PySem PySem.W PyProof.Rows
namespace PySem.W.Fast
theorem tw14957938619413012797 :True:=⟨⟩
theorem tw9103961060352542187 :True:=⟨⟩
theorem tw4255022355040933183 :True:=⟨⟩
theorem tw13624323747715066022 :True:=⟨⟩
theorem tw17792918621083370568 :True:=⟨⟩
theorem tw5872199740618592809 :True:=⟨⟩
theorem tw431738721758478852 :True:=⟨⟩
theorem tw16167079935048438156 :True:=⟨⟩
theorem tw915032133623466334 :True:=⟨⟩
theorem tw3547775938026948064 :True:=⟨⟩
theorem tw11657162211776230632 :True:=⟨⟩
theorem tw10364675028253626073 :True:=⟨⟩
theorem tw1814932687095437914 :True:=⟨⟩
theorem tw13132031929658318926 :True:=⟨⟩
theorem tw16320228375025120760 :True:=⟨⟩
theorem tw18077028671777675680 :True:=⟨⟩
theorem tw7787171873163120709 :True:=⟨⟩
theorem tw754895588606705738 :True:=⟨⟩
theorem tw17573270515016799190 :True:=⟨⟩
theorem tw17043853049922739388 :True:=⟨⟩
theorem tw14122860658535511172 :True:=⟨⟩
theorem tw5551832695843537361 :True:=⟨⟩
theorem tw10429999085170549775 :True:=⟨⟩
theorem tw15199333802512606549 :True:=⟨⟩
theorem tw2333430829902120616 :True:=⟨⟩
theorem tw12362726235913868207 :True:=⟨⟩
theorem tw12439873758660361637 :True:=⟨⟩
theorem tw11417971178299688497 :True:=⟨⟩
theorem tw3840446172819401046 :True:=⟨⟩
theorem tw1354179999152155305 :True:=⟨⟩
theorem tw13345389016334645209 :True:=⟨⟩
theorem tw15507721045326226511 :True:=⟨⟩
theorem tw14579594037755948230 :True:=⟨⟩
theorem tw13242657171611393889 :True:=⟨⟩
theorem tw7331897499734864308 :True:=⟨⟩
theorem tw15927059348479986290 :True:=⟨⟩
theorem tw8535011693862159681 :True:=⟨⟩
theorem tw9828418799110619175 :True:=⟨⟩
theorem tw11998043213498966148 :True:=⟨⟩
theorem tw4022395833873826945 :True:=⟨⟩
theorem tw12622330870590720687 :True:=⟨⟩
theorem tw14465690801891229156 :True:=⟨⟩
theorem tw8142108259115779256 :True:=⟨⟩
theorem tw14082673771749779684 :True:=⟨⟩
theorem tw4539912497336972969 :True:=⟨⟩
theorem tw16328811141296241834 :True:=⟨⟩
theorem tw1487732407368401387 :True:=⟨⟩
theorem tw12843361590397542976 :True:=⟨⟩
theorem tw17359835661759090533 :True:=⟨⟩
theorem tw13988112584235476521 :True:=⟨⟩
theorem tw4631941229259968731 :True:=⟨⟩
theorem tw2940871967207112680 :True:=⟨⟩
theorem tw11895642569208285443 :True:=⟨⟩
theorem tw9218956068658445839 :True:=⟨⟩
theorem tw2296142194301734995 :True:=⟨⟩
theorem tw16899982106369851721 :True:=⟨⟩
theorem tw5086383852975509112 :True:=⟨⟩
theorem tw15247493031080684183 :True:=⟨⟩
theorem tw11117166377508642957 :True:=⟨⟩
theorem tw11012456155213434102 :True:=⟨⟩
theorem tw10595215150724374857 :True:=⟨⟩
theorem tw16938709494604649933 :True:=⟨⟩
theorem tw15764768431387843017 :True:=⟨⟩
theorem tw17053182439159314600 :True:=⟨⟩
theorem tw10741645392888518165 :True:=⟨⟩
theorem tw15958813200906434005 :True:=⟨⟩
theorem tw12264634906306393374 :True:=⟨⟩
theorem tw18217153304080273018 :True:=⟨⟩
theorem tw17889547747743659681 :True:=⟨⟩
theorem tw11809019935402360055 :True:=⟨⟩
theorem tw10124131429942050922 :True:=⟨⟩
theorem tw6602752282412944460 :True:=⟨⟩
theorem tw17267666614628912637 :True:=⟨⟩
theorem tw1033920694101375776 :True:=⟨⟩
theorem tw2686846581876598412 :True:=⟨⟩
theorem tw4279627467604154956 :True:=⟨⟩
theorem tw3493584492130784452 :True:=⟨⟩
theorem tw11985650610978240418 :True:=⟨⟩
theorem tw18222323891455875694 :True:=⟨⟩
theorem tw5947467407143789004 :True:=⟨⟩
theorem tw18317135320506743920 :True:=⟨⟩
theorem tw14116128019637810319 :True:=⟨⟩
theorem tw4334138016957272115 :True:=⟨⟩
theorem tw12199571158131612213 :True:=⟨⟩
theorem tw12522557436998950879 :True:=⟨⟩
theorem tw2243673145566141135 :True:=⟨⟩
theorem tw4477750672986446851 :True:=⟨⟩
theorem tw8251457438871208872 :True:=⟨⟩
theorem tw11985703292203759499 :True:=⟨⟩
theorem tw15907468935435000745 :True:=⟨⟩
theorem tw17506045466607705139 :True:=⟨⟩
theorem tw11624336592718856201 :True:=⟨⟩
theorem tw8579434342192075408 :True:=⟨⟩
theorem tw1927626543301138441 :True:=⟨⟩
theorem tw5474144272035064174 :True:=⟨⟩
theorem tw125207269685983449 :True:=⟨⟩
theorem tw12877865310621620714 :True:=⟨⟩
theorem tw14426906802828218533 :True:=⟨⟩
theorem tw17276958255507448402 :True:=⟨⟩
theorem tw3002223002188843776 :True:=⟨⟩
theorem tw11703590572529342351 :True:=⟨⟩
theorem tw14884611690567030363 :True:=⟨⟩
theorem tw10466115476248148377 :True:=⟨⟩
theorem tw15106865370281355646 :True:=⟨⟩
theorem tw8740224845835753992 :True:=⟨⟩
theorem tw2616845639990988263 :True:=⟨⟩
theorem tw17225391466981353993 :True:=⟨⟩
theorem tw2539718252749694373 :True:=⟨⟩
theorem tw17099617677028309418 :True:=⟨⟩
theorem tw13634097908191515856 :True:=⟨⟩
theorem tw6541816497186627477 :True:=⟨⟩
theorem tw13822468020224284149 :True:=⟨⟩
theorem tw16787287078392642683 :True:=⟨⟩
theorem tw2431897752847074520 :True:=⟨⟩
theorem tw9841646354791361835 :True:=⟨⟩
theorem tw16553950795079081691 :True:=⟨⟩
theorem tw8064651280080261071 :True:=⟨⟩
theorem tw16651639302398882314 :True:=⟨⟩
theorem tw4118422070961212970 :True:=⟨⟩
theorem tw6382385490952664583 :True:=⟨⟩
theorem tw16399938702136028387 :True:=⟨⟩
theorem tw1604603431880099298 :True:=⟨⟩
theorem tw9922652644151442248 :True:=⟨⟩
theorem tw16448026271420045948 :True:=⟨⟩
theorem tw3300288963580855305 :True:=⟨⟩
theorem tw15691994266006183984 :True:=⟨⟩
theorem tw752447872534041003 :True:=⟨⟩
theorem tw560626842883320399 :True:=⟨⟩
theorem tw18000849664561892180 :True:=⟨⟩
theorem tw13050907437939651083 :True:=⟨⟩
theorem tw16790838952632201293 :True:=⟨⟩
theorem tw9083316041340096887 :True:=⟨⟩
theorem tw12824002589818008158 :True:=⟨⟩
theorem tw7862514061393640248 :True:=⟨⟩
theorem tw12388188728475877453 :True:=⟨⟩
theorem tw8711357854192772149 :True:=⟨⟩
theorem tw6894357102182520338 :True:=⟨⟩
theorem tw2808419468714221152 :True:=⟨⟩
theorem tw6349411845682137187 :True:=⟨⟩
theorem tw2385064400994987063 :True:=⟨⟩
theorem tw1396579437085840476 :True:=⟨⟩
theorem tw14665500579526691585 :True:=⟨⟩
theorem tw6319518713116985647 :True:=⟨⟩
theorem tw13434106450878352849 :True:=⟨⟩
theorem tw6264701879195389206 :True:=⟨⟩
theorem tw13510743423219132086 :True:=⟨⟩
theorem tw14129263249591602955 :True:=⟨⟩
theorem tw12242704983669788330 :True:=⟨⟩
theorem tw5123475783076111784 :True:=⟨⟩
theorem tw17025719079084213499 :True:=⟨⟩
theorem tw2847727172595653757 :True:=⟨⟩
theorem tw18238138416917021457 :True:=⟨⟩
theorem tw8993301746054849943 :True:=⟨⟩
theorem tw17469787904940721033 :True:=⟨⟩
theorem tw13968158804015428900 :True:=⟨⟩
theorem tw13861673247138055708 :True:=⟨⟩
theorem tw8829032947431562581 :True:=⟨⟩
theorem tw15922626942778120384 :True:=⟨⟩
theorem tw7197224608598400538 :True:=⟨⟩
theorem tw12994610628175870126 :True:=⟨⟩
theorem tw6950197789443801364 :True:=⟨⟩
theorem tw8904454849965305811 :True:=⟨⟩
theorem tw1129739591073638947 :True:=⟨⟩
theorem tw10748252870945999719 :True:=⟨⟩
theorem tw12613362652717655024 :True:=⟨⟩
theorem tw2391187832787435412 :True:=⟨⟩
theorem tw9282450893146202058 :True:=⟨⟩
theorem tw9835381129099209432 :True:=⟨⟩
theorem tw6048739534500177617 :True:=⟨⟩
theorem tw12313981491467649836 :True:=⟨⟩
theorem tw5848520275316393048 :True:=⟨⟩
theorem tw5449398606074686969 :True:=⟨⟩
theorem tw11861741104503559577 :True:=⟨⟩
theorem tw17300599615954231049 :True:=⟨⟩
theorem tw17811564207817097360 :True:=⟨⟩
theorem tw14887577547044169166 :True:=⟨⟩
theorem tw12632700457698896210 :True:=⟨⟩
theorem tw14367227621842596497 :True:=⟨⟩
theorem tw5074051684401525473 :True:=⟨⟩
theorem tw3927297375923520753 :True:=⟨⟩
theorem tw10633420624681766870 :True:=⟨⟩
theorem tw17769996186161361295 :True:=⟨⟩
theorem tw8355128669460061250 :True:=⟨⟩
theorem tw13132725141131538144 :True:=⟨⟩
theorem tw12233071077863631348 :True:=⟨⟩
theorem tw11393220707324413057 :True:=⟨⟩
theorem tw8063221501591937961 :True:=⟨⟩
theorem tw1556678680870909330 :True:=⟨⟩
theorem tw8725803005294578593 :True:=⟨⟩
theorem tw17283777204162366204 :True:=⟨⟩
theorem tw17182501670084918026 :True:=⟨⟩
theorem tw15348576800006552443 :True:=⟨⟩
theorem tw3399933672146998652 :True:=⟨⟩
theorem tw15169850972957443910 :True:=⟨⟩
theorem tw14505717158712995427 :True:=⟨⟩
theorem tw3284778188374323847 :True:=⟨⟩
theorem tw5093089567896059096 :True:=⟨⟩
theorem tw2475641326976612530 :True:=⟨⟩
theorem tw11303488998731774740 :True:=⟨⟩
theorem tw13899422186326850132 :True:=⟨⟩
theorem tw292484684532511607 :True:=⟨⟩
theorem tw10805749747124889487 :True:=⟨⟩
theorem tw9056780563362026509 :True:=⟨⟩
theorem tw16481720792831215921 :True:=⟨⟩
theorem tw7563196507519908544 :True:=⟨⟩
theorem tw10655570803164644457 :True:=⟨⟩
theorem tw7961565044351505687 :True:=⟨⟩
theorem tw8565829337088916099 :True:=⟨⟩
theorem tw15938875228534484554 :True:=⟨⟩
theorem tw9558699634843645326 :True:=⟨⟩
theorem tw8653634690332443511 :True:=⟨⟩
theorem tw3952286464283534458 :True:=⟨⟩
theorem tw4379257935998463654 :True:=⟨⟩
theorem tw17719834021662677209 :True:=⟨⟩
theorem tw5072537979846677152 :True:=⟨⟩
theorem tw4461629752336551337 :True:=⟨⟩
theorem tw10524369186707339807 :True:=⟨⟩
theorem tw12405572115977128218 :True:=⟨⟩
theorem tw3666289573590762239 :True:=⟨⟩
theorem tw16767781506013299936 :True:=⟨⟩
theorem tw14816955866394976591 :True:=⟨⟩
theorem tw6844872137733233329 :True:=⟨⟩
theorem tw448040456478503243 :True:=⟨⟩
theorem tw10714381998396873778 :True:=⟨⟩
theorem tw14339787649659817604 :True:=⟨⟩
theorem tw177241437754798212 :True:=⟨⟩
theorem tw8072607591054659026 :True:=⟨⟩
theorem tw7541047177211004811 :True:=⟨⟩
theorem tw4529754818921209688 :True:=⟨⟩
theorem tw18396825212623145714 :True:=⟨⟩
theorem tw13820584889679943403 :True:=⟨⟩
theorem tw5858066845528254742 :True:=⟨⟩
theorem tw11697608734095846208 :True:=⟨⟩
theorem tw5772605714110040875 :True:=⟨⟩
theorem tw15968491847520408146 :True:=⟨⟩
theorem tw7990382690332137360 :True:=⟨⟩
theorem tw13163800301218682569 :True:=⟨⟩
theorem tw3321878955199359809 :True:=⟨⟩
theorem tw7079728497219136241 :True:=⟨⟩
theorem tw3914346007023452792 :True:=⟨⟩
theorem tw15561012279328270184 :True:=⟨⟩
theorem tw3395426902181173781 :True:=⟨⟩
theorem tw13274039118120944766 :True:=⟨⟩
theorem tw8088681659685761922 :True:=⟨⟩
theorem tw16233823487680228566 :True:=⟨⟩
theorem tw2634904484627124266 :True:=⟨⟩
theorem tw4592608521601484330 :True:=⟨⟩
theorem tw16554759877321772030 :True:=⟨⟩
theorem tw14705915318494915252 :True:=⟨⟩
theorem tw9135974083007534367 :True:=⟨⟩
theorem tw5432165649461750580 :True:=⟨⟩
theorem tw776163136773719455 :True:=⟨⟩
theorem tw8832076642788659759 :True:=⟨⟩
theorem tw16536886641418030010 :True:=⟨⟩
theorem tw17683715701461088283 :True:=⟨⟩
theorem tw12081204626889131588 :True:=⟨⟩
theorem tw17004517510120492760 :True:=⟨⟩
theorem tw12032873115916166704 :True:=⟨⟩
theorem tw10866233134885081375 :True:=⟨⟩
theorem tw14851390082425480269 :True:=⟨⟩
end PySem.W.Fast
set_option maxRecDepth 100000 in
set_option maxHeartbeats 0 in
theorem PySem.Challenge.cw_knownholds_k08_whole_ways_are_alike_holds : PySem.Challenge.rw_knownholds_k08_whole_ways_are_alike.Holds := by
 w_on; o_law; k_head; (case hw=>w_witness2)
 k_fill
 refine Law.walk (l := PySem.Challenge.rw_knownholds_k08_whole_ways_are_alike) rfl rfl (fun w h Y => PySem.W.kIn_of Y) ?F
 case F =>
  intro w mg fa h KX G hmg
  refine' Law.all_mk KX G hmg ?aC_Yard ?pg_Yard ?hd_Yard ?po_Yard ?sa_Yard ?mk_Yard ?kc_Yard ?nA_free ?nA_words ?nA_sizes ?aX_NoSpot ?qX_NoSpot ?aX_NoThing ?qX_NoThing ?a0 ?F0 ?a1 ?i1 ?F1 ?a2 ?i2 ?F2 ?a3 ?i3 ?F3 ?a4 ?i4 ?F4 ?a5 ?i5 ?F5 ?a6 ?i6 ?F6 ?a7 ?i7 ?F7 ?a8 ?i8 ?F8 ?a9 ?i9 ?F9 ?a10 ?F10 ?a11 ?F11 ?a12 ?F12 ?a13 ?F13 ?a14 ?F14 ?a15 ?F15 ?a16 ?F16 ?a17 ?F17 ?a18 ?F18 ?a19 ?F19 ?a20 ?F20 ?a21 ?F21 ?a22 ?F22 ?a23 ?F23 ?a24 ?F24 ?a25 ?F25 ?a26 ?F26 ?a27 ?F27 ?a28 ?F28 ?a29 ?F29 ?a30 ?F30 ?z_abs ?z_bool ?z_dict ?z_enumerate ?z_int ?z_isinstance ?z_len ?z_list ?z_max ?z_range ?z_set ?z_sum ?z_tuple ?z_zip
  (case aC_Yard=>k_is)
  (case pg_Yard=>k_is)
  (case hd_Yard=>k_is)
  (case po_Yard=>k_is)
  (case sa_Yard=>k_is)
  (case mk_Yard=>k_is)
  (case kc_Yard=>k_is)
  (case nA_free=>k_is)
  (case nA_words=>k_is)
  (case nA_sizes=>k_is)
  (case aX_NoSpot=>k_is)
  (case qX_NoSpot=>(unfold L2.XCls; k_exc))
  (case aX_NoThing=>k_is)
  (case qX_NoThing=>(unfold L2.XCls; k_exc))
  (case a0=>k_is)
  (case F0=>exact ⟨_,L2.fun_mk (by k_is) (by k_is) (by k_is)⟩)
  (case a1=>k_is)
  (case i1=>k_is)
  (case F1=>exact ⟨_,L2.fun_mk (by k_is) (by k_is) (by k_is)⟩)
  (case a2=>k_is)
  (case i2=>k_is)
  (case F2=>exact ⟨_,L2.fun_mk (by k_is) (by k_is) (by k_is)⟩)
  (case a3=>k_is)
  (case i3=>k_is)
  (case F3=>exact ⟨_,L2.fun_mk (by k_is) (by k_is) (by k_is)⟩)
  (case a4=>k_is)
  (case i4=>k_is)
  (case F4=>exact ⟨_,L2.fun_mk (by k_is) (by k_is) (by k_is)⟩)
  (case a5=>k_is)
  (case i5=>k_is)
  (case F5=>exact ⟨_,L2.fun_mk (by k_is) (by k_is) (by k_is)⟩)
  (case a6=>k_is)
  (case i6=>k_is)
  (case F6=>exact ⟨_,L2.fun_mk (by k_is) (by k_is) (by k_is)⟩)
  (case a7=>k_is)
  (case i7=>k_is)
  (case F7=>exact ⟨_,L2.fun_mk (by k_is) (by k_is) (by k_is)⟩)
  (case a8=>k_is)
  (case i8=>k_is)
  (case F8=>exact ⟨_,L2.fun_mk (by k_is) (by k_is) (by k_is)⟩)
  (case a9=>k_is)
  (case i9=>k_is)
  (case F9=>exact ⟨_,L2.fun_mk (by k_is) (by k_is) (by k_is)⟩)
  (case a10=>k_is)
  (case F10=>exact ⟨_,L2.fun_mk (by k_is) (by k_is) (by k_is)⟩)
  (case a11=>k_is)
  (case F11=>exact ⟨_,L2.fun_mk (by k_is) (by k_is) (by k_is)⟩)
  (case a12=>k_is)
  (case F12=>exact ⟨_,L2.fun_mk (by k_is) (by k_is) (by k_is)⟩)
  (case a13=>k_is)
  (case F13=>exact ⟨_,L2.fun_mk (by k_is) (by k_is) (by k_is)⟩)
  (case a14=>k_is)
  (case F14=>exact ⟨_,L2.fun_mk (by k_is) (by k_is) (by k_is)⟩)
  (case a15=>k_is)
  (case F15=>exact ⟨_,L2.fun_mk (by k_is) (by k_is) (by k_is)⟩)
  (case a16=>k_is)
  (case F16=>exact ⟨_,L2.fun_mk (by k_is) (by k_is) (by k_is)⟩)
  (case a17=>k_is)
  (case F17=>exact ⟨_,L2.fun_mk (by k_is) (by k_is) (by k_is)⟩)
  (case a18=>k_is)
  (case F18=>exact ⟨_,L2.fun_mk (by k_is) (by k_is) (by k_is)⟩)
  (case a19=>k_is)
  (case F19=>exact ⟨_,L2.fun_mk (by k_is) (by k_is) (by k_is)⟩)
  (case a20=>k_is)
  (case F20=>exact ⟨_,L2.fun_mk (by k_is) (by k_is) (by k_is)⟩)
  (case a21=>k_is)
  (case F21=>exact ⟨_,L2.fun_mk (by k_is) (by k_is) (by k_is)⟩)
  (case a22=>k_is)
  (case F22=>exact ⟨_,L2.fun_mk (by k_is) (by k_is) (by k_is)⟩)
  (case a23=>k_is)
  (case F23=>exact ⟨_,L2.fun_mk (by k_is) (by k_is) (by k_is)⟩)
  (case a24=>k_is)
  (case F24=>exact ⟨_,L2.fun_mk (by k_is) (by k_is) (by k_is)⟩)
  (case a25=>k_is)
  (case F25=>exact ⟨_,L2.fun_mk (by k_is) (by k_is) (by k_is)⟩)
  (case a26=>k_is)
  (case F26=>exact ⟨_,L2.fun_mk (by k_is) (by k_is) (by k_is)⟩)
  (case a27=>k_is)
  (case F27=>exact ⟨_,L2.fun_mk (by k_is) (by k_is) (by k_is)⟩)
  (case a28=>k_is)
  (case F28=>exact ⟨_,L2.fun_mk (by k_is) (by k_is) (by k_is)⟩)
  (case a29=>k_is)
  (case F29=>exact ⟨_,L2.fun_mk (by k_is) (by k_is) (by k_is)⟩)
  (case a30=>k_is)
  (case F30=>exact ⟨_,L2.fun_mk (by k_is) (by k_is) (by k_is)⟩)
  (case z_abs=>k_is)
  (case z_bool=>k_is)
  (case z_dict=>k_is)
  (case z_enumerate=>k_is)
  (case z_int=>k_is)
  (case z_isinstance=>k_is)
  (case z_len=>k_is)
  (case z_list=>k_is)
  (case z_max=>k_is)
  (case z_range=>k_is)
  (case z_set=>k_is)
  (case z_sum=>k_is)
  (case z_tuple=>k_is)
  (case z_zip=>k_is)
