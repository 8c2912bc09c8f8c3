import PyProof.Rows.All
import Wide.All
import OpenK.AllK
import Wide.FinOn
import Lean
import PyProof.EqAt
import PyProof.EqKinds
import PyProof.TupleCall
import KE.KTab
import PyProof.ListRange
import KE.KTryMore
import KE.KIntText
import PyProof.DictUpdate
import PyProof.Rows.StrSplitAre
import PyProof.StrLawsTight
import PyProof.ToksMono
import KE.KStrOpen
import PyProof.StrCalls6
import PyProof.StrCalls3
import PyProof.Rows.StrStrike
import PySem.Challenge.RW_knownholds_k17_texts_that_are_none
set_option Elab.async false
set_option linter.all false
set_option maxRecDepth 100000
namespace L2
open PySem PySem.Spec PyProof.Rows
abbrev Key:=Sum Int Str
noncomputable def keyIs:Key->Value->Bool
 | .inl k,v=>Value.isInt k v
 | .inr x,v=>Value.isStrOf x v
noncomputable def keyH (w:World):Key->Int
 | .inl k=>hashInt k
 | .inr x=>hashStr w x
theorem keyIs_shape:∀ {k:Key} {v:Value},keyIs k v = true->(∃ i t,k = Sum.inl i∧v = Value.int i t) ∨ (∃ x t,k = Sum.inr x∧v = Value.str x t)
 | .inl i,v,h=>by
  obtain ⟨t,e⟩:=Value.isInt_shape (k:=i) (v:=v) h
  exact .inl ⟨i,t,rfl,e⟩
 | .inr x,v,h=>by
  obtain ⟨t,e⟩:=Value.isStrOf_shape (x:=x) (v:=v) h
  exact .inr ⟨x,t,rfl,e⟩
theorem zga (i:Int) (t:Tok):keyIs (.inl i) (.int i t) = true:=by simp [keyIs,Value.isInt]
theorem zfR (x:Str) (t:Tok):keyIs (.inr x) (.str x t) = true:=by simp [keyIs,Value.isStrOf]
theorem zjq (a b:Int):decide ((Sum.inl a:Key) = Sum.inl b) = (a == b):=by
 by_cases e:a = b
 ·subst e; simp
 ·have h:¬ (Sum.inl a:Key) = Sum.inl b:=fun q=>e (Sum.inl.inj q)
  rw [decide_eq_false h]
  exact (beq_eq_false_iff_ne.mpr e).symm
theorem zjf (a b:Str):decide ((Sum.inr a:Key) = Sum.inr b) = decide (a = b):=by
 by_cases e:a = b
 ·subst e; simp
 ·have h:¬ (Sum.inr a:Key) = Sum.inr b:=fun q=>e (Sum.inr.inj q)
  rw [decide_eq_false h,decide_eq_false e]
theorem zi6 (a:Int) (b:Str):decide ((Sum.inl a:Key) = Sum.inr b) = false:=decide_eq_false (fun q=>nomatch q)
theorem ziY (a:Str) (b:Int):decide ((Sum.inr a:Key) = Sum.inl b) = false:=decide_eq_false (fun q=>nomatch q)
noncomputable def zaJ (prog:Program) (w:World):PySem.KeyKind prog w Key where
 is:=keyIs
 hash:=keyH w
 inj:=fun v a b ha hb=>by
  rcases keyIs_shape ha with ⟨i,t,rfl,rfl⟩ | ⟨x,t,rfl,rfl⟩
  ·rcases keyIs_shape hb with ⟨j,u,rfl,e⟩ | ⟨y,u,rfl,e⟩
   ·injection e with e1 _; rw [e1]
   ·exact nomatch e
  ·rcases keyIs_shape hb with ⟨j,u,rfl,e⟩ | ⟨y,u,rfl,e⟩
   ·exact nomatch e
   ·injection e with e1 _; rw [e1]
 byValue:=fun k v h=>by
  rcases keyIs_shape h with ⟨i,t,rfl,rfl⟩ | ⟨x,t,rfl,rfl⟩ <;> rfl
 pyHash:=fun hv h=>by
  rcases keyIs_shape hv with ⟨i,t,rfl,rfl⟩ | ⟨x,t,rfl,rfl⟩
  ·exact wpAny_pyHash_int h
  ·exact wpAny_pyHash_str h
 eqBool:=fun hu hv h=>by
  rcases keyIs_shape hu with ⟨i,t,rfl,rfl⟩ | ⟨x,t,rfl,rfl⟩
  ·rcases keyIs_shape hv with ⟨j,u,rfl,rfl⟩ | ⟨y,u,rfl,rfl⟩
   ·rw [zjq] at h; exact wpAny_eqBool_int h
   ·rw [zi6] at h; exact SeqAt.EqAt.int_str i t y u _ _ _ _ h
  ·rcases keyIs_shape hv with ⟨j,u,rfl,rfl⟩ | ⟨y,u,rfl,rfl⟩
   ·rw [ziY] at h; exact SeqAt.EqAt.str_int x t j u _ _ _ _ h
   ·rw [zjf] at h; exact wpAny_eqBool_str h
 «strs»:=fun k x t v h=>by
  rcases keyIs_shape h with ⟨i,u,rfl,e⟩ | ⟨y,u,rfl,e⟩
  ·exact nomatch e
  ·injection e with e1 _
   subst e1
   cases v <;> rfl
theorem zei (prog:Program) (w:World) (i:Int) (t:Tok):(zaJ prog w).is (.inl i) (.int i t) = true:=zga i t
theorem zeb (prog:Program) (w:World) (x:Str) (t:Tok):(zaJ prog w).is (.inr x) (.str x t) = true:=zfR x t
end L2
namespace L2
open PySem PySem.Spec PyProof.Rows
inductive V where
 | non | bl (b:Bool) | int (i:Int) | str (x:Str) | byt (b:Array UInt8) | flt (b:UInt64) | ref (a:Addr) | ty (n:String)
 deriving DecidableEq
noncomputable def RelV:V->Value->Prop
 | .non,u=>u = Value.none
 | .bl b,u=>u = Value.bool b
 | .int i,u=>∃ t,u = Value.int i t
 | .str x,u=>∃ t,u = Value.str x t
 | .byt b,u=>∃ t,u = Value.bytes b t
 | .flt b,u=>∃ t,u = Value.float b t
 | .ref a,u=>u = Value.ref a
 | .ty n,u=>u = Value.type n
abbrev Vals:List V->List Value->Prop:=Paired RelV
theorem Vals.length {xs:List V} {us:List Value} (r:Vals xs us):xs.length = us.length:=Paired.length r
theorem Vals.get:∀ {xs:List V} {us:List Value} {i:Nat} {x:V},Vals xs us->xs[i]? = some x->∃ u,us[i]? = some u∧RelV x u
 | _,_,_,_,.nil,e=>by simp at e
 | _,_,0,_,.cons r _,e=>by simp at e; subst e; exact ⟨_,rfl,r⟩
 | _,_,i + 1,x,.cons _ t,e=>by
  obtain ⟨u,h1,h2⟩:=Vals.get (i:=i) (x:=x) t (by simpa using e)
  exact ⟨u,by simpa using h1,h2⟩
theorem Vals.set {x:V} {u:Value} (r:RelV x u):∀ {xs:List V} {us:List Value} (i:Nat),Vals xs us->Vals (xs.set i x) (us.set i u)
 | _,_,_,.nil=>.nil
 | _,_,0,.cons _ t=>.cons r t
 | _,_,i + 1,.cons q t=>.cons q (Vals.set r i t)
theorem Vals.append:∀ {xs ys:List V} {us ws:List Value},Vals xs us->Vals ys ws->Vals (xs ++ ys) (us ++ ws)
 | _,_,_,_,.nil,s=>s
 | _,_,_,_,.cons r t,s=>.cons r (Vals.append t s)
theorem Vals.take:∀ {xs:List V} {us:List Value} (n:Nat),Vals xs us->Vals (xs.take n) (us.take n)
 | _,_,0,_=>.nil
 | _,_,_ + 1,.nil=>.nil
 | _,_,n + 1,.cons r t=>.cons r (Vals.take n t)
theorem Vals.drop:∀ {xs:List V} {us:List Value} (n:Nat),Vals xs us->Vals (xs.drop n) (us.drop n)
 | _,_,0,r=>r
 | _,_,_ + 1,.nil=>.nil
 | _,_,n + 1,.cons _ t=>Vals.drop n t
noncomputable def RelO:Option V->Option Value->Prop
 | some v,some u=>RelV v u
 | none,none=>True
 | _,_=>False
noncomputable def KV {κ:Type}:List (κ × V)->List (κ × Value)->Prop:=Paired fun (p:κ × V) (q:κ × Value)=>p.1 = q.1∧RelV p.2 q.2
noncomputable def kV:Key->V
 | .inl i=>.int i
 | .inr x=>.str x
inductive HO where
  | lst (xs:List V)
  | tup (xs:List V)
  | dK (kvs:List (Key × V)) | dT (kvs:List (List Key × V))
  | set (S:Int->Bool) (n:Nat)
  | ins (C dx:Addr) (fs:List (Str × V))
  | own (x:Addr)
  | xd (fs:List (Str × V))
  | met (f x:Addr)
  | rng (lo hi:Int)
  | frz (o:Obj) (u:HO)
  | tbl (ps:Array Value)
  | ext (φ:Heap->Prop)
abbrev Hp:=Addr->Option HO
noncomputable def upd (H:Hp) (a:Addr) (o:HO):Hp:=fun b=>if b = a then some o else H b
theorem zad {H:Hp} {a:Addr} {o:HO}:upd H a o a = some o:=by unfold upd; rw [if_pos rfl]
theorem zat {H:Hp} {a b:Addr} {o:HO} (h:b ≠ a):upd H a o b = H b:=by unfold upd; rw [if_neg h]
theorem zes {H:Hp} {a:Addr} {o u:HO}:upd (upd H a o) a u = upd H a u:=by
 funext b; unfold upd; split <;> rfl
theorem zaA {H:Hp} {a b:Addr} {o:HO} (h:H a = some o) (h':H b = none):a ≠ b:=by
 intro e; subst e; rw [h] at h'; cases h'
section
variable (P:Program) (w:World)
noncomputable def za5 (H:Hp) (h:Heap) (a:Addr):HO->Prop
 | .lst xs=>xs.length ≤ sizeLine∧∃ (its:List Value) (n:Nat),Vals xs its∧h.get? a = some { cls:=.type "list",data:=.seq its.toArray n }
 | .tup xs=>xs.length ≤ sizeLine∧∃ its:List Value,Vals xs its∧IsTup h a its.toArray
 | .dK kvs=>kvs.length ≤ sizeLine∧(a == sysModules) = false∧∃ vs,KV kvs vs∧h.DictOf (zaJ P w) a vs
 | .dT kvs=>kvs.length ≤ sizeLine∧(a == sysModules) = false∧∃ xs:List (List Key × Addr × Value),
   Paired (fun (p:List Key × V) (q:List Key × Addr × Value)=>p.1 = q.1∧H q.2.1 = some (.tup (p.1.map kV))∧RelV p.2 q.2.2) kvs xs ∧
   ∃ o es ep,h.get? a = some o∧o.ExactDict∧o.data = .dict es ep∧es.toList = xs.map (entryOfKey (tupleKind (zaJ P w)))∧(xs.map (·.1)).Nodup
 | .set S n=>h.SetOf (intKind P w) a S n
 | .ins C dx fs=>H dx = some (.own a)∧fs.length ≤ 1000∧dx ≠ a∧h.get? a = some (PySem.W.instObj C dx) ∧
   ∃ mA,h.Ns1 dx mA∧(∀ f,RelO (fs.lookup f) (mA f))∧PySem.Within mA (fs.map (·.1))
 | .own _=>∃ o,h.get? a = some o
 | .xd fs=>∃ mA,h.Ns1 a mA∧∀ f,RelO (fs.lookup f) (mA f)
 | .rng lo hi=>∃ t u v,h.get? a = some { cls:=.type "range",data:=.fields #[.int lo t,.int hi u,.int 1 v] }
 | .frz o u=>h.get? a = some o∧za5 H h a u
 | .tbl ps=>h.get? a = some { cls:=.none,data:=.fields ps }
 | .met f x=>h.get? a = some (PySem.W.methodObj (.ref f) (.ref x))
 | .ext φ=>φ h∧(∃ o,h.get? a = some o)∧∀ h1 h2:Heap,φ h1->(∀ o,h1.get? a = some o->h2.get? a = some o)->φ h2
noncomputable def HOk (H:Hp) (h:Heap):Prop:=∀ a o,H a = some o->za5 P w H h a o
end
section
variable {P:Program} {w:World} {H H':Hp} {h h':Heap} {a:Addr} {o:HO}
theorem za5.lt (x:za5 P w H h a o):a < h.objs.size:=by
 cases o with
 | lst xs=>obtain ⟨_,_,_,_,e⟩:=x; exact Heap.lt_size e
 | tup xs=>obtain ⟨_,_,_,p⟩:=x; exact p.lt
 | dK kvs=>obtain ⟨_,_,_,_,o,_,_,e,_⟩:=x; exact Heap.lt_size e
 | dT kvs=>obtain ⟨_,_,_,_,o,_,_,e,_⟩:=x; exact Heap.lt_size e
 | set S n=>obtain ⟨o,_,_,_,e,_⟩:=x; exact Heap.lt_size e
 | ins C dx fs=>obtain ⟨_,_,_,e,_⟩:=x; exact Heap.lt_size e
 | own y=>obtain ⟨_,e⟩:=x; exact Heap.lt_size e
 | xd fs=>obtain ⟨_,⟨_,_,_,e,_⟩,_⟩:=x; exact Heap.lt_size e
 | rng lo hi=>obtain ⟨_,_,_,e⟩:=x; exact Heap.lt_size e
 | frz ob u=>obtain ⟨e,_⟩:=x; exact Heap.lt_size e
 | tbl ps=>exact Heap.lt_size (show h.get? a = some _ from x)
 | met f y=>exact Heap.lt_size (show h.get? a = some _ from x)
 | ext φ=>obtain ⟨_,⟨_,e⟩,_⟩:=x; exact Heap.lt_size e
theorem Paired.mapP {α β:Type} {F G:α->β->Prop}:∀ {l₁:List α} {l₂:List β},Paired F l₁ l₂->(∀ a b,F a b->G a b)->Paired G l₁ l₂
 | _,_,.nil,_=>.nil
 | _,_,.cons r t,f=>.cons (f _ _ r) (Paired.mapP t f)
theorem za5.stay (x:za5 P w H h a o) (k:∀ b u,(b = a ∨ H b = some (.own a))->h.get? b = some u->h'.get? b = some u)
  (ho:∀ b,H b = some (.own a)->H' b = some (.own a)) (ht:∀ b xs,H b = some (.tup xs)->H' b = some (.tup xs)):za5 P w H' h' a o:=by
 induction o with
 | lst xs=>obtain ⟨z,its,n,r,e⟩:=x; exact ⟨z,its,n,r,k _ _ (.inl rfl) e⟩
 | tup xs=>obtain ⟨z,its,r,ob,e,c⟩:=x; exact ⟨z,its,r,ob,k _ _ (.inl rfl) e,c⟩
 | dK kvs=>obtain ⟨z,y,vs,r,ob,es,ep,e,c⟩:=x; exact ⟨z,y,vs,r,ob,es,ep,k _ _ (.inl rfl) e,c⟩
 | dT kvs =>
  obtain ⟨z,y,xs,r,ob,es,ep,e,c⟩:=x
  exact ⟨z,y,xs,Paired.mapP r fun p q z=>⟨z.1,ht _ _ z.2.1,z.2.2⟩,ob,es,ep,k _ _ (.inl rfl) e,c⟩
 | set S n=>obtain ⟨ob,es,ep,t,e,c⟩:=x; exact ⟨ob,es,ep,t,k _ _ (.inl rfl) e,c⟩
 | ins C dx fs =>
  obtain ⟨d,z,ne,e,mA,⟨od,es,ep,e2,c⟩,r⟩:=x
  exact ⟨ho _ d,z,ne,k _ _ (.inl rfl) e,mA,⟨od,es,ep,k _ _ (.inr d) e2,c⟩,r⟩
 | own y=>obtain ⟨ob,e⟩:=x; exact ⟨ob,k _ _ (.inl rfl) e⟩
 | xd fs=>obtain ⟨mA,⟨od,es,ep,e,c⟩,r⟩:=x; exact ⟨mA,⟨od,es,ep,k _ _ (.inl rfl) e,c⟩,r⟩
 | rng lo hi=>obtain ⟨t,u,v,e⟩:=x; exact ⟨t,u,v,k _ _ (.inl rfl) e⟩
 | frz ob u ih=>obtain ⟨e,q⟩:=x; exact ⟨k _ _ (.inl rfl) e,ih q⟩
 | tbl ps =>
  have e:h.get? a = some { cls:=.none,data:=.fields ps }:=x
  show h'.get? a = some { cls:=.none,data:=.fields ps }
  exact k a _ (.inl rfl) e
 | met f y =>
  have e:h.get? a = some (PySem.W.methodObj (.ref f) (.ref y)):=x
  show h'.get? a = some (PySem.W.methodObj (.ref f) (.ref y))
  exact k a _ (.inl rfl) e
 | ext φ=>obtain ⟨p,⟨o,e⟩,st⟩:=x; exact ⟨st _ _ p fun o q=>k _ _ (.inl rfl) q,⟨o,k _ _ (.inl rfl) e⟩,st⟩
theorem HOk.lt (x:HOk P w H h) (e:H a = some o):a < h.objs.size:=(x a o e).lt
theorem HOk.fresh (x:HOk P w H h) (e:h.objs.size ≤ a):H a = none:=by
 cases q:H a with
 | none=>rfl
 | some u=>exact absurd (Nat.lt_of_lt_of_le (x.lt q) e) (Nat.lt_irrefl _)
theorem HOk.kept (x:HOk P w H h) (k:∀ b u,h.get? b = some u->h'.get? b = some u):HOk P w H h':=fun a o e =>
 (x a o e).stay (fun b u _ q=>k b u q) (fun _ q=>q) fun _ _ q=>q
theorem HOk.laid (x:HOk P w H h) (k:∀ b u,h.get? b = some u->h'.get? b = some u) (hp:h.objs.size ≤ a) (new:za5 P w (upd H a o) h' a o):HOk P w (upd H a o) h':=fun b u e=>by
 have hn:=x.fresh hp
 by_cases hb:b = a
 ·subst hb; rw [zad] at e; cases e; exact new
 ·rw [zat hb] at e
  exact (x b u e).stay (fun c v _ q=>k c v q) (fun c q=>by rw [zat (zaA q hn)]; exact q) fun c xs q=>by rw [zat (zaA q hn)]; exact q
end
noncomputable def Rd (H:Hp) (a:Addr) (u:HO):Prop:=H a = some u ∨ ∃ o,H a = some (.frz o u)
theorem Rd.ok {P:Program} {w:World} {H:Hp} {h:Heap} {a:Addr} {u:HO} (r:Rd H a u) (x:HOk P w H h):za5 P w H h a u:=by
 rcases r with r | ⟨o,r⟩
 ·exact x a u r
 ·obtain ⟨_,q⟩:=x a _ r
  exact q
noncomputable def Mut:Option HO->Prop
 | some (.lst _)=>True
 | some (.dK _)=>True
 | some (.dT _)=>True
 | some (.set _ _)=>True
 | some (.ins _ _ _)=>True
 | some (.ext _)=>True
 | _=>False
section
variable {P:Program} {w:World} {H:Hp} {h h':Heap} {x e:Addr} {o':HO}
theorem HOk.write (ok:HOk P w H h) (mu:Mut (H x)) (he:e = x ∨ H e = some (.own x)) (k:∀ b u,b ≠ e->h.get? b = some u->h'.get? b = some u) (heo:∃ u,h'.get? e = some u)
  (new:za5 P w (upd H x o') h' x o'):HOk P w (upd H x o') h':=fun b u q=>by
 have nown:∀ c y,H c = some (.own y)->c ≠ x:=fun c y r z=>by subst z; rw [r] at mu; exact mu
 have ntup:∀ c xs,H c = some (.tup xs)->c ≠ x:=fun c xs r z=>by subst z; rw [r] at mu; exact mu
 by_cases hb:b = x
 ·subst hb; rw [zad] at q; cases q; exact new
 ·rw [zat hb] at q
  by_cases hbe:b = e
  ·have q':H b = some (.own x):=by
    rcases he with z | z
    ·exact absurd (hbe.trans z) hb
    ·rw [hbe]; exact z
   rw [q] at q'; cases q'
   obtain ⟨v,hv⟩:=heo
   exact ⟨v,by rw [hbe]; exact hv⟩
  ·refine (ok b u q).stay (fun c v hc r=>k c v ?_ r) (fun c r=>by rw [zat (nown c b r)]; exact r) fun c xs r=>by rw [zat (ntup c xs r)]; exact r
   rcases hc with rfl | hc
   ·exact hbe
   ·rintro rfl
    rcases he with z | z
    ·exact nown c b hc z
    ·rw [hc] at z; cases z; exact hb rfl
end
structure Un (fs ex:List Addr) (H H':Hp) (h h':Heap):Prop where
 keep:∀ b o,h.get? b = some o->H b = none->b ∉ fs->b ∉ ex->h'.get? b = some o
 slot:∀ b o,h.get? b = some o->H b = none->b ∈ fs->b ∉ ex->∃ sl,h'.get? b = some { o with slots:=sl }
 free:∀ b o,h.get? b = some o->H b = none->b ∉ ex->H' b = none
 there:∀ b o,h.get? b = some o->b ∉ ex->∃ o',h'.get? b = some o'
 tups:∀ b xs,H b = some (.tup xs)->H' b = some (.tup xs)
 frzs:∀ b o u,H b = some (.frz o u)->H' b = some (.frz o u)
 tbls:∀ b ps,H b = some (.tbl ps)->∃ more,H' b = some (.tbl (ps ++ more))
section
variable {fs fs' ex ex':List Addr} {H H1 H2:Hp} {h h1 h2 h':Heap} {a x e:Addr} {o:HO}
theorem Un.any (u:Un fs ex H H1 h h1) {b:Addr} {ob:Obj} (q:h.get? b = some ob) (n:H b = none) (hx:b ∉ ex):∃ sl,h1.get? b = some { ob with slots:=sl }:=by
 by_cases hb:b ∈ fs
 ·exact u.slot b ob q n hb hx
 ·exact ⟨ob.slots,u.keep b ob q n hb hx⟩
theorem Un.kept (k:∀ b u,h.get? b = some u->h'.get? b = some u):Un fs ex H H h h' :=
 ⟨fun b ob q _ _ _=>k b ob q,fun b ob q _ _ _=>⟨ob.slots,k b ob q⟩,fun _ _ _ n _=>n,fun b ob q _=>⟨ob,k b ob q⟩,fun _ _ q=>q,fun _ _ _ q=>q,fun _ ps q=>⟨#[],by rw [q]; simp⟩⟩
theorem Un.refl:Un fs ex H H h h:=Un.kept fun _ _ q=>q
theorem Un.laid (k:∀ b u,h.get? b = some u->h'.get? b = some u) (hp:h.objs.size ≤ a) (hn:H a = none):Un fs ex H (upd H a o) h h' where
 keep:=fun b u q _ _ _=>k b u q
 slot:=fun b u q _ _ _=>⟨u.slots,k b u q⟩
 free:=fun b u q n _=>by rw [zat (Nat.ne_of_lt (Nat.lt_of_lt_of_le (Heap.lt_size q) hp))]; exact n
 there:=fun b u q _=>⟨u,k b u q⟩
 tups:=fun b xs q=>by rw [zat (zaA q hn)]; exact q
 frzs:=fun b u xs q=>by rw [zat (zaA q hn)]; exact q
 tbls:=fun b ps q=>⟨#[],by rw [zat (zaA q hn),q]; simp⟩
theorem Un.write (mu:Mut (H x)) (he:e = x ∨ H e = some (.own x)) (k:∀ b u,b ≠ e->h.get? b = some u->h'.get? b = some u) (heo:∃ u,h'.get? e = some u):Un fs ex H (upd H x o) h h':=by
 have hx:∀ b,H b = none->b ≠ x:=fun b n z=>by subst z; rw [n] at mu; exact mu
 have hb:∀ b,H b = none->b ≠ e:=fun b n z=>by
  subst z
  rcases he with r | r
  ·exact hx b n r
  ·rw [n] at r; cases r
 have hm:∀ b u,H b = some u->¬ Mut (some u)->b ≠ x:=fun b u q nm z=>by subst z; rw [q] at mu; exact nm mu
 refine ⟨fun b u q n _ _=>k b u (hb b n) q,fun b u q n _ _=>⟨u.slots,k b u (hb b n) q⟩,fun b u q n _=>by rw [zat (hx b n)]; exact n,fun b u q _=>?_,
  fun b xs q=>by rw [zat (hm b _ q fun z=>z)]; exact q,fun b u xs q=>by rw [zat (hm b _ q fun z=>z)]; exact q,fun b ps q=>⟨#[],by rw [zat (hm b _ q fun z=>z),q]; simp⟩⟩
 by_cases hbe:b = e
 ·subst hbe; exact heo
 ·exact ⟨u,k b u hbe q⟩
end
noncomputable def trk (h:Heap) (H:Hp):List Addr:=(List.range h.objs.size).filter fun a=>(H a).isSome
noncomputable def hidT (h:Heap) (H:Hp):Heap:=PySem.W.hideAll h (trk h H)
theorem zfY (h:Heap) (H:Hp):(hidT h H).objs.size = h.objs.size:=PySem.W.hideAll_size _ _
theorem zgV {h:Heap} {H:Hp} {b:Addr} {o:Obj} (e:h.get? b = some o) (n:H b = none):(hidT h H).get? b = some o :=
 PySem.W.hideAll_get _ e fun hm=>by
  have q:(H b).isSome = true:=(List.mem_filter.mp hm).2
  rw [n] at q; simp at q
theorem zhU {h:Heap} {H:Hp} {b:Addr} {o:Obj} (e:(hidT h H).get? b = some o):h.get? b = some o∧H b = none:=by
 have e':h.get? b = some o:=PySem.W.of_hideAll (trk h H) e
 refine ⟨e',?_⟩
 cases q:H b with
 | none=>rfl
 | some x =>
  have hm:b ∈ trk h H:=List.mem_filter.mpr ⟨List.mem_range.mpr (Heap.lt_size e'),by simp [q]⟩
  have z:(hidT h H).get? b = none:=PySem.W.hideAll_none (trk h H) hm
  rw [z] at e; cases e
noncomputable def zh3 (g h:Heap) (L:Addr):List (Addr × Obj):=(List.range h.objs.size).filterMap fun a=>if a = L ∨ (g.get? a).isSome = true then none else (h.get? a).map fun o=>(a,o)
noncomputable def rest (g h:Heap) (L d:Addr):List (Addr × Obj):=(zh3 g h L).filter fun p=>decide (p.1 ≠ d)
end L2
namespace L2
open PySem PySem.Spec PyProof.Rows
structure Mod (K:PySem.W.Frag) (mg:Str->Option Value) (base:Heap):Prop where
 kin:K.In base
 glob:base.Ns mainGlobals mg
 blt:∃ mb,base.Ns builtinsNs mb∧∀ x:Str,x ≠ "__name__"->mb x = bootBuiltins x
 nolimit:base.NoLimit
set_option genInjectivity false in
set_option genSizeOf false in
structure Cx where
 prog:Program
 w:World
 K:PySem.W.Frag
 mg:Str->Option Value
 base:Heap
 A:Around
 N:List Str
 s₀:Shared
 H₀:Hp
 env:Env
 outer:List Env
 stack:List Env
 ex:List Addr
 fn:Str->Bool
 calm:Bool
 pn:List (Addr × Obj)
 xe:Value->Shared->Prop
noncomputable def frs (l:List Env):List Addr:=l.filterMap (·.frame)
noncomputable abbrev Cx.fs (X:Cx):List Addr:=frs X.outer
noncomputable def Vis (sc:Scope) (x:Str):Prop:=sc.names.lookup x = some .local ∨ sc.names.lookup x = some .cell ∨ sc.names.lookup x = some .free
noncomputable def Loc (sc:Scope) (x:Str):Prop:=sc.names.lookup x = some .local ∨ sc.names.lookup x = some .cell
noncomputable def Look (env:Env) (h:Heap) (m:Str->Option Value) (x:Str) (u:Value):Prop :=
 (env.kindOf x = some .local∧m x = some u) ∨ ((env.kindOf x = some .cell ∨ env.kindOf x = some .free)∧∃ c,env.cells.lookup x = some c∧h.IsCell c (some u))
structure Cx.Ok (X:Cx):Prop where
 mod:Mod X.K X.mg X.base
 kind:X.env.scope.kind = .function
 glob:X.env.globals = mainGlobals
 blt:X.env.builtins = builtinsNs
 above:X.s₀.heap.objs.size ≤ X.env.locals
 inj:∀ x y c,X.env.cells.lookup x = some c->X.env.cells.lookup y = some c->x = y
 has:∀ x,(X.env.kindOf x = some .cell ∨ X.env.kindOf x = some .free)->∃ c,X.env.cells.lookup x = some c
 cab:∀ x c,X.fn x = true->X.env.cells.lookup x = some c->X.s₀.heap.objs.size ≤ c
 hd:X.calm = true->X.A.handled = none
 frames:X.A.frames = some X.stack
 stk:X.stack = X.outer ∨ (X.stack = X.env :: X.outer∧X.env.frame = some X.env.locals)
 exf:∀ b ∈ X.ex,b ≠ X.env.locals∧∀ x c,X.env.cells.lookup x = some c->c ≠ b
 bs:∀ b o,X.base.get? b = some o->X.s₀.heap.get? b = some o∧X.H₀ b = none
 bsz:X.base.objs.size ≤ X.s₀.heap.objs.size
 noex:∀ b o,X.base.get? b = some o->b ∉ X.ex
 exfs:∀ b ∈ X.ex,b ∉ X.fs
 funs:X.s₀.heap.FunFrames X.base X.outer
 frf:∀ b ∈ X.fs,X.H₀ b = none
structure Inv (X:Cx) (pins:List (Addr × Obj)) (σ:List (Option V)) (H:Hp) (s:Shared):Prop where
 ok:X.Ok
 os:s.os = X.s₀.os
 bare:AllBare s.gens
 base:Un X.fs X.ex X.H₀ H X.s₀.heap s.heap
 loc:∃ m,s.heap.Ns X.env.locals m∧∀ (i:Nat) (x:Str) (v:V),X.N[i]? = some x->σ[i]? = some (some v)->Vis X.env.scope x->∃ u,RelV v u∧Look X.env s.heap m x u
 cell:∀ x c,X.env.cells.lookup x = some c->∃ v,s.heap.IsCell c v
 free:H X.env.locals = none
 freeC:∀ x c,X.env.cells.lookup x = some c->H c = none
 pin:∀ p ∈ X.pn ++ pins,s.heap.get? p.1 = some p.2∧H p.1 = none∧p.1 ≠ X.env.locals∧p.1 ∉ X.fs∧∀ v,p.2.data ≠ .cell v
 hok:HOk X.prog X.w H s.heap
 len:σ.length = X.N.length
section
variable {X:Cx} {pins:List (Addr × Obj)} {σ:List (Option V)} {H H':Hp} {s:Shared} {h':Heap}
theorem Cx.Ok.nofr (ok:X.Ok) {b:Addr} {o:Obj} (e:X.base.get? b = some o):b ∉ X.fs:=fun hb=>by
 have:=(ok.funs.mem hb).1
 rw [e] at this; cases this
theorem Inv.bs (I:Inv X pins σ H s):∀ b o,X.base.get? b = some o->s.heap.get? b = some o∧H b = none:=fun b o e =>
 ⟨I.base.keep b o (I.ok.bs b o e).1 (I.ok.bs b o e).2 (I.ok.nofr e) (I.ok.noex b o e),I.base.free b o (I.ok.bs b o e).1 (I.ok.bs b o e).2 (I.ok.noex b o e)⟩
theorem Inv.bk (I:Inv X pins σ H s):∀ b o,X.base.get? b = some o->s.heap.get? b = some o:=fun b o e=>(I.bs b o e).1
theorem Inv.mod (I:Inv X pins σ H s):Mod X.K X.mg X.base:=I.ok.mod
theorem Inv.kIn (I:Inv X pins σ H s):X.K.In s.heap:=I.ok.mod.kin.keeps I.bk
theorem Inv.lt (I:Inv X pins σ H s):X.env.locals < s.heap.objs.size:=let ⟨_,hn,_⟩:=I.loc; hn.lt
theorem Inv.sz (I:Inv X pins σ H s):X.s₀.heap.objs.size ≤ s.heap.objs.size:=Nat.le_trans I.ok.above (Nat.le_of_lt I.lt)
theorem Inv.nofs (I:Inv X pins σ H s) {a:Addr} (h:s.heap.objs.size ≤ a):a ∉ X.fs:=fun hb=>by
 obtain ⟨_,o,ho,_⟩:=I.ok.funs.mem hb
 exact absurd (Nat.lt_of_lt_of_le (Heap.lt_size ho) (Nat.le_trans I.sz h)) (Nat.lt_irrefl _)
theorem Inv.cne (I:Inv X pins σ H s):∀ x c,X.env.cells.lookup x = some c->c ≠ X.env.locals:=fun x c e z=>by
 obtain ⟨v,o,ho,hd⟩:=I.cell x c e
 obtain ⟨m,⟨o',es,ep,ho',hd',_⟩,_⟩:=I.loc
 rw [z,ho'] at ho; cases ho; rw [hd'] at hd; cases hd
theorem Inv.funs (I:Inv X pins σ H s):s.heap.FunFrames X.base X.outer:=by
 have all:∀ (l:List Env),(∀ b ∈ frs l,b ∈ X.fs)->X.s₀.heap.FunFrames X.base l->s.heap.FunFrames X.base l:=by
  intro l
  induction l with
  | nil=>intro _ _; trivial
  | cons env r ih =>
   intro hs hl
   obtain ⟨hk,⟨L,o,hf,hn,ho,hd⟩,hr⟩:=hl
   have hL:L ∈ X.fs:=hs L (by unfold frs; rw [List.filterMap_cons,hf]; exact List.mem_cons_self)
   obtain ⟨sl,e⟩:=I.base.slot L o ho (I.ok.frf L hL) hL fun z=>I.ok.exfs L z hL
   exact ⟨hk,⟨L,_,hf,hn,e,hd⟩,ih (fun b hb=>hs b (by unfold frs; rw [List.filterMap_cons,hf]; exact List.mem_cons_of_mem _ hb)) hr⟩
 exact all X.outer (fun _ hb=>hb) I.ok.funs
theorem Inv.stack (I:Inv X pins σ H s):s.heap.FunFrames X.base X.stack:=by
 rcases I.ok.stk with e | ⟨e,hf⟩
 ·rw [e]; exact I.funs
 ·rw [e]
  obtain ⟨m,hn,_⟩:=I.loc
  refine .cons (by rw [I.ok.kind]; decide) hf hn ?_ I.funs
  exact Heap.get?_none_of_le (Nat.le_trans I.ok.bsz I.ok.above)
theorem Inv.stkSub (I:Inv X pins σ H s):∀ b ∈ frs X.stack,b ∈ X.env.locals :: X.fs:=fun b hb=>by
 rcases I.ok.stk with e | ⟨e,hf⟩
 ·rw [e] at hb; exact List.mem_cons_of_mem _ hb
 ·rw [e] at hb
  unfold frs at hb
  rw [List.filterMap_cons,hf] at hb
  exact hb
theorem Inv.stkFree (I:Inv X pins σ H s):∀ b ∈ frs X.stack,H b = none:=fun b hb=>by
 rcases List.mem_cons.mp (I.stkSub b hb) with e | hb
 ·rw [e]; exact I.free
 ·obtain ⟨_,o,ho,_⟩:=I.ok.funs.mem hb
  exact I.base.free b o ho (I.ok.frf b hb) fun z=>I.ok.exfs b z hb
theorem Inv.step {g':Array GenState} {t':Nat} {d':Drawn} {ch:List Addr} (I:Inv X pins σ H s)
  (hch:∀ b ∈ ch,(b ∈ X.ex ∨ X.s₀.heap.objs.size ≤ b)∧b ≠ X.env.locals∧(∀ x c,X.env.cells.lookup x = some c->c ≠ b)∧∀ p ∈ X.pn ++ pins,p.1 ≠ b)
  (keep:∀ b o,b ≠ X.env.locals->b ∉ X.fs->b ∉ ch->s.heap.get? b = some o->H b = none->h'.get? b = some o)
  (slot:∀ b o,b ≠ X.env.locals->b ∈ X.fs->b ∉ ch->s.heap.get? b = some o->H b = none->∃ sl,h'.get? b = some { o with slots:=sl }) (free:∀ b o,b ∉ ch->s.heap.get? b = some o->H b = none->H' b = none)
  (there:∀ b o,b ∉ ch->s.heap.get? b = some o->∃ o',h'.get? b = some o')
  (tups:∀ b xs,H b = some (.tup xs)->H' b = some (.tup xs)) (frzs:∀ b o u,H b = some (.frz o u)->H' b = some (.frz o u)) (tbls:∀ b ps,H b = some (.tbl ps)->∃ more,H' b = some (.tbl (ps ++ more)))
  (ns:∀ m,s.heap.Ns X.env.locals m->h'.Ns X.env.locals m) (hok:HOk X.prog X.w H' h') (hg:AllBare g') :
  Inv X pins σ H' { s with heap:=h',gens:=g',drawn:=d',toks:=t' }:=by
 have neL:∀ b o,X.s₀.heap.get? b = some o->b ≠ X.env.locals:=fun b o e=>Nat.ne_of_lt (Nat.lt_of_lt_of_le (Heap.lt_size e) I.ok.above)
 have neC:∀ b o,X.s₀.heap.get? b = some o->b ∉ X.ex->b ∉ ch:=fun b o e hx hb=>by
  rcases (hch b hb).1 with z | z
  ·exact hx z
  ·exact absurd (Nat.lt_of_lt_of_le (Heap.lt_size e) z) (Nat.lt_irrefl _)
 have cellK:∀ x c,X.env.cells.lookup x = some c->∀ v,s.heap.IsCell c v->h'.IsCell c v:=fun x c e v ⟨o,ho,hd⟩=>by
  have nch:c ∉ ch:=fun z=>(hch c z).2.2.1 x c e rfl
  by_cases hc:c ∈ X.fs
  ·obtain ⟨sl,q⟩:=slot c o (I.cne x c e) hc nch ho (I.freeC x c e)
   exact ⟨_,q,hd⟩
  ·exact ⟨o,keep c o (I.cne x c e) hc nch ho (I.freeC x c e),hd⟩
 refine ⟨I.ok,I.os,hg,⟨fun b o e n hb hx=>?_,fun b o e n hb hx=>?_,fun b o e n hx=>?_,fun b o e hx=>?_,fun b xs e=>tups b xs (I.base.tups b xs e),fun b o xs e=>frzs b o xs (I.base.frzs b o xs e),fun b ps e=>?_⟩,?_,fun x c e=>?_,?_,fun x c e=>?_,fun p hp=>?_,hok,I.len⟩
 ·exact keep b o (neL b o e) hb (neC b o e hx) (I.base.keep b o e n hb hx) (I.base.free b o e n hx)
 ·obtain ⟨sl,e1⟩:=I.base.slot b o e n hb hx
  obtain ⟨sl',e2⟩:=slot b _ (neL b o e) hb (neC b o e hx) e1 (I.base.free b o e n hx)
  exact ⟨sl',e2⟩
 ·obtain ⟨o',e1⟩:=I.base.there b o e hx
  exact free b o' (neC b o e hx) e1 (I.base.free b o e n hx)
 ·obtain ⟨o',e1⟩:=I.base.there b o e hx
  exact there b o' (neC b o e hx) e1
 ·obtain ⟨m1,e1⟩:=I.base.tbls b ps e
  obtain ⟨m2,e2⟩:=tbls b _ e1
  exact ⟨m1 ++ m2,by rw [e2,Array.append_assoc]⟩
 ·obtain ⟨m,hn,hl⟩:=I.loc
  refine ⟨m,ns m hn,fun i x v e1 e2 e3=>?_⟩
  obtain ⟨u,r,l⟩:=hl i x v e1 e2 e3
  refine ⟨u,r,?_⟩
  rcases l with l | ⟨k,c,e,z⟩
  ·exact .inl l
  ·exact .inr ⟨k,c,e,cellK x c e _ z⟩
 ·obtain ⟨v,z⟩:=I.cell x c e
  exact ⟨v,cellK x c e v z⟩
 ·obtain ⟨m,⟨o,_,_,ho,_⟩,_⟩:=I.loc
  exact free _ o (fun z=>(hch _ z).2.1 rfl) ho I.free
 ·obtain ⟨v,o,ho,hd⟩:=I.cell x c e
  exact free c o (fun z=>(hch c z).2.2.1 x c e rfl) ho (I.freeC x c e)
 ·obtain ⟨e,n,ne,nf,d⟩:=I.pin p hp
  have nch:p.1 ∉ ch:=fun z=>(hch p.1 z).2.2.2 p hp rfl
  exact ⟨keep p.1 p.2 ne nf nch e n,free p.1 p.2 nch e n,ne,nf,d⟩
theorem Inv.un {t':Nat} (I:Inv X pins σ H s) (u:Un X.fs [] H H' s.heap h') (hok:HOk X.prog X.w H' h'):Inv X pins σ H' { s with heap:=h',toks:=t' }:=by
 obtain ⟨m,⟨o,es,ep,ho,r⟩,_⟩:=id I.loc
 obtain ⟨sl,hL⟩:=u.any ho I.free (by simp)
 exact I.step (g':=s.gens) (d':=s.drawn) (ch:=[]) (fun _ z=>nomatch z) (fun b o _ hb _ e n=>u.keep b o e n hb (by simp)) (fun b o _ hb _ e n=>u.slot b o e n hb (by simp)) (fun b o _ e n=>u.free b o e n (by simp)) (fun b o _ e=>u.there b o e (by simp)) u.tups u.frzs u.tbls (fun m' hm=>by
  obtain ⟨o',es',ep',ho',r'⟩:=hm
  rw [ho] at ho'; cases ho'
  exact ⟨_,es',ep',hL,r'⟩) hok I.bare
theorem Inv.call {g':Array GenState} {t':Nat} {d':Drawn} {ch:List Addr} (I:Inv X pins σ H s) (u:Un (frs X.stack) ch H H' s.heap h') (hok:HOk X.prog X.w H' h') (hg:AllBare g')
  (hch:∀ b ∈ ch,(b ∈ X.ex ∨ X.s₀.heap.objs.size ≤ b)∧b ≠ X.env.locals∧(∀ x c,X.env.cells.lookup x = some c->c ≠ b)∧∀ p ∈ X.pn ++ pins,p.1 ≠ b) :
  Inv X pins σ H' { s with heap:=h',gens:=g',drawn:=d',toks:=t' }:=by
 obtain ⟨m,⟨o,es,ep,ho,r⟩,_⟩:=id I.loc
 obtain ⟨sl,hL⟩:=u.any ho I.free fun z=>(hch _ z).2.1 rfl
 exact I.step (ch:=ch) hch (fun b o hL hb hc e n=>u.keep b o e n (fun z=>(List.mem_cons.mp (I.stkSub b z)).elim hL hb) hc) (fun b o _ _ hc e n=>u.any e n hc) (fun b o hc e n=>u.free b o e n hc) (fun b o hc e=>u.there b o e hc) u.tups u.frzs u.tbls (fun m' hm=>by
  obtain ⟨o',es',ep',ho',r'⟩:=hm
  rw [ho] at ho'; cases ho'
  exact ⟨_,es',ep',hL,r'⟩) hok hg
theorem Inv.turned {t':Nat} {it:Addr} (I:Inv X pins σ H s) (k:∀ b o,b ≠ it->s.heap.get? b = some o->h'.get? b = some o) (hn:H it = none) (hL:it ≠ X.env.locals)
  (h1:it ∈ X.ex ∨ X.s₀.heap.objs.size ≤ it) (h2:∀ x c,X.env.cells.lookup x = some c->c ≠ it) (h3:∀ p ∈ X.pn ++ pins,p.1 ≠ it):Inv X pins σ H { s with heap:=h',toks:=t' }:=by
 have nit:∀ b u,H b = some u->b ≠ it:=fun b u e z=>by rw [z,hn] at e; cases e
 refine I.step (g':=s.gens) (d':=s.drawn) (ch:=[it]) (fun b hb=>?_) (fun b o _ _ hc e _=>k b o (fun z=>hc (by simp [z])) e) (fun b o _ _ hc e _=>⟨o.slots,k b o (fun z=>hc (by simp [z])) e⟩) (fun _ _ _ _ n=>n)
  (fun b o hc e=>⟨o,k b o (fun z=>hc (by simp [z])) e⟩) (fun _ _ e=>e) (fun _ _ _ e=>e) (fun b ps e=>⟨#[],by rw [e]; simp⟩) (fun m hm=>?_) (fun b u e=>?_) I.bare
 ·have e:b = it:=by simpa using hb
  subst e
  exact ⟨h1,hL,h2,h3⟩
 ·obtain ⟨o,es,ep,ho,r⟩:=hm
  exact ⟨o,es,ep,k _ o (Ne.symm hL) ho,r⟩
 ·refine (I.hok b u e).stay (fun c v hc q=>k c v ?_ q) (fun _ q=>q) fun _ _ q=>q
  rcases hc with z | z
  ·rw [z]; exact nit b u e
  ·exact nit c _ z
theorem Inv.tok (I:Inv X pins σ H s) (t:Nat):Inv X pins σ H { s with toks:=t }:=I.un (h':=s.heap) (t':=t) Un.refl I.hok
theorem Inv.kept {t':Nat} (I:Inv X pins σ H s) (k:∀ b u,s.heap.get? b = some u->h'.get? b = some u):Inv X pins σ H { s with heap:=h',toks:=t' }:=I.un (Un.kept k) (I.hok.kept k)
theorem Inv.laid {a:Addr} {o:HO} {t':Nat} (I:Inv X pins σ H s) (k:∀ b u,s.heap.get? b = some u->h'.get? b = some u) (hp:s.heap.objs.size ≤ a) (new:za5 X.prog X.w (upd H a o) h' a o) :
  Inv X pins σ (upd H a o) { s with heap:=h',toks:=t' }:=I.un (Un.laid k hp (I.hok.fresh hp)) (I.hok.laid k hp new)
theorem Inv.write {x e:Addr} {o:HO} {t':Nat} (I:Inv X pins σ H s) (mu:Mut (H x)) (he:e = x ∨ H e = some (.own x)) (k:∀ b u,b ≠ e->s.heap.get? b = some u->h'.get? b = some u) (heo:∃ u,h'.get? e = some u)
  (new:za5 X.prog X.w (upd H x o) h' x o):Inv X pins σ (upd H x o) { s with heap:=h',toks:=t' }:=I.un (Un.write mu he k heo) (I.hok.write mu he k heo new)
theorem Inv.weak {σ':List (Option V)} (I:Inv X pins σ H s) (hl:σ'.length = σ.length) (w:∀ (i:Nat) v,σ'[i]? = some (some v)->σ[i]? = some (some v)):Inv X pins σ' H s :=
 ⟨I.ok,I.os,I.bare,I.base,let ⟨m,hn,hl'⟩:=I.loc; ⟨m,hn,fun i x v e1 e2 e3=>hl' i x v e1 (w i v e2) e3⟩,I.cell,I.free,I.freeC,I.pin,I.hok,hl.trans I.len⟩
theorem Inv.pins_of {pins':List (Addr × Obj)} (I:Inv X pins σ H s) (h:∀ p ∈ pins',s.heap.get? p.1 = some p.2∧H p.1 = none∧p.1 ≠ X.env.locals∧p.1 ∉ X.fs∧∀ v,p.2.data ≠ .cell v):Inv X pins' σ H s :=
 ⟨I.ok,I.os,I.bare,I.base,I.loc,I.cell,I.free,I.freeC,fun p hp=>(List.mem_append.mp hp).elim (fun z=>I.pin p (List.mem_append_left _ z)) (h p),I.hok,I.len⟩
theorem zdH {N:List Str} (hN:N.Nodup) {i j:Nat} {x:Str} (a:N[i]? = some x) (b:N[j]? = some x):i = j:=by
 obtain ⟨h1,e1⟩:=List.getElem?_eq_some_iff.mp a
 obtain ⟨h2,e2⟩:=List.getElem?_eq_some_iff.mp b
 exact (List.getElem_inj hN).mp (e1.trans e2.symm)
theorem zcW {M:Model} {A:Around} {E:Value->Shared->Prop} {i:Nat} {x:Str} {v:V} {u:Value} {Q:Unit->Shared->Prop} (I:Inv X pins σ H s) (hN:X.N.Nodup) (hi:X.N[i]? = some x) (hx:Loc X.env.scope x) (r:RelV v u)
  (h:∀ s',Inv X pins (σ.set i (some v)) H s'->(∃ a,Heap.SameBut a s.heap s'.heap∧(a = X.env.locals ∨ X.env.cells.lookup x = some a))->Q () s') (hf:X.fn x = true ∨ X.env.scope.names.lookup x = some .local:=by first | exact .inl rfl | exact .inr rfl | assumption):wpAny M A (storeName X.env x u) Q E s:=by
 obtain ⟨m,hn,hl⟩:=id I.loc
 have hcls:(X.env.scope.kind == .class || (X.env.scope.kind == .module && X.env.locals != X.env.globals)) = false:=by rw [I.ok.kind]; rfl
 have hiσ:i < σ.length:=by rw [I.len]; exact (List.getElem?_eq_some_iff.mp hi).1
 have cne:=I.cne
 have tracked:∀ {a:Addr} {h':Heap},(∃ o,s.heap.get? a = some o∧H a = none)->Heap.SameBut a s.heap h'->HOk X.prog X.w H h':=fun {a h'} ha hs b ob e=>by
  obtain ⟨_,_,hfree⟩:=ha
  refine (I.hok b ob e).stay (fun c w' hc q=>(hs.2 c ?_).trans q) (fun _ q=>q) fun _ _ q=>q
  rintro rfl
  rcases hc with rfl | hc
  ·rw [hfree] at e; cases e
  ·rw [hfree] at hc; cases hc
 rcases hx with hk | hk
 ·refine wpAny_storeName_local hk hn (fun h' hn' hs=>?_) hcls
  obtain ⟨oL,_,_,hoL,_⟩:=id hn
  refine h _ ⟨I.ok,I.os,I.bare,⟨fun b o e n hb hx=>?_,fun b o e n hb hx=>?_,I.base.free,fun b o e hx=>?_,I.base.tups,I.base.frzs,I.base.tbls⟩,⟨_,hn',fun j y v' e1 e2 e3=>?_⟩,fun y c e=>?_,I.free,I.freeC,fun p hp=>?_,tracked ⟨oL,hoL,I.free⟩ hs,by simpa using I.len⟩ ⟨_,hs,.inl rfl⟩
  ·exact (hs.2 b (Nat.ne_of_lt (Nat.lt_of_lt_of_le (Heap.lt_size e) I.ok.above))).trans (I.base.keep b o e n hb hx)
  ·obtain ⟨sl,e1⟩:=I.base.slot b o e n hb hx
   exact ⟨sl,(hs.2 b (Nat.ne_of_lt (Nat.lt_of_lt_of_le (Heap.lt_size e) I.ok.above))).trans e1⟩
  ·obtain ⟨o',e1⟩:=I.base.there b o e hx
   exact ⟨o',(hs.2 b (Nat.ne_of_lt (Nat.lt_of_lt_of_le (Heap.lt_size e) I.ok.above))).trans e1⟩
  ·by_cases hj:j = i
   ·subst hj
    rw [hi] at e1; cases e1
    rw [List.getElem?_set_self hiσ] at e2
    cases e2
    exact ⟨u,r,.inl ⟨hk,by simp⟩⟩
   ·rw [List.getElem?_set_ne (Ne.symm hj)] at e2
    obtain ⟨u',r',q⟩:=hl j y v' e1 e2 e3
    refine ⟨u',r',?_⟩
    rcases q with ⟨k,e⟩ | ⟨k,c,e,z⟩
    ·refine .inl ⟨k,?_⟩
     have:y ≠ x:=fun e=>hj (zdH hN e1 (e ▸ hi))
     simp [this,e]
    ·exact .inr ⟨k,c,e,z.sameBut hs (cne y c e)⟩
  ·obtain ⟨w',z⟩:=I.cell y c e
   exact ⟨w',z.sameBut hs (cne y c e)⟩
  ·obtain ⟨e,n,ne,nf,d⟩:=I.pin p hp
   exact ⟨(hs.2 p.1 ne).trans e,n,ne,nf,d⟩
 ·have hfn:X.fn x = true:=by
   rcases hf with z | z
   ·exact z
   ·rw [z] at hk; cases hk
  obtain ⟨c,hc⟩:=I.ok.has x (.inl hk)
  obtain ⟨w',z⟩:=I.cell x c hc
  refine wpAny_storeName_cell I.ok.kind hk hc z (fun h' hc' hs=>?_)
  obtain ⟨oc,hoc,hocd⟩:=id z
  refine h { s with heap:=h' } ⟨I.ok,I.os,I.bare,⟨fun b o e n hb hx=>?_,fun b o e n hb hx=>?_,I.base.free,fun b o e hx=>?_,I.base.tups,I.base.frzs,I.base.tbls⟩,⟨m,hn.sameBut hs (Ne.symm (cne x c hc)),fun j y v' e1 e2 e3=>?_⟩,fun y c' e=>?_,I.free,I.freeC,fun p hp=>?_,tracked ⟨oc,hoc,I.freeC x c hc⟩ hs,by simpa using I.len⟩ ⟨c,hs,.inr hc⟩
  ·exact (hs.2 b (Nat.ne_of_lt (Nat.lt_of_lt_of_le (Heap.lt_size e) (I.ok.cab x c hfn hc)))).trans (I.base.keep b o e n hb hx)
  ·obtain ⟨sl,e1⟩:=I.base.slot b o e n hb hx
   exact ⟨sl,(hs.2 b (Nat.ne_of_lt (Nat.lt_of_lt_of_le (Heap.lt_size e) (I.ok.cab x c hfn hc)))).trans e1⟩
  ·obtain ⟨o',e1⟩:=I.base.there b o e hx
   exact ⟨o',(hs.2 b (Nat.ne_of_lt (Nat.lt_of_lt_of_le (Heap.lt_size e) (I.ok.cab x c hfn hc)))).trans e1⟩
  ·by_cases hj:j = i
   ·subst hj
    rw [hi] at e1; cases e1
    rw [List.getElem?_set_self hiσ] at e2
    cases e2
    exact ⟨u,r,.inr ⟨.inl hk,c,hc,hc'⟩⟩
   ·rw [List.getElem?_set_ne (Ne.symm hj)] at e2
    obtain ⟨u',r',q⟩:=hl j y v' e1 e2 e3
    refine ⟨u',r',?_⟩
    rcases q with q | ⟨k,c',e,z'⟩
    ·exact .inl q
    ·refine .inr ⟨k,c',e,z'.sameBut hs ?_⟩
     rintro rfl
     exact hj (zdH hN e1 (I.ok.inj _ _ _ e hc ▸ hi))
  ·by_cases hcc:c' = c
   ·subst hcc; exact ⟨_,hc'⟩
   ·obtain ⟨w2,z2⟩:=I.cell y c' e
    exact ⟨w2,z2.sameBut hs hcc⟩
  ·obtain ⟨e,n,ne,nf,d⟩:=I.pin p hp
   refine ⟨(hs.2 p.1 ?_).trans e,n,ne,nf,d⟩
   intro q
   rw [q,hoc] at e
   have q':oc = p.2:=Option.some.inj e
   exact d w' (by rw [← q']; exact hocd)
theorem zcG {M:Model} {A:Around} {E:Value->Shared->Prop} {i:Nat} {x:Str} {v:V} {u:Value} {Q:Unit->Shared->Prop} (I:Inv X pins σ H s) (hN:X.N.Nodup) (hi:X.N[i]? = some x) (hx:Loc X.env.scope x) (r:RelV v u)
  (h:∀ s',Inv X pins (σ.set i (some v)) H s'->Q () s') (hf:X.fn x = true ∨ X.env.scope.names.lookup x = some .local:=by first | exact .inl rfl | exact .inr rfl | assumption):wpAny M A (storeName X.env x u) Q E s :=
 zcW I hN hi hx r (fun s' I' _=>h s' I') hf
theorem Inv.call' {s':Shared} {ch:List Addr} (I:Inv X pins σ H s) (ho:s'.os = s.os) (u:Un (frs X.stack) ch H H' s.heap s'.heap) (hok:HOk X.prog X.w H' s'.heap) (hg:AllBare s'.gens)
  (hch:∀ b ∈ ch,(b ∈ X.ex ∨ X.s₀.heap.objs.size ≤ b)∧b ≠ X.env.locals∧(∀ x c,X.env.cells.lookup x = some c->c ≠ b)∧∀ p ∈ X.pn ++ pins,p.1 ≠ b):Inv X pins σ H' s':=by
 obtain ⟨h',g',d',t',o'⟩:=s'
 have e:o' = s.os:=ho
 subst e
 exact I.call (g':=g') (t':=t') (d':=d') u hok hg hch
end
abbrev XK:=Value->Option Addr->Hp->Prop
abbrev St:=List (Option V)
abbrev VK:=V->Hp->Prop
abbrev TE:=St->Hp->VK->Prop
abbrev TT:=St->Hp->(Bool->Hp->Prop)->Prop
abbrev TA:=St->Hp->(List V->Hp->Prop)->Prop
set_option genInjectivity false in
set_option genSizeOf false in
structure Ends where
 nx:St->Hp->Prop
 rt:VK
 bk:St->Hp->Prop:=fun _ _=>False
 ct:St->Hp->Prop:=fun _ _=>False
abbrev TS:=Ends->St->Hp->Prop
noncomputable def EP (X:Cx) (pins:List (Addr × Obj)) (σ:St) (Q:VK) (u:Value) (s':Shared):Prop:=∃ v H',Inv X pins σ H' s'∧RelV v u∧Q v H'
noncomputable def TP (X:Cx) (pins:List (Addr × Obj)) (σ:St) (Q:Bool->Hp->Prop) (b:Bool) (s':Shared):Prop:=∃ H',Inv X pins σ H' s'∧Q b H'
noncomputable def AP (X:Cx) (pins:List (Addr × Obj)) (σ:St) (Q:List V->Hp->Prop) (us:List Value) (s':Shared):Prop:=∃ vs H',Inv X pins σ H' s'∧Vals vs us∧Q vs H'
noncomputable def SP (X:Cx) (pins:List (Addr × Obj)) (D:Ends) (f:Flow) (s':Shared):Prop :=
 match f with
 | .next=>∃ σ' H',Inv X pins σ' H' s'∧D.nx σ' H'
 | .brk=>∃ σ' H',Inv X pins σ' H' s'∧D.bk σ' H'
 | .cont=>∃ σ' H',Inv X pins σ' H' s'∧D.ct σ' H'
 | .ret u=>∃ v σ' H',Inv X pins σ' H' s'∧RelV v u∧D.rt v H'
noncomputable def PE (X:Cx) (e:Expr) (t:TE):Prop :=
 ∀ (pins:List (Addr × Obj)) (s:Shared) (σ:St) (H:Hp) (Q:VK),Inv X pins σ H s->t σ H Q->wpAny (model X.prog X.w) X.A (eval e X.env) (EP X pins σ Q) X.xe s
noncomputable def PT (X:Cx) (e:Expr) (t:TT):Prop :=
 ∀ (pins:List (Addr × Obj)) (s:Shared) (σ:St) (H:Hp) (Q:Bool->Hp->Prop),Inv X pins σ H s->t σ H Q->wpAny (model X.prog X.w) X.A (isTrue e X.env (eval e X.env)) (TP X pins σ Q) X.xe s
noncomputable def PW (X:Cx) (e:Expr) (t:TT):Prop :=
 ∀ (whole:Sem Value) (pins:List (Addr × Obj)) (s:Shared) (σ:St) (H:Hp) (Q:Bool->Hp->Prop),Inv X pins σ H s->t σ H Q->wpAny (model X.prog X.w) X.A (isTrue e X.env whole) (TP X pins σ Q) X.xe s
theorem PW.pt {X:Cx} {e:Expr} {t:TT} (h:PW X e t):PT X e t:=h _
noncomputable def PA (X:Cx) (es:List Expr) (t:TA):Prop :=
 ∀ (pos:Pos) (pins:List (Addr × Obj)) (s:Shared) (σ:St) (H:Hp) (Q:List V->Hp->Prop),Inv X pins σ H s->t σ H Q->wpAny (model X.prog X.w) X.A (spliced (backTo pos (starEach es X.env))) (AP X pins σ Q) X.xe s
noncomputable def PS (X:Cx) (st:Stmt) (t:TS):Prop :=
 ∀ (pins:List (Addr × Obj)) (s:Shared) (σ:St) (H:Hp) (D:Ends),Inv X pins σ H s->t D σ H->wpAny (model X.prog X.w) X.A (exec st X.env) (SP X pins D) X.xe s
noncomputable def PSs (X:Cx) (st:List Stmt) (t:TS):Prop :=
 ∀ (pins:List (Addr × Obj)) (s:Shared) (σ:St) (H:Hp) (D:Ends),Inv X pins σ H s->t D σ H->wpAny (model X.prog X.w) X.A (execs st X.env) (SP X pins D) X.xe s
theorem thn {α:Type} {t:Sem α} {Q Q':α->Shared->Prop} {M:Model} {A:Around} {E:Value->Shared->Prop} {s:Shared} (h:wpAny M A t Q E s) (hQ:∀ a s,Q a s->Q' a s):wpAny M A t Q' E s:=wpAny_mono h hQ fun _ _ x=>x
end L2
namespace L2
open PySem PySem.Spec PyProof.Rows
section
variable {X:Cx}
noncomputable def tVar (i:Nat):TE:=fun σ H Q=>∃ v,σ[i]? = some (some v)∧Q v H
noncomputable def tC (v:V):TE:=fun _ H Q=>Q v H
theorem zjt {i:Nat} {x:Str} {pos:Pos} (hN:X.N[i]? = some x) (hv:Vis X.env.scope x) (hd:(x == ("__debug__":Str)) = false:=by decide) (hcd:(x == ("__classdict__":Str)) = false:=by decide):PE X (.Name x pos) (tVar i):=by
 intro pins s σ H Q I h
 obtain ⟨v,e,h⟩:=h
 obtain ⟨m,hn,hl⟩:=I.loc
 obtain ⟨u,r,l⟩:=hl i x v hN e hv
 have fin:EP X pins σ Q u s:=⟨v,H,I,r,h⟩
 rcases l with ⟨hk,hm⟩ | ⟨hk,c,hc,hcell⟩
 ·exact wpAny_Name (wpAny_loadName_local I.ok.kind hk hn hm fin) hd
 ·rcases hk with hk | hk
  ·exact wpAny_Name (wpAny_loadName_cell I.ok.kind hk hc hcell fin) hd
  ·exact wpAny_Name (wpAny_loadName_free I.ok.kind hk hc hcell fin hcd) hd
theorem zac {i j pos}:PE X (.Constant (.int i) j pos) (tC (.int i)):=fun _ _ _ H _ I h=>wpAny_Constant_int ⟨.int i,H,I.tok _,⟨_,rfl⟩,h⟩
theorem zcw {b j pos}:PE X (.Constant (.bool b) j pos) (tC (.bl b)):=fun _ _ _ H _ I h=>Constant_bool ⟨.bl b,H,I,rfl,h⟩
theorem zbH {j pos}:PE X (.Constant .none j pos) (tC .non):=fun _ _ _ H _ I h=>Constant_none ⟨.non,H,I,rfl,h⟩
theorem zaf {x j pos}:PE X (.Constant (.str x) j pos) (tC (.str x)):=fun _ _ _ H _ I h=>Calls.Constant_str ⟨.str x,H,I.tok _,⟨_,rfl⟩,h⟩
noncomputable def Gl (X:Cx) (x:Str):Prop:=X.env.kindOf x = some .globalImplicit
theorem zbG {E:Value->Shared->Prop} {pins:List (Addr × Obj)} {s:Shared} {σ:St} {H:Hp} {x:Str} {u:Value} {pos:Pos} {Q:Value->Shared->Prop} (I:Inv X pins σ H s) (hg:Gl X x) (hm:X.mg x = some u) (h:Q u s)
  (hd:(x == ("__debug__":Str)) = false:=by decide):wpAny (model X.prog X.w) X.A (eval (.Name x pos) X.env) Q E s :=
 Calls.Name_function_global I.ok.kind hg (Calls.loadGlobal_global (by rw [I.ok.glob]; exact I.mod.glob.keeps I.bk) hm h) hd
theorem zeV {E:Value->Shared->Prop} {pins:List (Addr × Obj)} {s:Shared} {σ:St} {H:Hp} {x:Str} {u:Value} {pos:Pos} {Q:Value->Shared->Prop} (I:Inv X pins σ H s) (hg:Gl X x) (hm:X.mg x = none) (hv:bootBuiltins x = some u) (h:Q u s)
  (hn:x ≠ "__name__":=by decide) (hd:(x == ("__debug__":Str)) = false:=by decide):wpAny (model X.prog X.w) X.A (eval (.Name x pos) X.env) Q E s:=by
 obtain ⟨mb,h1,h2⟩:=I.mod.blt
 exact Calls.Name_function_global I.ok.kind hg (Calls.loadGlobal_builtin (by rw [I.ok.glob]; exact I.mod.glob.keeps I.bk) hm (by rw [I.ok.blt]; exact h1.keeps I.bk) ((h2 x hn).trans hv) h) hd
theorem zbu {x:Str} {v:V} {u:Value} {pos:Pos} (hg:Gl X x) (hm:X.mg x = some u) (r:RelV v u) (hd:(x == ("__debug__":Str)) = false:=by decide):PE X (.Name x pos) (tC v) :=
 fun _ _ _ H _ I h=>zbG I hg hm ⟨v,H,I,r,h⟩ hd
theorem zbe {x:Str} {v:V} {u:Value} {pos:Pos} (hg:Gl X x) (hm:X.mg x = none) (hv:bootBuiltins x = some u) (r:RelV v u) (hn:x ≠ "__name__":=by decide) (hd:(x == ("__debug__":Str)) = false:=by decide):PE X (.Name x pos) (tC v) :=
 fun _ _ _ H _ I h=>zeV I hg hm hv ⟨v,H,I,r,h⟩ hn hd
variable {a b:Expr} {ta tb:TE} {pos:Pos}
noncomputable def PC (X:Cx) (op:CmpOp) (a b:Expr) (t:TE):Prop :=
 ∀ (pins:List (Addr × Obj)) (s:Shared) (σ:St) (H:Hp) (Q:VK),Inv X pins σ H s->t σ H Q ->
  wpAny (model X.prog X.w) X.A (eval a X.env) (fun v s₁=>wpAny (model X.prog X.w) X.A (eval b X.env) (fun u s₂=>wpAny (model X.prog X.w) X.A (compareOp op v u) (EP X pins σ Q) X.xe s₂) X.xe s₁) X.xe s
theorem zeM (b:Expr) {op:CmpOp} (h:op ≠ .In) (h2:op ≠ .NotIn):behindInMarks op b = false:=by
 have e1:(op == CmpOp.In) = false:=by cases op <;> first | rfl | exact absurd rfl h
 have e2:(op == CmpOp.NotIn) = false:=by cases op <;> first | rfl | exact absurd rfl h2
 cases b <;> simp [behindInMarks,e1,e2]
noncomputable def tIsN (ta:TE):TE:=fun σ H Q=>ta σ H fun x H1=>Q (.bl (decide (x = .non))) H1
noncomputable def ziQ (ta:TE):TE:=fun σ H Q=>ta σ H fun x H1=>Q (.bl (!decide (x = .non))) H1
theorem RelV.none_iff {x:V} {v:Value} (r:RelV x v):(v == Value.none) = decide (x = .non):=by
 cases x with
 | non=>cases r; rfl
 | bl _=>cases r; rfl
 | int _=>obtain ⟨t,rfl⟩:=r; rfl
 | str _=>obtain ⟨t,rfl⟩:=r; rfl
 | byt _=>obtain ⟨t,rfl⟩:=r; rfl
 | flt _=>obtain ⟨t,rfl⟩:=r; rfl
 | ref _=>cases r; rfl
 | ty _=>cases r; rfl
theorem zco {j pos'} (ha:PE X a ta):PC X .Is a (.Constant .none j pos') (tIsN ta):=by
 intro pins s σ H Q I h
 refine thn (ha pins s σ H _ I h) fun v s1 zq_=>?_
 obtain ⟨x,H1,I1,r1,q1⟩:=zq_
 exact Constant_none (is_none_gen ⟨.bl _,H1,I1,by rw [r1.none_iff]; rfl,q1⟩)
theorem zfD {j pos'} (ha:PE X a ta):PC X .IsNot a (.Constant .none j pos') (ziQ ta):=by
 intro pins s σ H Q I h
 refine thn (ha pins s σ H _ I h) fun v s1 zq_=>?_
 obtain ⟨x,H1,I1,r1,q1⟩:=zq_
 exact Constant_none (isnot_none_gen ⟨.bl _,H1,I1,by rw [r1.none_iff]; rfl,q1⟩)
noncomputable def tB (t:TE):TT:=fun σ H Q=>t σ H fun x H1=>∃ c,x = .bl c∧Q c H1
theorem ziJ {op:CmpOp} {t:TE} (h:PC X op a b t) (h1:behindInMarks op b = false:=by first | exact zeM _ (by decide) (by decide) | rfl):PE X (.Compare a [op] [b] pos) t:=fun pins s σ H Q I hw=>wpAny_Compare1 (h pins s σ H Q I hw) h1
theorem zbZ {op:CmpOp} {t:TE} (h:PC X op a b t) (h1:behindInMarks op b = false:=by first | exact zeM _ (by decide) (by decide) | rfl):PT X (.Compare a [op] [b] pos) (tB t):=by
 intro pins s σ H Q I hw
 refine wpAny_isTrue_Compare1 (thn (h pins s σ H _ I hw) fun v s1 h1=>thn h1 fun u s2 h2=>thn h2 fun c s3 zq_=>?_) h1
 obtain ⟨x,H1,I1,r1,q1⟩:=zq_
 obtain ⟨d,rfl,q⟩:=q1
 cases r1
 exact wpAny_truthy_bool ⟨H1,I1,q⟩
theorem zbz {e:Expr} {t:TE} (h:PE X e t) (he:∀ whole,isTrue e X.env whole = (do let v ← whole; standAt e.pos; holding [v] (truthy v)):=by intro _; rfl):PT X e (tB t):=by
 intro pins s σ H Q I hw
 refine isTrue_plain (thn (h pins s σ H _ I hw) fun v s1 zq_=>?_) (he _)
 obtain ⟨x,H1,I1,r1,q1⟩:=zq_
 obtain ⟨d,rfl,q⟩:=q1
 cases r1
 exact wpAny_truthy_bool ⟨H1,I1,q⟩
variable {tA tB':TT} {rest:List Expr}
noncomputable def tAnd (t u:TT):TT:=fun σ H Q=>t σ H fun c H1=>if c = true then u σ H1 Q else Q false H1
noncomputable def tOr (t u:TT):TT:=fun σ H Q=>t σ H fun c H1=>if c = true then Q true H1 else u σ H1 Q
noncomputable def tNot (t:TT):TT:=fun σ H Q=>t σ H fun c H1=>Q (!c) H1
theorem zbt (ha:PT X a tA):PW X (.BoolOp .And [a] pos) tA:=by
 intro wh pins s σ H Q I h
 refine isTrue_and (thn (ha pins s σ H Q I h) fun c s1 e=>?_)
 cases c with
 | true=>exact isTrue_and_nil e
 | false=>exact e
theorem zbJ (ha:PT X a tA):PW X (.BoolOp .Or [a] pos) tA:=by
 intro wh pins s σ H Q I h
 refine isTrue_or (thn (ha pins s σ H Q I h) fun c s1 e=>?_)
 cases c with
 | false=>exact isTrue_or_nil e
 | true=>exact e
theorem zbT (ha:PT X a tA) (hb:PW X (.BoolOp .And (b :: rest) pos) tB'):PW X (.BoolOp .And (a :: b :: rest) pos) (tAnd tA tB'):=by
 intro wh pins s σ H Q I h
 refine isTrue_and (thn (ha pins s σ H _ I h) fun c s1 zq_=>?_)
 obtain ⟨H1,I1,q1⟩:=zq_
 cases c with
 | true=>exact hb wh pins s1 σ H1 Q I1 q1
 | false=>exact ⟨H1,I1,q1⟩
theorem zck (ha:PT X a tA) (hb:PW X (.BoolOp .Or (b :: rest) pos) tB'):PW X (.BoolOp .Or (a :: b :: rest) pos) (tOr tA tB'):=by
 intro wh pins s σ H Q I h
 refine isTrue_or (thn (ha pins s σ H _ I h) fun c s1 zq_=>?_)
 obtain ⟨H1,I1,q1⟩:=zq_
 cases c with
 | true=>exact ⟨H1,I1,q1⟩
 | false=>exact hb wh pins s1 σ H1 Q I1 q1
theorem zcY (ha:PT X a tA):PT X (.UnaryOp .Not a pos) (tNot tA):=by
 intro pins s σ H Q I h
 exact isTrue_not (ha pins s σ H (fun c H1=>Q (!c) H1) I h)
noncomputable def ziI (ta tb:TE):TE:=fun σ H Q=>ta σ H fun x H1=>∃ c,x = .bl c∧if c = true then tb σ H1 Q else Q (.bl false) H1
noncomputable def tOrV (ta tb:TE):TE:=fun σ H Q=>ta σ H fun x H1=>∃ c,x = .bl c∧if c = true then Q (.bl true) H1 else tb σ H1 Q
noncomputable def zi0 (ta:TE):TE:=fun σ H Q=>ta σ H fun x H1=>∃ c,x = .bl c∧Q (.bl (!c)) H1
theorem zf2 {op} {t:TE} (h:PE X a t):PE X (.BoolOp op [a] pos) t:=fun pins s σ H Q I hw=>BoolOp_one (h pins s σ H Q I hw)
theorem zeB (ha:PE X a ta) (hb:PE X (.BoolOp .And (b :: rest) pos) tb):PE X (.BoolOp .And (a :: b :: rest) pos) (ziI ta tb):=by
 intro pins s σ H Q I h
 refine BoolOp_and (thn (ha pins s σ H _ I h) fun v s1 zq_=>?_)
 obtain ⟨x,H1,I1,r1,q1⟩:=zq_
 obtain ⟨c,rfl,q1⟩:=q1
 cases r1
 refine wpAny_truthy_bool ?_
 cases c with
 | true=>exact hb pins s1 σ H1 Q I1 q1
 | false=>exact ⟨.bl false,H1,I1,rfl,q1⟩
theorem ziD (ha:PE X a ta):PE X (.UnaryOp .Not a pos) (zi0 ta):=by
 intro pins s σ H Q I h
 refine UnaryOp_ (thn (ha pins s σ H _ I h) fun v s1 zq_=>?_)
 obtain ⟨x,H1,I1,r1,q1⟩:=zq_
 obtain ⟨c,rfl,q1⟩:=q1
 cases r1
 exact not_of (wpAny_truthy_bool ⟨.bl (!c),H1,I1,rfl,q1⟩)
noncomputable def tIf (t:TT) (ta tb:TE):TE:=fun σ H Q=>t σ H fun c H1=>if c = true then ta σ H1 Q else tb σ H1 Q
theorem zhc {c:Expr} (hc:PT X c tA) (ha:PE X a ta) (hb:PE X b tb):PE X (.IfExp c a b pos) (tIf tA ta tb):=by
 intro pins s σ H Q I h
 refine wpAny_IfExp (thn (hc pins s σ H _ I h) fun d s1 zq_=>?_)
 obtain ⟨H1,I1,q1⟩:=zq_
 cases d with
 | true=>exact ha pins s1 σ H1 Q I1 q1
 | false=>exact hb pins s1 σ H1 Q I1 q1
end
end L2
namespace L2
open PySem PySem.Spec PyProof.Rows
noncomputable def SqL (K:PySem.W.Frag) (H:Hp) (a:Addr) (xs:List V):Prop :=
 Rd H a (.lst xs) ∨
  ∃ (o:Obj) (its:Array Value) (n:Nat),K.lookup a = some o∧o.cls = .type "list"∧o.dict = none∧o.data = .seq its n∧its.size ≤ sizeLine∧Vals xs its.toList
noncomputable def SqT (K:PySem.W.Frag) (H:Hp) (a:Addr) (xs:List V):Prop :=
 Rd H a (.tup xs) ∨
  ∃ (o:Obj) (its:Array Value) (n:Nat),K.lookup a = some o∧o.cls = .type "tuple"∧o.data = .seq its n∧its.size ≤ sizeLine∧Vals xs its.toList
noncomputable def absV:Value->Option V
 | .none=>some .non
 | .bool b=>some (.bl b)
 | .int i _=>some (.int i)
 | .str x _=>some (.str x)
 | .bytes b _=>some (.byt b)
 | .float b _=>some (.flt b)
 | .ref a=>some (.ref a)
 | .type n=>some (.ty n)
 | _=>none
theorem RelV.abs {x:V} {u:Value} (r:RelV x u):absV u = some x:=by
 cases x with
 | non=>cases r; rfl
 | bl _=>cases r; rfl
 | int _=>obtain ⟨t,rfl⟩:=r; rfl
 | str _=>obtain ⟨t,rfl⟩:=r; rfl
 | byt _=>obtain ⟨t,rfl⟩:=r; rfl
 | flt _=>obtain ⟨t,rfl⟩:=r; rfl
 | ref _=>cases r; rfl
 | ty _=>cases r; rfl
theorem RelV.inj {x y:V} {u:Value} (r:RelV x u) (q:RelV y u):x = y:=Option.some.inj (r.abs.symm.trans q.abs)
theorem Vals.inj:∀ {xs ys:List V} {us:List Value},Vals xs us->Vals ys us->xs = ys
 | _,_,_,.nil,.nil=>rfl
 | _,_,_,.cons r t,.cons r' t'=>by rw [r.inj r',Vals.inj t t']
section
variable {X:Cx} {pins:List (Addr × Obj)} {σ:St} {H:Hp} {s:Shared} {a:Addr} {xs ys:List V}
theorem SqL.of {K:PySem.W.Frag} (h:H a = some (.lst xs)):SqL K H a xs:=.inl (.inl h)
theorem SqT.of {K:PySem.W.Frag} (h:H a = some (.tup xs)):SqT K H a xs:=.inl (.inl h)
theorem Inv.list (I:Inv X pins σ H s) (h:SqL X.K H a xs):∃ its:List Value,Vals xs its∧PlainL s.heap a its.toArray∧xs.length ≤ sizeLine:=by
 rcases h with h | ⟨o,its,n,hk,hc,hd,hs,hz,r⟩
 ·obtain ⟨z,its,n,r,e⟩:=h.ok I.hok
  exact ⟨its,r,⟨_,n,e,rfl,rfl,rfl⟩,z⟩
 ·refine ⟨its.toList,r,⟨o,n,I.kIn a o hk,hc,hd,by simpa using hs⟩,?_⟩
  have e:=r.length
  simp only [Array.length_toList] at e
  omega
theorem Inv.tuple (I:Inv X pins σ H s) (h:SqT X.K H a xs):∃ its:List Value,Vals xs its∧IsTup s.heap a its.toArray∧xs.length ≤ sizeLine:=by
 rcases h with h | ⟨o,its,n,hk,hc,hs,hz,r⟩
 ·obtain ⟨z,its,r,p⟩:=h.ok I.hok
  exact ⟨its,r,p,z⟩
 ·refine ⟨its.toList,r,⟨o,I.kIn a o hk,hc,n,by simpa using hs⟩,?_⟩
  have e:=r.length
  simp only [Array.length_toList] at e
  omega
theorem Inv.list_inj (I:Inv X pins σ H s) (h:SqL X.K H a xs) (h':SqL X.K H a ys):xs = ys:=by
 obtain ⟨its,r,⟨o,n,e,_,_,d⟩,_⟩:=I.list h
 obtain ⟨its',r',⟨o',n',e',_,_,d'⟩,_⟩:=I.list h'
 rw [e] at e'; cases e'
 rw [d] at d'
 injection d' with d1 _
 have:its = its':=by simpa using congrArg Array.toList d1
 subst this
 exact r.inj r'
theorem Inv.tuple_inj (I:Inv X pins σ H s) (h:SqT X.K H a xs) (h':SqT X.K H a ys):xs = ys:=by
 obtain ⟨its,r,⟨o,e,_,n,d⟩,_⟩:=I.tuple h
 obtain ⟨its',r',⟨o',e',_,n',d'⟩,_⟩:=I.tuple h'
 rw [e] at e'; cases e'
 rw [d] at d'
 injection d' with d1 _
 have:its = its':=by simpa using congrArg Array.toList d1
 subst this
 exact r.inj r'
end
noncomputable abbrev Cx.wish (X:Cx) (E:Value->Shared->Prop):Cx:={ X with xe:=E }
noncomputable abbrev Cx.nox (X:Cx):Cx:=X.wish fun _ _=>False
theorem Cx.Ok.wish {X:Cx} (ok:X.Ok) (E:Value->Shared->Prop):(X.wish E).Ok :=
 ⟨ok.mod,ok.kind,ok.glob,ok.blt,ok.above,ok.inj,ok.has,ok.cab,ok.hd,ok.frames,ok.stk,ok.exf,ok.bs,ok.bsz,ok.noex,ok.exfs,ok.funs,ok.frf⟩
theorem Cx.Ok.unwish {X:Cx} {E:Value->Shared->Prop} (ok:(X.wish E).Ok):X.Ok :=
 ⟨ok.mod,ok.kind,ok.glob,ok.blt,ok.above,ok.inj,ok.has,ok.cab,ok.hd,ok.frames,ok.stk,ok.exf,ok.bs,ok.bsz,ok.noex,ok.exfs,ok.funs,ok.frf⟩
section
variable {X:Cx} {pins:List (Addr × Obj)} {σ:St} {H:Hp} {s:Shared} {E:Value->Shared->Prop}
theorem Inv.wish (I:Inv X pins σ H s) (E:Value->Shared->Prop):Inv (X.wish E) pins σ H s:=⟨I.ok.wish E,I.os,I.bare,I.base,I.loc,I.cell,I.free,I.freeC,I.pin,I.hok,I.len⟩
theorem Inv.unwish (I:Inv (X.wish E) pins σ H s):Inv X pins σ H s:=⟨I.ok.unwish,I.os,I.bare,I.base,I.loc,I.cell,I.free,I.freeC,I.pin,I.hok,I.len⟩
theorem SP.unwish {D:Ends} {f:Flow} {s':Shared} (h:SP (X.wish E) pins D f s'):SP X pins D f s':=by
 cases f with
 | next=>obtain ⟨σ',H',I,q⟩:=h; exact ⟨σ',H',I.unwish,q⟩
 | brk=>obtain ⟨σ',H',I,q⟩:=h; exact ⟨σ',H',I.unwish,q⟩
 | cont=>obtain ⟨σ',H',I,q⟩:=h; exact ⟨σ',H',I.unwish,q⟩
 | ret u=>obtain ⟨v,σ',H',I,r,q⟩:=h; exact ⟨v,σ',H',I.unwish,r,q⟩
theorem PSs.nox {st:List Stmt} {t:TS} (h:PSs X.nox st t):PSs X st t:=fun pins s σ H D I hw =>
 wpAny_mono (h pins s σ H D (I.wish _) hw) (fun _ _ q=>q.unwish) fun _ _ z=>False.elim z
end
section
variable {X:Cx} {st:Stmt} {rest:List Stmt} {t u:TS} {e:Expr} {te:TE} {pos:Pos}
noncomputable def tNext:TS:=fun D σ H=>D.nx σ H
noncomputable def tSeq (t u:TS):TS:=fun D σ H=>t { D with nx:=u D } σ H
theorem pss_nil:PSs X [] tNext:=fun _ _ σ H _ I h=>wpAny_execs_nil ⟨σ,H,I,h⟩
theorem zab (h1:PS X st t) (h2:PSs X rest u):PSs X (st :: rest) (tSeq t u):=by
 intro pins s σ H D I h
 refine wpAny_execs_cons (thn (h1 pins s σ H { D with nx:=u D } I h) fun f s1 q=>?_)
 cases f with
 | next =>
  obtain ⟨σ',H',I',q⟩:=q
  exact h2 pins s1 σ' H' D I' q
 | ret v=>exact q
 | brk=>exact q
 | cont=>exact q
theorem zae (h1:PS X st t):PSs X [st] t:=by
 intro pins s σ H D I h
 refine wpAny_execs_cons (thn (h1 pins s σ H D I h) fun f s1 q=>?_)
 cases f with
 | next=>exact wpAny_execs_nil q
 | ret v=>exact q
 | brk=>exact q
 | cont=>exact q
theorem Inv.quiet {pins:List (Addr × Obj)} {σ:St} {H:Hp} {s:Shared} (I:Inv X pins σ H s):interactive X.env = false:=by simp [interactive,I.ok.kind]
noncomputable def zgC (te:TE):TS:=fun D σ H=>te σ H fun _ H1=>D.nx σ H1
theorem zaZ (he:PE X e te) (hs:swapsWith e none pos.line X.env = pure false:=by rfl):PS X (.Expr e pos) (zgC te):=by
 intro pins s σ H D I h
 exact wpAny_Expr_any (thn (he pins s σ H _ I h) fun v s1 ⟨x,H1,I1,r1,q1⟩=>⟨σ,H1,I1,q1⟩) I.quiet hs
noncomputable def tRet (te:TE):TS:=fun D σ H=>te σ H D.rt
theorem zaq (he:PE X e te):PS X (.Return (some e) pos) (tRet te):=by
 intro pins s σ H D I h
 exact wpAny_Return_some (thn (he pins s σ H _ I h) fun v s1 ⟨x,H1,I1,r1,q1⟩=>⟨x,σ,H1,I1,r1,q1⟩)
noncomputable def tRetN:TS:=fun D _ H=>D.rt .non H
noncomputable def tIfS (c:TT) (t u:TS):TS:=fun D σ H=>c σ H fun b H1=>if b = true then t D σ H1 else u D σ H1
theorem zay {c:Expr} {a b:List Stmt} {tc:TT} (hc:PT X c tc) (ha:PSs X a t) (hb:PSs X b u):PS X (.If c a b pos) (tIfS tc t u):=by
 intro pins s σ H D I h
 refine wpAny_If (thn (hc pins s σ H _ I h) fun d s1 zq_=>?_)
 obtain ⟨H1,I1,q1⟩:=zq_
 cases d with
 | true=>exact ha pins s1 σ H1 D I1 q1
 | false=>exact hb pins s1 σ H1 D I1 q1
end
abbrev TG:=V->St->Hp->(St->Hp->Prop)->Prop
abbrev TGs:=List V->St->Hp->(St->Hp->Prop)->Prop
noncomputable def PG (X:Cx) (target:Expr) (t:TG):Prop :=
 ∀ (pins:List (Addr × Obj)) (s:Shared) (σ:St) (H:Hp) (v:V) (u:Value) (Q:St->Hp->Prop),Inv X pins σ H s->RelV v u->t v σ H Q ->
  wpAny (model X.prog X.w) X.A (assign target X.env u) (fun _ s'=>∃ σ' H',Inv X pins σ' H' s'∧Q σ' H') X.xe s
noncomputable def PGs (X:Cx) (ts:List Expr) (t:TGs):Prop :=
 ∀ (pins:List (Addr × Obj)) (s:Shared) (σ:St) (H:Hp) (vs:List V) (us:List Value) (Q:St->Hp->Prop),Inv X pins σ H s->Vals vs us->t vs σ H Q ->
  wpAny (model X.prog X.w) X.A (assignInOrder ((assignEach ts X.env).map (·.2)) us) (fun _ s'=>∃ σ' H',Inv X pins σ' H' s'∧Q σ' H') X.xe s
abbrev TSet:=V->V->V->Hp->(Hp->Prop)->Prop
noncomputable def PSet (X:Cx) (t:TSet):Prop :=
 ∀ (pins:List (Addr × Obj)) (s:Shared) (σ:St) (H:Hp) (o i v:V) (ov iv u:Value) (Q:Hp->Prop),Inv X pins σ H s->RelV o ov->RelV i iv->RelV v u->t o i v H Q ->
  wpAny (model X.prog X.w) X.A (setItem ov iv u) (fun _ s'=>∃ H',Inv X pins σ H' s'∧Q H') X.xe s
abbrev TIp:=V->V->Hp->VK->Prop
section
variable {X:Cx} {pos:Pos}
noncomputable def zbn (i:Nat):TG:=fun v σ H Q=>Q (σ.set i (some v)) H
theorem zav {i:Nat} {x:Str} (hN:X.N.Nodup) (hi:X.N[i]? = some x) (hx:Loc X.env.scope x) (hf:X.fn x = true ∨ X.env.scope.names.lookup x = some .local:=by first | exact .inl rfl | exact .inr rfl | assumption):PG X (.Name x pos) (zbn i):=by
 intro pins s σ H v u Q I r h
 exact wpAny_assign_Name (zcG I hN hi hx r (fun s' I'=>⟨_,H,I',h⟩) hf)
noncomputable def gNil:TGs:=fun vs σ H Q=>vs = []∧Q σ H
noncomputable def zjs (t:TG) (u:TGs):TGs:=fun vs σ H Q=>∃ v r,vs = v :: r∧t v σ H fun σ' H'=>u r σ' H' Q
theorem pgs_nil:PGs X [] gNil:=by
 intro pins s σ H vs us Q I r h
 obtain ⟨e,h⟩:=h
 subst e
 cases r
 exact assignInOrder_nil ⟨σ,H,I,h⟩
theorem zbp {e:Expr} {es:List Expr} {t:TG} {u:TGs} (h1:PG X e t) (h2:PGs X es u)
  (hs:(assignEach (e :: es) X.env).map (·.2) = assign e X.env :: (assignEach es X.env).map (·.2):=by rfl):PGs X (e :: es) (zjs t u):=by
 intro pins s σ H vs us Q I r h
 obtain ⟨v,vr,e1,h⟩:=h
 subst e1
 cases r with
 | cons r rr =>
  rw [hs]
  refine assignInOrder_cons (thn (h1 pins s σ H _ _ _ I r h) fun _ s1 zq_=>?_)
  obtain ⟨σ1,H1,I1,q1⟩:=zq_
  exact h2 pins s1 σ1 H1 _ _ Q I1 rr q1
noncomputable def gTup (K:PySem.W.Frag) (n:Nat) (t:TGs):TG:=fun v σ H Q=>∃ a xs,v = .ref a∧SqT K H a xs∧xs.length = n∧t xs σ H Q
theorem zf5 {es:List Expr} {k:Nat} {t:TGs} {n:Nat} (hc:X.calm = true) (h:PGs X es t)
  (hn:(assignEach es X.env).length = n:=by rfl) (hst:(assignEach es X.env).findIdx? (·.1) = none:=by rfl):PG X (.Tuple es k pos) (gTup X.K n t):=by
 intro pins s σ H v u Q I r hw
 obtain ⟨a,xs,e1,hq,hl,hw⟩:=hw
 subst e1
 cases r
 obtain ⟨its,rv,ht,hz⟩:=I.tuple hq
 refine assign_Tuple_tuple (I.ok.hd hc) ht (by simp [hn,← hl,rv.length]) hst fun h' hx=>?_
 have I1:Inv X pins σ H { s with heap:=h' }:=I.kept (t':=s.toks) fun b o e=>hx b o (Nat.ne_of_lt (Heap.lt_size e)) e
 exact h pins _ σ H xs _ Q I1 (by simpa using rv) hw
noncomputable def gSub (to ti:TE) (t:TSet):TG:=fun v σ H Q=>to σ H fun o H1=>ti σ H1 fun i H2=>t o i v H2 fun H3=>Q σ H3
theorem zca {o i:Expr} {to ti:TE} {t:TSet} (ho:PE X o to) (hi:PE X i ti) (hs:PSet X t)
  (ha:∀ v,assign (.Subscript o i pos) X.env v = (do
   let ov ← holding [v] (eval o X.env)
   let iv ← holding [v,ov] (eval i X.env)
   standAt pos
   holding [v,ov,iv] (setItem ov iv v)
   release [v,ov,iv] []):=by intro _; rfl):PG X (.Subscript o i pos) (gSub to ti t):=by
 intro pins s σ H v u Q I r h
 rw [ha]
 refine wpAny_bind (wpAny_holding (thn (ho pins s σ H _ I h) fun ov s1 zq_=>?_))
 obtain ⟨x,H1,I1,r1,q1⟩:=zq_
 refine wpAny_bind (wpAny_holding (thn (hi pins s1 σ H1 _ I1 q1) fun iv s2 zq_=>?_))
 obtain ⟨y,H2,I2,r2,q2⟩:=zq_
 refine wpAny_bind (wpAny_standAt (wpAny_bind (wpAny_holding (thn (hs pins s2 σ H2 x y v ov iv u _ I2 r1 r2 r q2) fun _ s3 zq_=>?_))))
 obtain ⟨H3,I3,q3⟩:=zq_
 exact wpAny_release ⟨σ,H3,I3,q3⟩
noncomputable def tAsg (te:TE) (g:TG):TS:=fun D σ H=>te σ H fun x H1=>g x σ H1 D.nx
theorem zbQ {tg e:Expr} {te:TE} {g:TG} (he:PE X e te) (hg:PG X tg g) (hs:swapsWithSole [tg] e pos.line X.env = pure false:=by rfl) (hw:swappedStores [tg] e X.env = pure none:=by rfl)
  (h1:(assignEach [tg] X.env).map (·.2) = [assign tg X.env]:=by rfl):PS X (.Assign [tg] e pos) (tAsg te g):=by
 intro pins s σ H D I h
 refine wpAny_Assign_stores (thn (he pins s σ H _ I h) fun v s1 zq_=>?_) hs hw
 obtain ⟨x,H1,I1,r1,q1⟩:=zq_
 rw [h1]
 exact thn (hg pins s1 σ H1 x v _ I1 r1 q1) fun _ s2 q=>q
theorem zal {i:Nat} {x:Str} {e:Expr} {te:TE} {pos':Pos} (hN:X.N.Nodup) (hi:X.N[i]? = some x) (hx:Loc X.env.scope x) (he:PE X e te) (hs:swapsWith e (some (.Name x pos')) pos.line X.env = pure false:=by rfl) (hf:X.fn x = true ∨ X.env.scope.names.lookup x = some .local:=by first | exact .inl rfl | exact .inr rfl | assumption) :
  PS X (.Assign [.Name x pos'] e pos) (tAsg te (zbn i)):=by
 intro pins s σ H D I h
 refine wpAny_Assign_Name (thn (he pins s σ H _ I h) fun v s1 zq_=>?_) hs
 obtain ⟨y,H1,I1,r1,q1⟩:=zq_
 exact zcG I1 hN hi hx r1 (fun s2 I2=>⟨_,H1,I2,q1⟩) hf
noncomputable def tAug (i:Nat) (te:TE) (ti:TIp):TS:=fun D σ H=>∃ x,σ[i]? = some (some x)∧te σ H fun y H1=>ti x y H1 fun z H2=>D.nx (σ.set i (some z)) H2
noncomputable def ipI (f:Int->Int->Int):TIp:=fun x y H Q=>∃ i j,x = .int i∧y = .int j∧Q (.int (f i j)) H
end
section
variable {X:Cx} {pos:Pos}
end
set_option genInjectivity false in
set_option genSizeOf false in
structure It where
 go:Nat->Hp->Prop
 yld:Nat->Hp->V->Hp->Prop
 stop:Nat->Hp->Prop
noncomputable def FpOk (X:Cx) (pins:List (Addr × Obj)) (H:Hp) (b:Addr):Prop :=
 H b = none∧b ≠ X.env.locals∧b ∉ X.fs∧(b ∈ X.ex ∨ X.s₀.heap.objs.size ≤ b)∧(∀ x c,X.env.cells.lookup x = some c->c ≠ b)∧∀ p ∈ X.pn ++ pins,p.1 ≠ b
theorem Inv.fpOk {X:Cx} {pins:List (Addr × Obj)} {σ:St} {H H':Hp} {s:Shared} {b:Addr} (I:Inv X pins σ H s) (hb:s.heap.objs.size ≤ b) (hn:H' b = none):FpOk X pins H' b:=by
 refine ⟨hn,Nat.ne_of_gt (Nat.lt_of_lt_of_le I.lt hb),I.nofs hb,.inr (Nat.le_trans I.sz hb),fun x c e z=>?_,fun p hp z=>?_⟩
 ·obtain ⟨v,q⟩:=I.cell x c e
  exact absurd (Nat.lt_of_lt_of_le q.lt (by rw [z]; exact hb)) (Nat.lt_irrefl _)
 ·exact absurd (Nat.lt_of_lt_of_le (Heap.lt_size (I.pin p hp).1) (by rw [z]; exact hb)) (Nat.lt_irrefl _)
structure Turn (P:Program) (w:World) (K:PySem.W.Frag) (tg:Expr) (J:It) (fp:List Addr) (it:Addr) (tn:Nat->Heap->Prop):Prop where
 mem:it ∈ fp
 obj:∀ i h,tn i h->∀ b ∈ fp,∃ o,h.get? b = some o∧∀ v,o.data ≠ .cell v
 keep:∀ i h h',tn i h->(∀ b ∈ fp,∀ o,h.get? b = some o->h'.get? b = some o)->tn i h'
 item:∀ (X:Cx),X.prog = P->X.w = w->X.K = K->X.calm = true->∀ (i:Nat) (pins:List (Addr × Obj)) (s:Shared) (σ:St) (H:Hp) (E:Value->Shared->Prop),Inv X pins σ H s->(∀ b ∈ fp,FpOk X pins H b)->tn i s.heap->J.go i H ->
  wpAny (model P w) X.A (pyNext (.ref it)) (fun r s1=>∃ u,r = some u ∧
   wpAny (model P w) X.A (letOwnedTupleGo tg (.ref it) u) (fun _ s2=>∃ x H',Inv X pins σ H' s2∧RelV x u∧J.yld i H x H'∧tn (i + 1) s2.heap∧∀ b ∈ fp,H' b = none) E s1) E s
 done:∀ (X:Cx),X.prog = P->X.w = w->X.K = K->X.calm = true->∀ (i:Nat) (pins:List (Addr × Obj)) (s:Shared) (σ:St) (H:Hp) (E:Value->Shared->Prop),Inv X pins σ H s->(∀ b ∈ fp,FpOk X pins H b)->tn i s.heap->J.stop i H ->
  wpAny (model P w) X.A (pyNext (.ref it)) (fun r s1=>r = none∧Inv X pins σ H s1) E s
 self:∀ (A:Around) (i:Nat) (s:Shared) (Q:Value->Shared->Prop) (E:Value->Shared->Prop),tn i s.heap->Q (.ref it) s->wpAny (model P w) A (pyIter (.ref it)) Q E s
abbrev TI:=St->Hp->(It->Hp->Prop)->Prop
noncomputable def PIE (X:Cx) (pins:List (Addr × Obj)) (σ:St) (tg:Expr) (R:It->Hp->Prop) (itv:Value) (s2:Shared):Prop :=
 ∃ (it:Addr) (fp:List Addr) (tn:Nat->Heap->Prop) (J:It) (H':Hp),itv = .ref it∧Inv X pins σ H' s2∧Turn X.prog X.w X.K tg J fp it tn∧tn 0 s2.heap∧(∀ b ∈ fp,FpOk X pins H' b)∧R J H'
noncomputable def PI (X:Cx) (tg iter:Expr) (wi:TI):Prop :=
 ∀ (pins:List (Addr × Obj)) (s:Shared) (σ:St) (H:Hp) (R:It->Hp->Prop),Inv X pins σ H s->wi σ H R ->
  wpAny (model X.prog X.w) X.A (eval iter X.env) (fun v s1=>wpAny (model X.prog X.w) X.A (pyIter v) (PIE X pins σ tg R) X.xe s1) X.xe s
theorem zg6 {M : Model} {A : Around} {E : Value → Shared → Prop} {s : Shared} {tg : Expr} {it : Addr} {u : Value} {o : Obj} {n : String} {vs : Array Value} {Q : Unit → Shared → Prop} (ho : s.heap.get? it = some o) (hc : o.cls = .type n) (hd : o.data = .fields vs)
    (hn : ["enumerate", "zip", "dict_itemiterator", "dict_reverseitemiterator", "odict_iterator", "itertools.zip_longest", "itertools.pairwise"].contains n = false) (hQ : Q () s) : wpAny M A (letOwnedTupleGo tg (.ref it) u) Q E s := by
  unfold letOwnedTupleGo
  cases tg <;> first
    | exact wpAny_pure hQ
    | (cases u <;> first
        | exact wpAny_pure hQ
        | (refine wpAny_bind (wpAny_load ho ?_)
           rw [hc, hd]
           show wpAny M A (if (["enumerate", "zip", "dict_itemiterator", "dict_reverseitemiterator", "odict_iterator", "itertools.zip_longest", "itertools.pairwise"].contains n && vs[0]? == some (rawInt _)) = true then _ else _) Q E s
           rw [if_neg (by intro h; rw [hn, Bool.false_and] at h; cases h)]
           exact wpAny_pure hQ))
noncomputable def Itl (K:PySem.W.Frag) (a:Addr):It :=
 ⟨fun i H=>∃ xs x,SqL K H a xs∧xs[i]? = some x,fun i H x H'=>H' = H∧∀ xs,SqL K H a xs->xs[i]? = some x,fun i H=>∃ xs,SqL K H a xs∧xs.length ≤ i⟩
noncomputable def Itt (K:PySem.W.Frag) (a:Addr):It :=
 ⟨fun i H=>∃ xs x,SqT K H a xs∧xs[i]? = some x,fun i H x H'=>H' = H∧∀ xs,SqT K H a xs->xs[i]? = some x,fun i H=>∃ xs,SqT K H a xs∧xs.length ≤ i⟩
noncomputable def Itr (lo:Int) (n:Nat):It:=⟨fun i _=>i < n,fun i H x H'=>H' = H∧x = .int (lo + i),fun i _=>n ≤ i⟩
theorem zgi {P:Program} {w:World} {K:PySem.W.Frag} {tg:Expr} (a it:Addr):Turn P w K tg (Itl K a) [it] it (fun i h=>h.IsListIter it a i) where
 mem:=by simp
 obj:=fun i h st b hb=>by
  have e:b = it:=by simpa using hb
  subst e
  obtain ⟨o,e,c,d⟩:=st
  exact ⟨o,e,fun v z=>by rw [d] at z; cases z⟩
 keep:=fun i h h' st k=>st.at fun o e=>k it (by simp) o e
 item:=by
  intro X hP hw hK hc i pins s σ H E I hf st hg
  subst hP hw hK
  obtain ⟨xs,x,hq,hx⟩:=hg
  obtain ⟨its,rv,p,hz⟩:=I.list hq
  obtain ⟨u,hu,ru⟩:=rv.get hx
  obtain ⟨f0,f1,f2,f3,f4,f5⟩:=hf it (by simp)
  refine wpAny_pyNext_list_item st p.isList (x:=u) (by simpa using hu) fun h' st' sb=>?_
  have I1:Inv X pins σ H { s with heap:=h' }:=I.turned (t':=s.toks) (fun b o hb e=>(sb.2 b hb).trans e) f0 f1 f3 f4 f5
  obtain ⟨o,e,c,d⟩:=id st'
  exact ⟨u,rfl,zg6 (s:={ s with heap:=h' }) e c d (by decide) ⟨x,H,I1,ru,⟨rfl,fun ys hy=>by rw [I.list_inj hy hq]; exact hx⟩,st',fun b hb=>(hf b hb).1⟩⟩
 done:=by
  intro X hP hw hK hc i pins s σ H E I hf st hg
  subst hP hw hK
  obtain ⟨xs,hq,hx⟩:=hg
  obtain ⟨its,rv,p,hz⟩:=I.list hq
  obtain ⟨f0,f1,f2,f3,f4,f5⟩:=hf it (by simp)
  have hl:=rv.length
  exact wpAny_pyNext_list_end (I.ok.hd hc) st p.isList (by simp; omega) fun h' eb=>⟨rfl,I.turned (t':=s.toks) (fun b o hb e=>eb b o hb e) f0 f1 f3 f4 f5⟩
 self:=fun _ _ _ _ _ st h=>wpAny_pyIter_listiter st h
theorem zfd {P:Program} {w:World} {K:PySem.W.Frag} {tg:Expr} (a it:Addr):Turn P w K tg (Itt K a) [it] it (fun i h=>h.IsTupleIter it a i) where
 mem:=by simp
 obj:=fun i h st b hb=>by
  have e:b = it:=by simpa using hb
  subst e
  obtain ⟨o,e,c,d⟩:=st
  exact ⟨o,e,fun v z=>by rw [d] at z; cases z⟩
 keep:=fun i h h' st k=>st.at fun o e=>k it (by simp) o e
 item:=by
  intro X hP hw hK hc i pins s σ H E I hf st hg
  subst hP hw hK
  obtain ⟨xs,x,hq,hx⟩:=hg
  obtain ⟨its,rv,p,hz⟩:=I.tuple hq
  obtain ⟨u,hu,ru⟩:=rv.get hx
  obtain ⟨f0,f1,f2,f3,f4,f5⟩:=hf it (by simp)
  refine wpAny_pyNext_tuple_item st (show s.heap.IsTuple a its.toArray from p) (x:=u) (by simpa using hu) fun h' st' sb=>?_
  have I1:Inv X pins σ H { s with heap:=h' }:=I.turned (t':=s.toks) (fun b o hb e=>(sb.2 b hb).trans e) f0 f1 f3 f4 f5
  obtain ⟨o,e,c,d⟩:=id st'
  exact ⟨u,rfl,zg6 (s:={ s with heap:=h' }) e c d (by decide) ⟨x,H,I1,ru,⟨rfl,fun ys hy=>by rw [I.tuple_inj hy hq]; exact hx⟩,st',fun b hb=>(hf b hb).1⟩⟩
 done:=by
  intro X hP hw hK hc i pins s σ H E I hf st hg
  subst hP hw hK
  obtain ⟨xs,hq,hx⟩:=hg
  obtain ⟨its,rv,p,hz⟩:=I.tuple hq
  obtain ⟨f0,f1,f2,f3,f4,f5⟩:=hf it (by simp)
  have hl:=rv.length
  exact wpAny_pyNext_tuple_end (I.ok.hd hc) st (show s.heap.IsTuple a its.toArray from p) (by simp; omega) fun h' eb=>⟨rfl,I.turned (t':=s.toks) (fun b o hb e=>eb b o hb e) f0 f1 f3 f4 f5⟩
 self:=fun _ _ _ _ _ st h=>wpAny_pyIter_tupleiter st h
theorem ze2 {P:Program} {w:World} {K:PySem.W.Frag} {tg:Expr} (it:Addr) (lo:Int) (n:Nat):Turn P w K tg (Itr lo n) [it] it (fun i h=>IsRangeIter h it (lo + (i:Nat) * 1) ((n:Int) - (i:Nat)) 1) where
 mem:=by simp
 obj:=fun i h st b hb=>by
  have e:b = it:=by simpa using hb
  subst e
  exact ⟨_,st,fun v z=>by
   have z':Data.fields _ = Data.cell v:=z
   cases z'⟩
 keep:=fun i h h' st k=>k it (by simp) _ st
 item:=by
  intro X hP hw hK hc i pins s σ H E I hf st hg
  subst hP hw hK
  obtain ⟨f0,f1,f2,f3,f4,f5⟩:=hf it (by simp)
  have W:=Walks.range (prog:=X.prog) (w:=X.w) (I.ok.hd hc) it lo 1 n
  refine W.item i s _ _ hg st fun v h' tk hv st' kk=>?_
  obtain ⟨t,rfl⟩:=hv
  have I1:Inv X pins σ H { s with heap:=h',toks:=tk }:=I.turned (fun b o hb e=>kk b o (by simpa using hb) e) f0 f1 f3 f4 f5
  refine ⟨_,rfl,zg6 (s:={ s with heap:=h',toks:=tk }) (n:="range_iterator") st' rfl rfl (by decide) ⟨.int (lo + i),H,I1,⟨t,?_⟩,⟨rfl,rfl⟩,st',fun b hb=>(hf b hb).1⟩⟩
  rw [Int.mul_one]
 done:=by
  intro X hP hw hK hc i pins s σ H E I hf st hg
  subst hP hw hK
  obtain ⟨f0,f1,f2,f3,f4,f5⟩:=hf it (by simp)
  exact wpAny_pyNext_range_end (I.ok.hd hc) st (by have:n ≤ i:=hg; omega) fun h' eb=>⟨rfl,I.turned (t':=s.toks) (fun b o hb e=>eb b o hb e) f0 f1 f3 f4 f5⟩
 self:=fun _ _ _ _ _ st h=>wpAny_pyIter_rangeiter st h
end L2
namespace L2
open PySem PySem.Spec PyProof.Rows
section
variable {X:Cx} {tg:Expr}
noncomputable def zdV (K:PySem.W.Frag) (tl:TE):TI:=fun σ H R=>tl σ H fun x H1=>∃ a,x = .ref a∧(∃ xs,SqL K H1 a xs)∧R (Itl K a) H1
noncomputable def iTup (K:PySem.W.Frag) (tl:TE):TI:=fun σ H R=>tl σ H fun x H1=>∃ a,x = .ref a∧(∃ xs,SqT K H1 a xs)∧R (Itt K a) H1
theorem zbm {l:Expr} {tl:TE} (hl:PE X l tl):PI X tg l (zdV X.K tl):=by
 intro pins s σ H R I h
 refine thn (hl pins s σ H _ I h) fun v s1 zq_=>?_
 obtain ⟨x,H1,I1,r1,q1⟩:=zq_
 obtain ⟨a,e,⟨xs,hq⟩,q⟩:=q1
 subst e
 cases r1
 obtain ⟨its,rv,p,hz⟩:=I1.list hq
 refine wpAny_pyIter_list p.isList ?_
 refine ⟨s1.heap.objs.size,[s1.heap.objs.size],_,_,H1,rfl,I1.kept (t':=s1.toks) fun b o e=>Heap.get?_push_of_some _ e,zgi a _,⟨_,Heap.get?_push_size _ rfl,rfl,rfl⟩,fun b hb=>?_,q⟩
 have e:b = s1.heap.objs.size:=by simpa using hb
 subst e
 exact I1.fpOk (Nat.le_refl _) (I1.hok.fresh (Nat.le_refl _))
theorem zhw {l:Expr} {tl:TE} (hl:PE X l tl):PI X tg l (iTup X.K tl):=by
 intro pins s σ H R I h
 refine thn (hl pins s σ H _ I h) fun v s1 zq_=>?_
 obtain ⟨x,H1,I1,r1,q1⟩:=zq_
 obtain ⟨a,e,⟨xs,hq⟩,q⟩:=q1
 subst e
 cases r1
 obtain ⟨its,rv,p,hz⟩:=I1.tuple hq
 refine wpAny_pyIter_tuple (show s1.heap.IsTuple a its.toArray from p) ?_
 refine ⟨s1.heap.objs.size,[s1.heap.objs.size],_,_,H1,rfl,I1.kept (t':=s1.toks) fun b o e=>Heap.get?_push_of_some _ e,zfd a _,⟨_,Heap.get?_push_size _ rfl,rfl,rfl⟩,fun b hb=>?_,q⟩
 have e:b = s1.heap.objs.size:=by simpa using hb
 subst e
 exact I1.fpOk (Nat.le_refl _) (I1.hok.fresh (Nat.le_refl _))
theorem zgR {pins:List (Addr × Obj)} {σ:St} {H:Hp} {s:Shared} {R:It->Hp->Prop} {E:Value->Shared->Prop} {lo hi:Int} {t u v:Tok} {tk:Nat} (I:Inv X pins σ H s) (h1:-(2 ^ 62) ≤ lo) (h2:lo < 2 ^ 62) (h3:-(2 ^ 62) ≤ hi) (h4:hi < 2 ^ 62)
  (q:R (Itr lo (hi - lo).toNat) H):wpAny (model X.prog X.w) X.A (pyIter (.ref s.heap.objs.size)) (PIE X pins σ tg R) E { s with heap:=s.heap.push { cls:=.type "range",data:=.fields #[.int lo t,.int hi u,.int 1 v] },toks:=tk }:=by
 refine wpAny_pyIter_range (IsRange.new ..) (small_one h1 h2 h3 h4) ?_
 have I1:Inv X pins σ H { s with heap:=s.heap.push { cls:=.type "range",data:=.fields #[.int lo t,.int hi u,.int 1 v] },toks:=tk }:=I.kept fun b o e=>Heap.get?_push_of_some _ e
 refine ⟨(s.heap.push { cls:=.type "range",data:=.fields #[.int lo t,.int hi u,.int 1 v] }).objs.size,[(s.heap.push { cls:=.type "range",data:=.fields #[.int lo t,.int hi u,.int 1 v] }).objs.size],_,_,H,rfl,
  I1.kept (t':=tk) fun b o e=>Heap.get?_push_of_some _ e,ze2 _ lo (hi - lo).toNat,?_,fun b hb=>?_,q⟩
 ·have e1:lo + ((0:Nat):Int) * 1 = lo:=by simp
  have e2:(((hi - lo).toNat:Nat):Int) - ((0:Nat):Int) = Builtin.Range.rangeSize lo hi 1:=by rw [rangeSize_one]; split <;> omega
  show IsRangeIter _ _ (lo + ((0:Nat):Int) * 1) ((((hi - lo).toNat:Nat):Int) - ((0:Nat):Int)) 1
  rw [e1,e2]
  exact Heap.get?_push_size _ rfl
 ·have e:b = (s.heap.push { cls:=.type "range",data:=.fields #[.int lo t,.int hi u,.int 1 v] }).objs.size:=by simpa using hb
  subst e
  exact I1.fpOk (Nat.le_refl _) (I1.hok.fresh (Nat.le_refl _))
noncomputable def zdy (ta:TA):TI:=fun σ H R=>ta σ H fun vs H1=>∃ j:Int,vs = [.int j]∧-(2 ^ 62) ≤ j∧j < 2 ^ 62∧R (Itr 0 j.toNat) H1
theorem zaI {a:Expr} {ta:TA} {p pos:Pos} (hg:Gl X "range") (hm:X.mg "range" = none) (ha:PA X [a] ta) (hs:starEach [a] X.env = [(false,eval a X.env)]:=by rfl):PI X tg (.Call (.Name "range" p) [a] [] pos) (zdy ta):=by
 intro pins s σ H R I h
 refine Call_ (zeV I hg hm boot_range (PyProof.Rows.callWith_type1 (thn (ha pos pins s σ H _ I h) fun us s1 zq_=>?_) hs rfl))
 obtain ⟨vs,H1,I1,r1,q1⟩:=zq_
 obtain ⟨j,e,q1,q2,q⟩:=q1
 subst e
 cases r1 with
 | cons r rr =>
  cases rr
  obtain ⟨t,rfl⟩:=r
  exact call_range_1 (zgR I1 (by omega) (by omega) q1 q2 (by simpa using q))
noncomputable def tFor (wi:TI) (g:TG) (tb:TS):TS:=fun D σ H=>wi σ H fun J H1=>∃ W:Nat->Nat->St->Hp->Prop,(∃ m,W 0 m σ H1)∧∀ i m σ H,W i m σ H ->
 (J.stop i H∧D.nx σ H) ∨ (J.go i H∧∃ N:St->Hp->Prop,(∀ σ' H',N σ' H'->∃ m',m' < m∧W (i + 1) m' σ' H')∧∀ x H',J.yld i H x H'->g x σ H' fun σ2 H2=>tb { D with nx:=N,ct:=N,bk:=D.nx } σ2 H2)
noncomputable def zdj (fp:List Addr) (h:Heap):List (Addr × Obj):=fp.filterMap fun b=>(h.get? b).map fun o=>(b,o)
theorem zbi {fp:List Addr} {h:Heap} {b:Addr} {o:Obj} (hb:b ∈ fp) (e:h.get? b = some o):(b,o) ∈ zdj fp h:=List.mem_filterMap.mpr ⟨b,hb,by rw [e]; rfl⟩
theorem zfr {fp:List Addr} {h:Heap} {p:Addr × Obj} (hp:p ∈ zdj fp h):p.1 ∈ fp∧h.get? p.1 = some p.2:=by
 obtain ⟨b,hb,e⟩:=List.mem_filterMap.mp hp
 cases q:h.get? b with
 | none=>rw [q] at e; cases e
 | some o =>
  rw [q] at e
  have e':(b,o) = p:=Option.some.inj e
  subst e'
  exact ⟨hb,q⟩
theorem Inv.pinned {pins:List (Addr × Obj)} {σ:St} {H:Hp} {s:Shared} {fp:List Addr} (I:Inv X pins σ H s) (hf:∀ b ∈ fp,FpOk X pins H b) (ho:∀ b ∈ fp,∃ o,s.heap.get? b = some o∧∀ v,o.data ≠ .cell v):Inv X (pins ++ zdj fp s.heap) σ H s :=
 I.pins_of fun p hp=>(List.mem_append.mp hp).elim (fun z=>I.pin p (List.mem_append_right _ z)) fun z=>by
  obtain ⟨hb,e⟩:=zfr z
  obtain ⟨f0,f1,f2,_⟩:=hf p.1 hb
  obtain ⟨o,e',d⟩:=ho p.1 hb
  rw [e] at e'; cases e'
  exact ⟨e,f0,f1,f2,d⟩
theorem Inv.unpinned {pins pl:List (Addr × Obj)} {σ:St} {H:Hp} {s:Shared} (I:Inv X (pins ++ pl) σ H s):Inv X pins σ H s:=I.pins_of fun p hp=>I.pin p (List.mem_append_right _ (List.mem_append_left _ hp))
theorem zbd {iter:Expr} {body:List Stmt} {wi:TI} {g:TG} {tb:TS} {pos:Pos} (hp:PassesOwn (model X.prog X.w) X.A X.env X.xe) (hc:X.calm = true) (hi:PI X tg iter wi) (hg:PG X tg g) (hb:PSs X body tb)
  (hs:∀ x,foldedSetIterable iter X.env x = pure x:=by intro _; rfl):PS X (.For tg iter body [] pos) (tFor wi g tb):=by
 intro pins s σ H D I h
 refine wpAny_For (thn (hi pins s σ H _ I h) fun v s1 h1=>thn h1 fun itv s2 h2=>?_) hs
 obtain ⟨it,fp,tn,J,H2,e,I2,T,st2,f2,W,⟨m0,w0⟩,turn⟩:=h2
 subst e
 have stat:∀ {H':Hp},(∀ b ∈ fp,H' b = none)->∀ b ∈ fp,FpOk X pins H' b:=fun hn b hb=>⟨hn b hb,(f2 b hb).2⟩
 refine codeAny_forLoop_any (fun n s'=>∃ i σ' H',Inv X pins σ' H' s'∧tn i s'.heap∧(∀ b ∈ fp,H' b = none)∧W i n σ' H') ?_ m0 ⟨0,σ,H2,I2,st2,fun b hb=>(f2 b hb).1,w0⟩
 rintro n s3 ⟨i,σ3,H3,I3,st3,fr3,w3⟩
 rcases turn i n σ3 H3 w3 with ⟨stop,qn⟩ | ⟨go,N,hN,step⟩
 ·refine wpAny_passesOwn hp (thn (T.done X rfl rfl rfl hc i pins s3 σ3 H3 X.xe I3 (stat fr3) st3 stop) fun r s4 ⟨hr,I4⟩=>?_)
  subst hr
  exact wpAny_execs_nil ⟨σ3,H3,I4,qn⟩
 ·refine wpAny_passesOwn hp (thn (T.item X rfl rfl rfl hc i pins s3 σ3 H3 X.xe I3 (stat fr3) st3 go) fun r s4 ⟨u,hr,h4⟩=>?_)
  subst hr
  refine wpAny_passesOwn hp (thn h4 fun _ s5 zq_=>?_)
  obtain ⟨x,H5,I5,r5,y5,st5,fr5⟩:=zq_
  have I5':=I5.pinned (stat fr5) (T.obj _ _ st5)
  refine wpAny_passesOwn hp (thn (hg _ s5 σ3 H5 x u _ I5' r5 (step x H5 y5)) fun _ s6 zq_=>?_)
  obtain ⟨σ6,H6,I6,q6⟩:=zq_
  refine wpAny_passesOwn hp (thn (hb _ s6 σ6 H6 _ I6 q6) fun f s7 q7=>?_)
  have again:∀ {σ7:St} {H7:Hp},Inv X (pins ++ zdj fp s5.heap) σ7 H7 s7->N σ7 H7->∃ m,m < n∧∃ i σ' H',Inv X pins σ' H' s7∧tn i s7.heap∧(∀ b ∈ fp,H' b = none)∧W i m σ' H':=fun {σ7 H7} I7 n7=>by
   obtain ⟨m',hm,w7⟩:=hN σ7 H7 n7
   refine ⟨m',hm,i + 1,σ7,H7,I7.unpinned,T.keep _ _ _ st5 fun b hb o e=>(I7.pin (b,o) (List.mem_append_right _ (List.mem_append_right _ (zbi hb e)))).1,fun b hb=>?_,w7⟩
   obtain ⟨o,e,d⟩:=T.obj _ _ st5 b hb
   exact (I7.pin (b,o) (List.mem_append_right _ (List.mem_append_right _ (zbi hb e)))).2.1
  cases f with
  | next=>obtain ⟨σ7,H7,I7,n7⟩:=q7; exact again I7 n7
  | cont=>obtain ⟨σ7,H7,I7,n7⟩:=q7; exact again I7 n7
  | brk=>obtain ⟨σ7,H7,I7,q7⟩:=q7; exact ⟨σ7,H7,I7.unpinned,q7⟩
  | ret v=>obtain ⟨x7,σ7,H7,I7,r7,q7⟩:=q7; exact ⟨x7,σ7,H7,I7.unpinned,r7,q7⟩
end
theorem zeU {K:PySem.W.Frag} {a:Addr} {xs:List V} {g:TG} {tb:TS} {D:Ends} {σ:St} {H:Hp} (Pv:Nat->St->Hp->Prop) (h0:Pv 0 σ H) (hl:∀ i σ H,i ≤ xs.length->Pv i σ H->SqL K H a xs)
  (hs:∀ i x σ H,xs[i]? = some x->Pv i σ H->g x σ H fun σ2 H2=>tb { D with nx:=Pv (i + 1),ct:=Pv (i + 1),bk:=D.nx } σ2 H2) (hd:∀ σ H,Pv xs.length σ H->D.nx σ H) :
  ∃ W:Nat->Nat->St->Hp->Prop,(∃ m,W 0 m σ H)∧∀ i m σ H,W i m σ H ->
   ((Itl K a).stop i H∧D.nx σ H) ∨ ((Itl K a).go i H∧∃ N:St->Hp->Prop,(∀ σ' H',N σ' H'->∃ m',m' < m∧W (i + 1) m' σ' H')∧∀ x H',(Itl K a).yld i H x H'->g x σ H' fun σ2 H2=>tb { D with nx:=N,ct:=N,bk:=D.nx } σ2 H2):=by
 refine ⟨fun i m σ H=>m = xs.length - i∧i ≤ xs.length∧Pv i σ H,⟨xs.length,by simp,Nat.zero_le _,h0⟩,?_⟩
 rintro i m σ H ⟨rfl,hi,p⟩
 have q:=hl i σ H hi p
 by_cases hlt:i < xs.length
 ·refine .inr ⟨⟨xs,xs[i],q,by simp [hlt]⟩,Pv (i + 1),fun σ' H' p'=>⟨xs.length - (i + 1),by omega,rfl,hlt,p'⟩,fun x H' y=>?_⟩
  obtain ⟨e,y⟩:=y
  subst e
  exact hs i x σ _ (y xs q) p
 ·have e:i = xs.length:=by omega
  subst e
  exact .inl ⟨⟨xs,q,Nat.le_refl _⟩,hd σ H p⟩
theorem zie {K:PySem.W.Frag} {a:Addr} {xs:List V} {g:TG} {tb:TS} {D:Ends} {σ:St} {H:Hp} (Pv:Nat->St->Hp->Prop) (h0:Pv 0 σ H) (hl:∀ i σ H,i ≤ xs.length->Pv i σ H->SqT K H a xs)
  (hs:∀ i x σ H,xs[i]? = some x->Pv i σ H->g x σ H fun σ2 H2=>tb { D with nx:=Pv (i + 1),ct:=Pv (i + 1),bk:=D.nx } σ2 H2) (hd:∀ σ H,Pv xs.length σ H->D.nx σ H) :
  ∃ W:Nat->Nat->St->Hp->Prop,(∃ m,W 0 m σ H)∧∀ i m σ H,W i m σ H ->
   ((Itt K a).stop i H∧D.nx σ H) ∨ ((Itt K a).go i H∧∃ N:St->Hp->Prop,(∀ σ' H',N σ' H'->∃ m',m' < m∧W (i + 1) m' σ' H')∧∀ x H',(Itt K a).yld i H x H'->g x σ H' fun σ2 H2=>tb { D with nx:=N,ct:=N,bk:=D.nx } σ2 H2):=by
 refine ⟨fun i m σ H=>m = xs.length - i∧i ≤ xs.length∧Pv i σ H,⟨xs.length,by simp,Nat.zero_le _,h0⟩,?_⟩
 rintro i m σ H ⟨rfl,hi,p⟩
 have q:=hl i σ H hi p
 by_cases hlt:i < xs.length
 ·refine .inr ⟨⟨xs,xs[i],q,by simp [hlt]⟩,Pv (i + 1),fun σ' H' p'=>⟨xs.length - (i + 1),by omega,rfl,hlt,p'⟩,fun x H' y=>?_⟩
  obtain ⟨e,y⟩:=y
  subst e
  exact hs i x σ _ (y xs q) p
 ·have e:i = xs.length:=by omega
  subst e
  exact .inl ⟨⟨xs,q,Nat.le_refl _⟩,hd σ H p⟩
theorem zfz {lo:Int} {n:Nat} {g:TG} {tb:TS} {D:Ends} {σ:St} {H:Hp} (Pv:Nat->St->Hp->Prop) (h0:Pv 0 σ H)
  (hs:∀ i σ H,i < n->Pv i σ H->g (.int (lo + i)) σ H fun σ2 H2=>tb { D with nx:=Pv (i + 1),ct:=Pv (i + 1),bk:=D.nx } σ2 H2) (hd:∀ σ H,Pv n σ H->D.nx σ H) :
  ∃ W:Nat->Nat->St->Hp->Prop,(∃ m,W 0 m σ H)∧∀ i m σ H,W i m σ H ->
   ((Itr lo n).stop i H∧D.nx σ H) ∨ ((Itr lo n).go i H∧∃ N:St->Hp->Prop,(∀ σ' H',N σ' H'->∃ m',m' < m∧W (i + 1) m' σ' H')∧∀ x H',(Itr lo n).yld i H x H'->g x σ H' fun σ2 H2=>tb { D with nx:=N,ct:=N,bk:=D.nx } σ2 H2):=by
 refine ⟨fun i m σ H=>m = n - i∧i ≤ n∧Pv i σ H,⟨n,by simp,Nat.zero_le _,h0⟩,?_⟩
 rintro i m σ H ⟨rfl,hi,p⟩
 by_cases hlt:i < n
 ·refine .inr ⟨hlt,Pv (i + 1),fun σ' H' p'=>⟨n - (i + 1),by omega,rfl,hlt,p'⟩,fun x H' y=>?_⟩
  obtain ⟨e,y⟩:=y
  subst e y
  exact hs i σ _ hlt p
 ·have e:i = n:=by omega
  subst e
  exact .inl ⟨Nat.le_refl _,hd σ H p⟩
end L2
namespace L2
open PySem PySem.Spec PyProof.Rows
abbrev R2:=V->V->Hp->VK->Prop
noncomputable def OpR (X:Cx) (f:Value->Value->Sem Value) (r:R2):Prop :=
 ∀ (pins:List (Addr × Obj)) (s:Shared) (σ:St) (H:Hp) (x y:V) (v u:Value) (Q:VK),Inv X pins σ H s->RelV x v->RelV y u->r x y H Q ->
  wpAny (model X.prog X.w) X.A (f v u) (EP X pins σ Q) X.xe s
noncomputable def UnR (X:Cx) (f:Value->Sem Value) (r:V->Hp->VK->Prop):Prop :=
 ∀ (pins:List (Addr × Obj)) (s:Shared) (σ:St) (H:Hp) (x:V) (v:Value) (Q:VK),Inv X pins σ H s->RelV x v->r x H Q ->
  wpAny (model X.prog X.w) X.A (f v) (EP X pins σ Q) X.xe s
noncomputable def zb9 (X:Cx) (f:Value) (r:List V->Hp->VK->Prop):Prop :=
 ∀ (pins:List (Addr × Obj)) (s:Shared) (σ:St) (H:Hp) (xs:List V) (us:List Value) (Q:VK),Inv X pins σ H s->Vals xs us->r xs H Q ->
  wpAny (model X.prog X.w) X.A (call f us) (EP X pins σ Q) X.xe s
noncomputable def TruR (X:Cx) (r:V->Hp->(Bool->Hp->Prop)->Prop):Prop :=
 ∀ (pins:List (Addr × Obj)) (s:Shared) (σ:St) (H:Hp) (x:V) (v:Value) (Q:Bool->Hp->Prop),Inv X pins σ H s->RelV x v->r x H Q ->
  wpAny (model X.prog X.w) X.A (truthy v) (TP X pins σ Q) X.xe s
noncomputable def tOp (r:R2) (ta tb:TE):TE:=fun σ H Q=>ta σ H fun x H1=>tb σ H1 fun y H2=>r x y H2 Q
noncomputable def tUn (r:V->Hp->VK->Prop) (ta:TE):TE:=fun σ H Q=>ta σ H fun x H1=>r x H1 Q
noncomputable def rI (C:Int->Int->Prop) (g:Int->Int->V):R2:=fun x y H Q=>∃ i j,x = .int i∧y = .int j∧C i j∧Q (g i j) H
noncomputable def rI0 (g:Int->Int->V):R2:=fun x y H Q=>∃ i j,x = .int i∧y = .int j∧Q (g i j) H
noncomputable def rU (g:Int->V):V->Hp->VK->Prop:=fun x H Q=>∃ i,x = .int i∧Q (g i) H
section
variable {X:Cx} {a b c:Expr} {ta tb tc:TE} {pos:Pos}
theorem binT (ha:PE X a ta) (hb:PE X b tb) {pins:List (Addr × Obj)} {s:Shared} {σ:St} {H:Hp} {R:V->V->Hp->Prop} (I:Inv X pins σ H s)
  (h:ta σ H fun x H1=>tb σ H1 fun y H2=>R x y H2) {Q:Value->Shared->Prop} {f:Value->Value->Sem Value}
  (hf:∀ v u s2 x y H2,Inv X pins σ H2 s2->RelV x v->RelV y u->R x y H2->wpAny (model X.prog X.w) X.A (f v u) Q X.xe s2) :
  wpAny (model X.prog X.w) X.A (eval a X.env) (fun v s₁=>wpAny (model X.prog X.w) X.A (eval b X.env) (fun u s₂=>wpAny (model X.prog X.w) X.A (f v u) Q X.xe s₂) X.xe s₁) X.xe s:=by
 refine thn (ha pins s σ H _ I h) fun v s1 zq_=>?_
 obtain ⟨x,H1,I1,r1,q1⟩:=zq_
 refine thn (hb pins s1 σ H1 _ I1 q1) fun u s2 zq_=>?_
 obtain ⟨y,H2,I2,r2,q2⟩:=zq_
 exact hf v u s2 x y H2 I2 r1 r2 q2
theorem zam {op:Operator} {r:R2} (ho:OpR X (binaryOp op) r) (ha:PE X a ta) (hb:PE X b tb):PE X (.BinOp a op b pos) (tOp r ta tb):=by
 intro pins s σ H Q I h
 exact wpAny_BinOp (binT ha hb I h fun v u s2 x y H2 I2 rx ry q=>ho pins s2 σ H2 x y v u Q I2 rx ry q)
theorem ziR {op:UnaryOp} {r:V->Hp->VK->Prop} (ho:UnR X (unaryOp op) r) (ha:PE X a ta):PE X (.UnaryOp op a pos) (tUn r ta):=by
 intro pins s σ H Q I h
 exact UnaryOp_ (thn (ha pins s σ H _ I h) fun v s1 ⟨x,H1,I1,r1,q1⟩=>ho pins s1 σ H1 x v Q I1 r1 q1)
theorem opI {f:Value->Value->Sem Value} {C:Int->Int->Prop} {g:Int->Int->Int}
  (rule:∀ (i j:Int) (t u:Tok) (s:Shared) (Q:Value->Shared->Prop) (E:Value->Shared->Prop),C i j->Q (.int (g i j) s.toks) { s with toks:=s.toks + 1 }->wpAny (model X.prog X.w) X.A (f (.int i t) (.int j u)) Q E s) :
  OpR X f (rI C fun i j=>.int (g i j)):=by
 intro pins s σ H x y v u Q I rx ry h
 obtain ⟨i,j,rfl,rfl,hc,q⟩:=h
 obtain ⟨t,rfl⟩:=rx
 obtain ⟨t',rfl⟩:=ry
 exact rule i j t t' s _ _ hc ⟨.int (g i j),H,I.tok _,⟨_,rfl⟩,q⟩
theorem opI0 {f:Value->Value->Sem Value} {g:Int->Int->Int}
  (rule:∀ (i j:Int) (t u:Tok) (s:Shared) (Q:Value->Shared->Prop) (E:Value->Shared->Prop),Q (.int (g i j) s.toks) { s with toks:=s.toks + 1 }->wpAny (model X.prog X.w) X.A (f (.int i t) (.int j u)) Q E s) :
  OpR X f (rI0 fun i j=>.int (g i j)):=by
 intro pins s σ H x y v u Q I rx ry h
 obtain ⟨i,j,rfl,rfl,q⟩:=h
 obtain ⟨t,rfl⟩:=rx
 obtain ⟨t',rfl⟩:=ry
 exact rule i j t t' s _ _ ⟨.int (g i j),H,I.tok _,⟨_,rfl⟩,q⟩
theorem opB0 {f:Value->Value->Sem Value} {g:Int->Int->Bool}
  (rule:∀ (i j:Int) (t u:Tok) (s:Shared) (Q:Value->Shared->Prop) (E:Value->Shared->Prop),Q (.bool (g i j)) s->wpAny (model X.prog X.w) X.A (f (.int i t) (.int j u)) Q E s) :
  OpR X f (rI0 fun i j=>.bl (g i j)):=by
 intro pins s σ H x y v u Q I rx ry h
 obtain ⟨i,j,rfl,rfl,q⟩:=h
 obtain ⟨t,rfl⟩:=rx
 obtain ⟨t',rfl⟩:=ry
 exact rule i j t t' s _ _ ⟨.bl (g i j),H,I,rfl,q⟩
noncomputable def CPow (i j:Int):Prop:=0 ≤ j∧j ≤ 1000000∧i.natAbs < 2 ^ 64
noncomputable def CMul (i j:Int):Prop:=(-(2 ^ 64) < i∧i < 2 ^ 64) ∨ (-(2 ^ 64) < j∧j < 2 ^ 64)
theorem CMul.ok {i j:Int} (h:CMul i j):IntMulOk i j:=by
 rcases h with ⟨h1,h2⟩ | ⟨h1,h2⟩
 ·exact .of_left (intBits_le_64 h1 h2)
 ·exact .of_right (intBits_le_64 h1 h2)
theorem op_add:OpR X (binaryOp .Add) (rI0 fun i j=>.int (i + j)):=opI0 fun _ _ _ _ _ _ _ q=>add_int q
theorem op_sub:OpR X (binaryOp .Sub) (rI0 fun i j=>.int (i - j)):=opI0 fun _ _ _ _ _ _ _ q=>sub_int q
theorem op_mul:OpR X (binaryOp .Mult) (rI CMul fun i j=>.int (i * j)):=opI fun _ _ _ _ _ _ _ hc q=>mul_int q hc.ok
theorem op_mod:OpR X (binaryOp .Mod) (rI (fun _ j=>0 < j) fun i j=>.int (i % j)):=opI fun i j _ _ _ _ _ hc q=>by
 have h1:(0:Int) < j:=hc
 exact mod_int' (by omega) (by rw [Int.fmod_eq_emod_of_nonneg i (by omega)]; exact q)
theorem op_pow:OpR X (binaryOp .Pow) (rI CPow fun i j=>.int (i ^ j.toNat)):=opI fun _ _ _ _ _ _ _ hc q=>pow_int_small hc.1 hc.2.1 hc.2.2 q
theorem unI {f:Value->Sem Value} {g:Int->Int}
  (rule:∀ (i:Int) (t:Tok) (s:Shared) (Q:Value->Shared->Prop) (E:Value->Shared->Prop),Q (.int (g i) s.toks) { s with toks:=s.toks + 1 }->wpAny (model X.prog X.w) X.A (f (.int i t)) Q E s) :
  UnR X f (rU fun i=>.int (g i)):=by
 intro pins s σ H x v Q I rx h
 obtain ⟨i,rfl,q⟩:=h
 obtain ⟨t,rfl⟩:=rx
 exact rule i t s _ _ ⟨.int (g i),H,I.tok _,⟨_,rfl⟩,q⟩
theorem un_neg:UnR X (unaryOp .USub) (rU fun i=>.int (-i)):=unI fun _ _ _ _ _ q=>neg_int q
end
noncomputable def scal:V->V->Bool
 | .non,.non=>true | .non,.int _=>true | .int _,.non=>true | .non,.bl _=>true | .bl _,.non=>true | .non,.str _=>true | .str _,.non=>true
 | .int _,.int _=>true | .bl _,.bl _=>true | .str _,.str _=>true | .byt _,.byt _=>true
 | .int _,.str _=>true | .str _,.int _=>true | .bl _,.str _=>true | .str _,.bl _=>true
 | _,_=>false
noncomputable def rEq:R2:=fun x y H Q=>scal x y = true∧Q (.bl (decide (x = y))) H
noncomputable def rNe:R2:=fun x y H Q=>scal x y = true∧Q (.bl (!decide (x = y))) H
theorem zfV {i j:Int}:decide (V.int i = V.int j) = (i == j):=by
 rw [Bool.eq_iff_iff]
 simp
theorem zhx {i j:Bool}:decide (V.bl i = V.bl j) = (i == j):=by
 rw [Bool.eq_iff_iff]
 simp
theorem zfG {i j:Str}:decide (V.str i = V.str j) = (i == j):=by
 rw [Bool.eq_iff_iff]
 simp
theorem zgs {i j:Array UInt8}:decide (V.byt i = V.byt j) = (i.toList == j.toList):=by
 rw [Bool.eq_iff_iff]
 cases i
 cases j
 simp
section
variable {X:Cx} {a b c:Expr} {ta tb tc:TE} {pos:Pos}
theorem zaG {pins:List (Addr × Obj)} {σ:St} {H:Hp} {s:Shared} {Q:VK} {k k':Bool} (I:Inv X pins σ H s) (q:Q (.bl k) H) (e:k = k'):EP X pins σ Q (.bool k') s:=by
 subst e
 exact ⟨.bl k,H,I,rfl,q⟩
theorem op_eq:OpR X (compareOp .Eq) rEq:=by
 intro pins s σ H x y v u Q I rx ry h
 obtain ⟨hs,q⟩:=h
 cases x with
 | non =>
  cases rx
  cases y with
  | non=>cases ry; exact PySem.EqNone.eq_none_none (zaG I q (by simp))
  | bl j=>cases ry; exact PySem.EqNone.eq_none_bool (zaG I q (by simp))
  | int j=>obtain ⟨t',rfl⟩:=ry; exact PySem.EqNone.eq_none_int (zaG I q (by simp))
  | str j=>obtain ⟨t',rfl⟩:=ry; exact PySem.EqNone.eq_none_str (zaG I q (by simp))
  | _=>exact absurd (show false = true from hs) Bool.false_ne_true
 | bl i =>
  cases rx
  cases y with
  | non=>cases ry; exact PySem.EqNone.eq_bool_none (zaG I q (by simp))
  | bl j=>cases ry; exact eq_bool (zaG I q zhx)
  | str j=>obtain ⟨t',rfl⟩:=ry; exact PySem.EqMixed.eq_bool_str (zaG I q (by simp))
  | _=>exact absurd (show false = true from hs) Bool.false_ne_true
 | int i =>
  obtain ⟨t,rfl⟩:=rx
  cases y with
  | non=>cases ry; exact PySem.EqNone.eq_int_none (zaG I q (by simp))
  | int j=>obtain ⟨t',rfl⟩:=ry; exact eq_int (zaG I q zfV)
  | str j=>obtain ⟨t',rfl⟩:=ry; exact PySem.EqMixed.eq_int_str (zaG I q (by simp))
  | _=>exact absurd (show false = true from hs) Bool.false_ne_true
 | str i =>
  obtain ⟨t,rfl⟩:=rx
  cases y with
  | non=>cases ry; exact PySem.EqNone.eq_str_none (zaG I q (by simp))
  | bl j=>cases ry; exact PySem.EqMixed.eq_str_bool (zaG I q (by simp))
  | int j=>obtain ⟨t',rfl⟩:=ry; exact PySem.EqMixed.eq_str_int (zaG I q (by simp))
  | str j=>obtain ⟨t',rfl⟩:=ry; exact eq_str (zaG I q zfG)
  | _=>exact absurd (show false = true from hs) Bool.false_ne_true
 | byt i =>
  obtain ⟨t,rfl⟩:=rx
  cases y with
  | byt j=>obtain ⟨t',rfl⟩:=ry; exact PySem.W.eq_bytes (zaG I q zgs)
  | _=>exact absurd (show false = true from hs) Bool.false_ne_true
 | _=>cases y <;> exact absurd (show false = true from hs) Bool.false_ne_true
theorem op_ne:OpR X (compareOp .NotEq) rNe:=by
 intro pins s σ H x y v u Q I rx ry h
 obtain ⟨hs,q⟩:=h
 cases x with
 | non =>
  cases rx
  cases y with
  | non=>cases ry; exact PySem.EqNone.ne_none_none (zaG I q (by simp))
  | bl j=>cases ry; exact PySem.EqNone.ne_none_bool (zaG I q (by simp))
  | int j=>obtain ⟨t',rfl⟩:=ry; exact PySem.EqNone.ne_none_int (zaG I q (by simp))
  | str j=>obtain ⟨t',rfl⟩:=ry; exact PySem.EqNone.ne_none_str (zaG I q (by simp))
  | _=>exact absurd (show false = true from hs) Bool.false_ne_true
 | bl i =>
  cases rx
  cases y with
  | non=>cases ry; exact PySem.EqNone.ne_bool_none (zaG I q (by simp))
  | bl j=>cases ry; exact ne_bool (zaG I q (congrArg not zhx))
  | str j=>obtain ⟨t',rfl⟩:=ry; exact PySem.EqMixed.ne_bool_str (zaG I q (by simp))
  | _=>exact absurd (show false = true from hs) Bool.false_ne_true
 | int i =>
  obtain ⟨t,rfl⟩:=rx
  cases y with
  | non=>cases ry; exact PySem.EqNone.ne_int_none (zaG I q (by simp))
  | int j=>obtain ⟨t',rfl⟩:=ry; exact ne_int (zaG I q (congrArg not zfV))
  | str j=>obtain ⟨t',rfl⟩:=ry; exact PySem.EqMixed.ne_int_str (zaG I q (by simp))
  | _=>exact absurd (show false = true from hs) Bool.false_ne_true
 | str i =>
  obtain ⟨t,rfl⟩:=rx
  cases y with
  | non=>cases ry; exact PySem.EqNone.ne_str_none (zaG I q (by simp))
  | bl j=>cases ry; exact PySem.EqMixed.ne_str_bool (zaG I q (by simp))
  | int j=>obtain ⟨t',rfl⟩:=ry; exact PySem.EqMixed.ne_str_int (zaG I q (by simp))
  | str j=>obtain ⟨t',rfl⟩:=ry; exact ne_str (zaG I q (congrArg not zfG))
  | _=>exact absurd (show false = true from hs) Bool.false_ne_true
 | byt i =>
  obtain ⟨t,rfl⟩:=rx
  cases y with
  | byt j=>obtain ⟨t',rfl⟩:=ry; exact PySem.W.ne_bytes (zaG I q (congrArg not zgs))
  | _=>exact absurd (show false = true from hs) Bool.false_ne_true
 | _=>cases y <;> exact absurd (show false = true from hs) Bool.false_ne_true
theorem op_lt:OpR X (compareOp .Lt) (rI0 fun i j=>.bl (decide (i < j))):=opB0 fun _ _ _ _ _ _ _ q=>lt_int q
theorem op_le:OpR X (compareOp .LtE) (rI0 fun i j=>.bl (decide (i ≤ j))):=opB0 fun _ _ _ _ _ _ _ q=>le_int q
theorem op_gt:OpR X (compareOp .Gt) (rI0 fun i j=>.bl (decide (j < i))):=opB0 fun _ _ _ _ _ _ _ q=>gt_int q
theorem op_ge:OpR X (compareOp .GtE) (rI0 fun i j=>.bl (decide (j ≤ i))):=opB0 fun _ _ _ _ _ _ _ q=>ge_int q
theorem op_in_str:OpR X (compareOp .In) (fun x y H Q=>∃ i j,x = .str i∧y = .str j∧Q (.bl (!(Builtin.Str.occurrences j i 0 j.length 1).isEmpty)) H):=by
 intro pins s σ H x y v u Q I rx ry h
 obtain ⟨i,j,rfl,rfl,q⟩:=h
 obtain ⟨t,rfl⟩:=rx
 obtain ⟨t',rfl⟩:=ry
 exact in_str (zaG I q rfl)
theorem zan (b:Expr) {op:CmpOp} (h:op ≠ .In:=by decide) (h2:op ≠ .NotIn:=by decide):behindInMarks op b = false:=by
 have e1:(op == CmpOp.In) = false:=by cases op <;> first | rfl | exact absurd rfl h
 have e2:(op == CmpOp.NotIn) = false:=by cases op <;> first | rfl | exact absurd rfl h2
 cases b <;> simp [behindInMarks,e1,e2]
theorem za6 {op:CmpOp} {r:R2} (ho:OpR X (compareOp op) r) (ha:PE X a ta) (hb:PE X b tb) (hm:behindInMarks op b = false):PE X (.Compare a [op] [b] pos) (tOp r ta tb):=by
 intro pins s σ H Q I h
 exact wpAny_Compare1 (binT ha hb I h fun v u s2 x y H2 I2 rx ry q=>ho pins s2 σ H2 x y v u Q I2 rx ry q) hm
noncomputable def zf0 (t:TE):TT:=fun σ H Q=>t σ H fun x H'=>∃ k,x = .bl k∧Q k H'
theorem zai {op:CmpOp} {r:R2} (ho:OpR X (compareOp op) r) (ha:PE X a ta) (hb:PE X b tb) (hm:behindInMarks op b = false):PT X (.Compare a [op] [b] pos) (zf0 (tOp r ta tb)):=by
 intro pins s σ H Q I h
 refine wpAny_isTrue_Compare1 (thn (ha pins s σ H _ I h) fun v s1 ⟨x,H1,I1,r1,q1⟩=>thn (hb pins s1 σ H1 _ I1 q1) fun u s2 ⟨y,H2,I2,r2,q2⟩ =>
  thn (ho pins s2 σ H2 x y v u _ I2 r1 r2 q2) fun c s3 ⟨z,H3,I3,r3,k,e,q3⟩=>?_) hm
 subst e
 cases r3
 exact wpAny_truthy_bool ⟨H3,I3,q3⟩
noncomputable def zhu (r r':R2) (ta tb tc:TE):TE:=fun σ H Q=>ta σ H fun x H1=>tb σ H1 fun y H2=>r x y H2 fun z H3=>∃ k,z = .bl k ∧
 (if k = true then tc σ H3 fun w' H4=>r' y w' H4 Q else Q (.bl false) H3)
theorem zhf {op op':CmpOp} {r r':R2} (ho:OpR X (compareOp op) r) (ho':OpR X (compareOp op') r') (ha:PE X a ta) (hb:PE X b tb) (hc:PE X c tc)
  (hm:lastMarks [op,op'] [b,c] = false:=by with_unfolding_all rfl):PT X (.Compare a [op,op'] [b,c] pos) (zf0 (zhu r r' ta tb tc)):=by
 intro pins s σ H Q I h
 refine isTrue_chain (thn (ha pins s σ H _ I h) fun v s1 ⟨x,H1,I1,r1,q1⟩=>test_link (thn (hb pins s1 σ H1 _ I1 q1) fun u s2 ⟨y,H2,I2,r2,q2⟩ =>
  thn (ho pins s2 σ H2 x y v u _ I2 r1 r2 q2) fun d s3 ⟨z,H3,I3,r3,k,e,q3⟩=>?_)) hm
 subst e
 cases r3
 refine wpAny_truthy_bool ?_
 cases k with
 | false =>
  obtain ⟨k',e',q'⟩:=q3
  cases e'
  exact ite_ff ⟨H3,I3,q'⟩
 | true =>
  refine ite_tt (test_last (thn (hc pins s3 σ H3 _ I3 q3) fun w' s4 ⟨z',H4,I4,r4,q4⟩=>thn (ho' pins s4 σ H4 y z' u w' _ I4 r2 r4 q4) fun d' s5 zq_=>?_))
  obtain ⟨z2,H5,I5,r5,k2,e2,q5⟩:=zq_
  subst e2
  cases r5
  exact wpAny_truthy_bool ⟨H5,I5,q5⟩
noncomputable def TruV (K:PySem.W.Frag) (x:V) (H:Hp) (k:Bool):Prop :=
 match x with
 | .non=>k = false
 | .bl b=>k = b
 | .int i=>k = (i != 0)
 | .str y=>y.length ≤ sizeLine∧k = ((y.length:Int) != 0)
 | .byt y=>y.size ≤ sizeLine∧k = ((y.size:Int) != 0)
 | .ref p=>(∃ xs,SqL K H p xs∧k = !xs.isEmpty) ∨ (∃ xs,SqT K H p xs∧k = !xs.isEmpty) ∨ ∃ kvs,H p = some (.dK kvs)∧k = !kvs.isEmpty
 | _=>False
theorem ze9 {κ:Type} {kvs:List (κ × V)} {vs:List (κ × Value)} (r:KV kvs vs):(!vs.isEmpty) = !kvs.isEmpty:=by
 cases r <;> rfl
theorem zdf {xs:List V} {its:List Value} (r:Vals xs its):(!its.toArray.isEmpty) = !xs.isEmpty:=by
 cases r <;> simp
theorem line63:(sizeLine:Nat) < 2 ^ 63:=by rw [sizeLine_eq]; decide
theorem tru_ok:TruR X (fun x H Q=>∃ k,TruV X.K x H k∧Q k H):=by
 intro pins s σ H x v Q I rx h
 obtain ⟨k,e,q⟩:=h
 have hl:=line63
 have hs:sizeLine = 16777216:=sizeLine_eq
 cases x with
 | non =>
  cases rx
  have e':k = false:=e
  subst e'
  exact truthy_none ⟨H,I,q⟩
 | bl b =>
  cases rx
  have e':k = b:=e
  subst e'
  exact wpAny_truthy_bool ⟨H,I,q⟩
 | int i =>
  obtain ⟨t,rfl⟩:=rx
  have e':k = (i != 0):=e
  subst e'
  exact PySem.P.truthy_int ⟨H,I,q⟩
 | str y =>
  obtain ⟨t,rfl⟩:=rx
  obtain ⟨hy,e'⟩:y.length ≤ sizeLine∧k = ((y.length:Int) != 0):=e
  subst e'
  exact PySem.P.truthy_str (by omega) ⟨H,I.tok _,q⟩
 | byt y =>
  obtain ⟨t,rfl⟩:=rx
  obtain ⟨hy,e'⟩:y.size ≤ sizeLine∧k = ((y.size:Int) != 0):=e
  subst e'
  exact PySem.W.truthy_bytes (by omega) ⟨H,I.tok _,q⟩
 | ref p =>
  cases rx
  have e':(∃ xs,SqL X.K H p xs∧k = !xs.isEmpty) ∨ (∃ xs,SqT X.K H p xs∧k = !xs.isEmpty) ∨ ∃ kvs,H p = some (.dK kvs)∧k = !kvs.isEmpty:=e
  rcases e' with ⟨xs,hx,e'⟩ | ⟨xs,hx,e'⟩ | ⟨kvs,hx,e'⟩
  ·subst e'
   obtain ⟨its,r,pl,hz⟩:=I.list hx
   have hlen:=r.length
   exact wpAny_truthy_list pl.isList (by simp only [List.size_toArray]; omega) ⟨H,I.tok _,by rw [zdf r]; exact q⟩
  ·subst e'
   obtain ⟨its,r,pl,hz⟩:=I.tuple hx
   have hlen:=r.length
   exact truthy_tuple pl (by simp only [List.size_toArray]; omega) ⟨H,I.tok _,by rw [zdf r]; exact q⟩
  ·subst e'
   obtain ⟨hz,hS,vs,r,m⟩:kvs.length ≤ sizeLine∧(p == sysModules) = false∧∃ vs,KV kvs vs∧s.heap.DictOf (zaJ X.prog X.w) p vs:=I.hok p _ hx
   have hlen:kvs.length = vs.length:=Paired.length r
   exact wpAny_truthy_dict hS m (by omega) ⟨H,I.tok _,by rw [ze9 r]; exact q⟩
 | _=>exact (show False from e).elim
theorem zgz (ha:PE X a ta) (he:∀ whole,isTrue a X.env whole = (do let v ← whole; standAt a.pos; holding [v] (truthy v))) :
  PT X a (fun σ H Q=>ta σ H fun x H'=>∃ k,TruV X.K x H' k∧Q k H'):=by
 intro pins s σ H Q I h
 exact isTrue_plain (thn (ha pins s σ H _ I h) fun v s1 ⟨x,H1,I1,r1,q1⟩=>tru_ok pins s1 σ H1 x v Q I1 r1 q1) (he _)
theorem op_add_str:OpR X (binaryOp .Add) (fun x y H Q=>∃ i j,x = .str i∧y = .str j∧i.length + j.length ≤ sizeLine∧Q (.str (i ++ j)) H):=by
 intro pins s σ H x y v u Q I rx ry h
 obtain ⟨i,j,rfl,rfl,hz,q⟩:=h
 obtain ⟨t,rfl⟩:=rx
 obtain ⟨t',rfl⟩:=ry
 exact add_str (fun t' tk=>⟨.str (i ++ j),H,I.tok _,⟨_,rfl⟩,q⟩) hz
theorem zdE {x:V} {us:List Value} (r:Vals [x] us):∃ u,us = [u]∧RelV x u:=by
 cases r with
 | cons r1 r2=>cases r2; exact ⟨_,rfl,r1⟩
theorem call_abs:zb9 X (.builtin "abs") (fun xs H Q=>∃ i,xs = [.int i]∧Q (.int (if i < 0 then -i else i)) H):=by
 intro pins s σ H xs us Q I r h
 obtain ⟨i,rfl,q⟩:=h
 obtain ⟨u,rfl,t,rfl⟩:=zdE r
 exact call_abs_int fun u tk=>⟨.int (if i < 0 then -i else i),H,I.tok _,⟨_,rfl⟩,q⟩
theorem call_int1:zb9 X (.type "int") (fun xs H Q=>(∃ i,xs = [.int i]∧Q (.int i) H) ∨ ∃ k,xs = [.bl k]∧Q (.int (if k then 1 else 0)) H):=by
 intro pins s σ H xs us Q I r h
 rcases h with ⟨i,rfl,q⟩ | ⟨k,rfl,q⟩
 ·obtain ⟨u,rfl,t,rfl⟩:=zdE r
  exact call_int_int ⟨.int i,H,I,⟨_,rfl⟩,q⟩
 ·obtain ⟨u,rfl,r1⟩:=zdE r
  cases r1
  exact call_int_bool ⟨.int (if k then 1 else 0),H,I.tok _,⟨_,rfl⟩,q⟩
noncomputable def LenV (K:PySem.W.Frag) (x:V) (H:Hp) (n:Nat):Prop :=
 match x with
 | .str y=>y.length ≤ sizeLine∧n = y.length
 | .byt y=>y.size ≤ sizeLine∧n = y.size
 | .ref p=>(∃ xs,SqL K H p xs∧n = xs.length) ∨ ∃ xs,SqT K H p xs∧n = xs.length
 | _=>False
theorem call_len:zb9 X (.builtin "len") (fun xs H Q=>∃ x n,xs = [x]∧LenV X.K x H n∧Q (.int n) H):=by
 intro pins s σ H xs us Q I r h
 obtain ⟨x,n,rfl,e,q⟩:=h
 obtain ⟨u,rfl,rx⟩:=zdE r
 have hl:=line63
 have hs:sizeLine = 16777216:=sizeLine_eq
 cases x with
 | str y =>
  obtain ⟨t,rfl⟩:=rx
  obtain ⟨hy,e'⟩:y.length ≤ sizeLine∧n = y.length:=e
  subst e'
  exact len_str (by omega) ⟨.int _,H,I.tok _,⟨_,rfl⟩,q⟩
 | byt y =>
  obtain ⟨t,rfl⟩:=rx
  obtain ⟨hy,e'⟩:y.size ≤ sizeLine∧n = y.size:=e
  subst e'
  exact PySem.W.len_bytes (by omega) ⟨.int _,H,I.tok _,⟨_,rfl⟩,q⟩
 | ref p =>
  cases rx
  have e':(∃ xs,SqL X.K H p xs∧n = xs.length) ∨ ∃ xs,SqT X.K H p xs∧n = xs.length:=e
  rcases e' with ⟨xs,hx,e'⟩ | ⟨xs,hx,e'⟩
  ·subst e'
   obtain ⟨its,r',pl,hz⟩:=I.list hx
   have hlen:=r'.length
   exact Calls.call_len_list pl.isList (by simp only [List.size_toArray]; omega) ⟨.int xs.length,H,I.tok _,⟨_,by simp only [List.size_toArray]; rw [hlen]⟩,q⟩
  ·subst e'
   obtain ⟨its,r',pl,hz⟩:=I.tuple hx
   have hlen:=r'.length
   exact len_tuple pl (by simp only [List.size_toArray]; omega) ⟨.int xs.length,H,I.tok _,⟨_,by simp only [List.size_toArray]; rw [hlen]⟩,q⟩
 | _=>exact (show False from e).elim
end
end L2
namespace L2
open PySem PySem.Spec PyProof.Rows
structure ObjM (h:Heap) (x dx C:Addr) (mA:Str->Option Value):Prop where
 obj:h.get? x = some (PySem.W.instObj C dx)
 ns:h.Ns1 dx mA
 ne:dx ≠ x
theorem zgr {h:Heap} {dx:Addr} {mA:Str->Option Value} (n:h.Ns1 dx mA):∃ od,h.get? dx = some od∧∀ name,PySem.W.lookIn name od = some (mA name):=by
 obtain ⟨o,es,ep,ho,hd,hk,_,hm⟩:=n
 refine ⟨o,ho,fun name=>?_⟩
 have e:=hm name
 unfold nsFind findBy at e
 rw [← Array.find?_toList] at e
 unfold PySem.W.lookIn
 rw [hd]
 dsimp only
 split
 ·rename_i y q
  rw [q] at e
  exact congrArg some e
 ·rename_i q
  rw [q] at e
  have a:es.toList.any (·.refKey) = false:=by
   rw [List.any_eq_false]
   intro y hy
   obtain ⟨z,t,hkey⟩:=hk y (Array.mem_toList_iff.mp hy)
   simp [DictEntry.refKey,hkey]
  have a':¬ es.toList.any (·.refKey) = true:=by rw [a]; exact Bool.false_ne_true
  rw [if_neg a']
  exact congrArg some e
theorem ObjM.look {h:Heap} {x dx C:Addr} {mA:Str->Option Value} (I:ObjM h x dx C mA):∃ od,PySem.W.InstAt h x (PySem.W.instObj C dx) C (some od)∧∀ name,PySem.W.lookIn name od = some (mA name) :=
 let ⟨od,ho,hl⟩:=zgr I.ns
 ⟨od,⟨I.obj,rfl,rfl,ho⟩,hl⟩
section
variable {prog:Program} {w:World} {A:Around} {E:Value->Shared->Prop} {s:Shared} {K:PySem.W.Frag} {x dx C f:Addr} {mA:Str->Option Value} {name:Str} {v:Value}
end
noncomputable def putF (f:Str) (v:V):List (Str × V)->List (Str × V)
 | []=>[(f,v)]
 | (g,x) :: r=>if g = f then (g,v) :: r else (g,x) :: putF f v r
theorem RelO.some_of {v:V} {o:Option Value} (r:RelO (some v) o):∃ u,o = some u∧RelV v u:=by
 cases o with
 | none=>exact (show False from r).elim
 | some u=>exact ⟨u,rfl,r⟩
section
variable {P:Program} {w:World} {H H':Hp} {h h':Heap} {a C dx:Addr} {fs fs':List (Str × V)}
theorem ziq (hok:HOk P w H h) (e:H a = some (.ins C dx fs)):∃ mA,ObjM h a dx C mA∧(∀ f,RelO (fs.lookup f) (mA f))∧PySem.Within mA (fs.map (·.1))∧fs.length ≤ 1000∧H dx = some (.own a):=by
 obtain ⟨d,z,ne,ob,mA,n,r,q⟩:=(show za5 P w H h a (.ins C dx fs) from hok a _ e)
 exact ⟨mA,⟨ob,n,ne⟩,r,q,z,d⟩
end
structure Cls (K:PySem.W.Frag) (C:Addr):Prop where
 pg:PySem.W.plainGet K C Str.empty = true
 hd:PySem.W.hasDictIn K C = true
 po:PySem.W.plainOver K C = true
 sa:PySem.W.findIn K (.ref C) "__setattr__" = some (some (.builtin "object.__setattr__"))
theorem Cls.get {K:PySem.W.Frag} {C:Addr} (c:Cls K C) (f:Str):PySem.W.plainGet K C f = true:=c.pg
noncomputable def zhK (K:PySem.W.Frag) (C:Addr) (f:Str):Prop:=PySem.W.findIn K (.ref C) f = some none
section
variable {X:Cx} {pins:List (Addr × Obj)} {σ:St} {H:Hp} {s:Shared} {a C dx:Addr} {fs:List (Str × V)} {f:Str} {v:V} {A:Around} {E:Value->Shared->Prop}
end
noncomputable def tFld (K:PySem.W.Frag) (ta:TE) (f:Str):TE:=fun σ H Q=>ta σ H fun x H1=>∃ a C dx fs v,x = .ref a∧H1 a = some (.ins C dx fs)∧Cls K C∧zhK K C f∧fs.lookup f = some v∧Q v H1
noncomputable def sFld (K:PySem.W.Frag) (ta tv:TE) (f:Str):TS:=fun D σ H=>tv σ H fun y H1=>ta σ H1 fun x H2=>∃ a C dx fs,x = .ref a∧H2 a = some (.ins C dx fs)∧Cls K C∧zhK K C f∧fs.length < 1000 ∧
 D.nx σ (upd H2 a (.ins C dx (putF f y fs)))
section
variable {X:Cx} {o e value:Expr} {f:Str} {pos pos' tpos:Pos} {ta tv:TE}
end
section
variable {X:Cx} {pins:List (Addr × Obj)} {σ:St} {H:Hp} {s:Shared} {A:Around} {E:Value->Shared->Prop} {Q:Value->Shared->Prop} {c:Value} {b:Bool}
inductive TyOf (K:PySem.W.Frag) (H:Hp):V->Value->Prop where
 | non:TyOf K H .non (.type "NoneType")
 | bl (x:Bool):TyOf K H (.bl x) (.type "bool")
 | int (i:Int):TyOf K H (.int i) (.type "int")
 | str (x:Str):TyOf K H (.str x) (.type "str")
 | flt (x:UInt64):TyOf K H (.flt x) (.type "float")
 | lst {a:Addr} {xs:List V} (e:H a = some (.lst xs)):TyOf K H (.ref a) (.type "list")
 | frz {a:Addr} {o:Obj} {xs:List V} (e:H a = some (.frz o (.lst xs))):TyOf K H (.ref a) (.type "list")
 | tup {a:Addr} {xs:List V} (e:H a = some (.tup xs)):TyOf K H (.ref a) (.type "tuple")
 | dK {a:Addr} {kvs:List (Key × V)} (e:H a = some (.dK kvs)):TyOf K H (.ref a) (.type "dict")
 | dT {a:Addr} {kvs:List (List Key × V)} (e:H a = some (.dT kvs)):TyOf K H (.ref a) (.type "dict")
 | ins {a C dx:Addr} {fs:List (Str × V)} (e:H a = some (.ins C dx fs)) (cl:Cls K C) (ha:PySem.W.findIn K (.ref C) "__class__" = some (some (.builtin "object.__class__")))
   (hn:PySem.W.specialIn K (.builtin "object.__class__") "__get__" = some (some (.builtin "getset_descriptor.__get__"))) (htk:PySem.W.takesIn K (.builtin "object.__class__") = some true)
   (hm:PySem.W.mroIn K C (.type "object") = some true):TyOf K H (.ref a) (.ref C)
theorem zfA {x:V} {u t:Value} (I:Inv X pins σ H s) (rx:RelV x u) (ty:TyOf X.K H x t) (e:PySem.W.kitOne X.K t c = some b) (h:∀ tk,Q (.bool b) { s with toks:=tk }) :
  wpAny (model X.prog X.w) A (call (.builtin "isinstance") [u,c]) Q E s:=by
 cases ty with
 | non=>cases (show u = Value.none from rx); exact PySem.W.kia_one PySem.W.kitx_none I.kIn True.intro e (fun z=>nomatch z) h
 | bl y=>cases (show u = Value.bool y from rx); exact PySem.W.kia_one PySem.W.kitx_bool I.kIn True.intro e (fun z=>nomatch z) h
 | int i=>obtain ⟨t,q⟩:=(show ∃ t,u = Value.int i t from rx); cases q; exact PySem.W.kia_one PySem.W.kitx_int I.kIn True.intro e (fun z=>nomatch z) h
 | str y=>obtain ⟨t,q⟩:=(show ∃ t,u = Value.str y t from rx); cases q; exact PySem.W.kia_one PySem.W.kitx_str I.kIn True.intro e (fun z=>nomatch z) h
 | flt y=>obtain ⟨t,q⟩:=(show ∃ t,u = Value.float y t from rx); cases q; exact PySem.W.kia_one PySem.W.kitx_float I.kIn True.intro e (fun z=>nomatch z) h
 | @lst a xs ea =>
  cases (show u = Value.ref a from rx)
  obtain ⟨_,_,n,_,h1⟩:=(show za5 X.prog X.w H s.heap a (.lst xs) from I.hok a _ ea)
  exact PySem.W.kia_one PySem.W.kitx_list I.kIn ⟨_,h1,rfl⟩ e (fun z=>nomatch z) h
 | @frz a ob xs ea =>
  cases (show u = Value.ref a from rx)
  obtain ⟨_,_,_,n,_,h1⟩:=(show za5 X.prog X.w H s.heap a (.frz ob (.lst xs)) from I.hok a _ ea)
  exact PySem.W.kia_one PySem.W.kitx_list I.kIn ⟨_,h1,rfl⟩ e (fun z=>nomatch z) h
 | @tup a xs ea =>
  cases (show u = Value.ref a from rx)
  obtain ⟨_,_,_,p⟩:=(show za5 X.prog X.w H s.heap a (.tup xs) from I.hok a _ ea)
  obtain ⟨o,h1,h2,_⟩:=p
  exact PySem.W.kia_one PySem.W.kitx_tuple I.kIn ⟨o,h1,h2⟩ e (fun z=>nomatch z) h
 | @dK a kvs ea =>
  cases (show u = Value.ref a from rx)
  obtain ⟨_,_,vs,_,p⟩:=(show za5 X.prog X.w H s.heap a (.dK kvs) from I.hok a _ ea)
  obtain ⟨o,es,ep,h1,h2,_⟩:=p
  exact PySem.W.kia_one PySem.W.kitx_dict I.kIn ⟨o,h1,h2.1⟩ e (fun z=>nomatch z) h
 | @dT a kvs ea =>
  cases (show u = Value.ref a from rx)
  obtain ⟨_,_,xs,_,o,es,ep,h1,h2,_⟩:=(show za5 X.prog X.w H s.heap a (.dT kvs) from I.hok a _ ea)
  exact PySem.W.kia_one PySem.W.kitx_dict I.kIn ⟨o,h1,h2.1⟩ e (fun z=>nomatch z) h
 | @ins a C dx fs ea cl ha hn htk hm =>
  cases (show u = Value.ref a from rx)
  obtain ⟨mA,O,_⟩:=ziq I.hok ea
  obtain ⟨od,J,_⟩:=O.look
  exact PySem.W.kia_one (PySem.W.kitx_own (cl.get _) cl.hd ha hn htk hm) I.kIn J e (fun z=>nomatch z) h
end
end L2
namespace L2
open PySem PySem.Spec PyProof.Rows
structure Room (k:Nat) (A:Around):Prop where
 hd:A.handled = none
 dp:A.depth + 3 * k + 5 < recursionLimit
 un:A.units + 16 * k + 200 < cLine
theorem Room.mono {j k:Nat} {A:Around} (r:Room k A) (h:j ≤ k):Room j A:=⟨r.hd,by have:=r.dp; omega,by have:=r.un; omega⟩
theorem Room.deeper {k:Nat} {A:Around} (r:Room (k + 1) A) (env:Env):Room k (A.deeper env) :=
 ⟨r.hd,by have:=r.dp; show A.depth + 1 + 3 * k + 5 < _; omega,by have:=r.un; show A.units + 3 + 16 * k + 200 < _; omega⟩
theorem Room.depth {k:Nat} {A:Around} (r:Room k A):A.depth < recursionLimit:=by have:=r.dp; omega
theorem Room.units {k:Nat} {A:Around} (r:Room k A):A.units + 64 < cLine:=by have:=r.un; omega
noncomputable def tNil:TA:=fun _ H Q=>Q [] H
noncomputable def zch (ta:TE) (tr:TA):TA:=fun σ H Q=>ta σ H fun x H1=>tr σ H1 fun xs H2=>Q (x :: xs) H2
section
variable {X:Cx} {e:Expr} {es:List Expr} {te:TE} {t:TA} {pos:Pos}
theorem pa_nil:PA X [] tNil:=fun _ _ _ _ H Q I h=>Calls.spliced_nil ⟨[],H,I,.nil,h⟩
theorem zaa (ha:PE X e te) (hr:PA X es t) (hs:starEach (e :: es) X.env = (false,eval e X.env) :: starEach es X.env:=by rfl):PA X (e :: es) (zch te t):=by
 intro pos pins s σ H Q I h
 rw [hs]
 show wpAny _ _ (spliced ((false,eval e X.env) :: backTo pos (starEach es X.env))) _ _ s
 refine Calls.spliced_cons (thn (ha pins s σ H _ I h) fun u s1 zq_=>?_)
 obtain ⟨x,H1,I1,r1,q1⟩:=zq_
 exact thn (hr pos pins s1 σ H1 _ I1 q1) fun us s2 ⟨xs,H2,I2,r2,q2⟩=>⟨x :: xs,H2,I2,.cons r1 r2,q2⟩
noncomputable def tTup (t:TA):TE:=fun σ H Q=>t σ H fun xs H1=>xs.length ≤ sizeLine∧∀ p,H1 p = none->Q (.ref p) (upd H1 p (.tup xs))
noncomputable def tLst (t:TA):TE:=fun σ H Q=>t σ H fun xs H1=>xs.length ≤ sizeLine∧∀ p,H1 p = none->Q (.ref p) (upd H1 p (.lst xs))
theorem zbo {x1} (h:PA X es t):PE X (.Tuple es x1 pos) (tTup t):=by
 intro pins s σ H Q I hq
 refine wpAny_Tuple_spliced (thn (h pos pins s σ H _ I hq) fun us s1 ⟨xs,H1,I1,r,z,q⟩=>⟨by rw [← r.length]; exact z,?_⟩)
 have hf:H1 s1.heap.objs.size = none:=I1.hok.fresh (Nat.le_refl _)
 refine ⟨.ref s1.heap.objs.size,upd H1 s1.heap.objs.size (.tup xs),I1.laid (t':=s1.toks) (fun b u e=>Heap.get?_push_of_some _ e) (Nat.le_refl _) ?_,rfl,q _ hf⟩
 exact ⟨z,us,r,⟨_,Heap.get?_push_size _ rfl,rfl,_,rfl⟩⟩
theorem zaC (h:PA X es t):PE X (.List es pos) (tLst t):=by
 intro pins s σ H Q I hq
 refine wpAny_List_spliced (thn (h pos pins s σ H _ I hq) fun us s1 ⟨xs,H1,I1,r,z,q⟩=>⟨by rw [← r.length]; exact z,?_⟩)
 have hf:H1 s1.heap.objs.size = none:=I1.hok.fresh (Nat.le_refl _)
 refine ⟨.ref s1.heap.objs.size,upd H1 s1.heap.objs.size (.lst xs),I1.laid (t':=s1.toks) (fun b u e=>Heap.get?_push_of_some _ e) (Nat.le_refl _) ?_,rfl,q _ hf⟩
 exact ⟨z,us,0,r,Heap.get?_push_size _ rfl⟩
end
abbrev Sp:=List V->Hp->VK->XK->Prop
abbrev CXT:=List Env->Hp->Shared->XK->Value->Shared->Prop
structure Env0 (P:Program) (w:World) (K:PySem.W.Frag) (mg:Str->Option Value) (base:Heap) (A:Around) (outer:List Env) (s:Shared) (H:Hp):Prop where
 frames:A.frames = some outer
 mod:Mod K mg base
 bs:∀ b o,base.get? b = some o->s.heap.get? b = some o∧H b = none
 bsz:base.objs.size ≤ s.heap.objs.size
 funs:s.heap.FunFrames base outer
 frf:∀ b ∈ frs outer,H b = none
 hok:HOk P w H s.heap
 bare:AllBare s.gens
noncomputable def CE (outer:List Env) (P:Program) (w:World) (H:Hp) (s:Shared) (Q:VK) (u:Value) (s':Shared):Prop :=
 ∃ v H',s'.os = s.os∧AllBare s'.gens∧Un (frs outer) [] H H' s.heap s'.heap∧HOk P w H' s'.heap∧RelV v u∧Q v H'
noncomputable def CR (CX:CXT) (outer:List Env) (P:Program) (w:World) (H:Hp) (s:Shared) (Q:VK) (E:XK) (r:Result) (s':Shared):Prop :=
 match r with
 | .ok (.ret u)=>CE outer P w H s Q u s'
 | .ok _=>False
 | .error e=>CX outer H s E e s'
structure FnOk (P:Program) (w:World) (K:PySem.W.Frag) (mg:Str->Option Value) (base:Heap) (CX:CXT) (k:Nat) (f:Addr) (fd:FuncData) (ps:List Str) (sp:Sp):Prop where
 len:∀ vs H Q E,sp vs H Q E->vs.length = ps.length
 run:∀ (A:Around) (outer:List Env) (s:Shared) (H:Hp) (args:Args) (us:List Value) (vs:List V) (Q:VK) (E:XK),Room k A->Env0 P w K mg base A outer s H->BindsTo s fd args (ps.zip us)->Vals vs us->sp vs H Q E ->
  codeAny (model P w) A (.call (.ref f) args) (CR CX outer P w H s Q E) s
section
variable {X:Cx} {pins:List (Addr × Obj)} {σ:St} {H:Hp} {s s':Shared}
theorem Inv.env0 (I:Inv X pins σ H s):Env0 X.prog X.w X.K X.mg X.base X.A X.stack s H :=
 ⟨I.ok.frames,I.ok.mod,I.bs,Nat.le_trans I.ok.bsz I.sz,I.stack,I.stkFree,I.hok,I.bare⟩
theorem Inv.after {Q:VK} {u:Value} (I:Inv X pins σ H s) (h:CE X.stack X.prog X.w H s Q u s'):EP X pins σ Q u s':=by
 obtain ⟨v,H',os,bare,un,hok,r,q⟩:=h
 obtain ⟨hh,g,d,t,os'⟩:=s'
 obtain rfl:os' = s.os:=os
 exact ⟨v,H',I.call (h':=hh) (g':=g) (d':=d) (t':=t) (ch:=[]) un hok bare (fun b z=>absurd z (by simp)),r,q⟩
end
noncomputable def ze5 (sp:Sp) (dvs:List V) (E:XK) (t:TA):TE:=fun σ H Q=>t σ H fun vs H1=>sp (vs ++ dvs) H1 Q E
noncomputable def tMeth (C:Addr) (m:Str) (sp:Sp) (dvs:List V) (E:XK) (ta:TE) (t:TA):TE:=fun σ H Q=>ta σ H fun x H1=>∃ a dx fs,x = .ref a∧H1 a = some (.ins C dx fs)∧fs.lookup m = none ∧
 t σ H1 fun vs H2=>sp (x :: (vs ++ dvs)) H2 Q E
noncomputable def tMake (C:Addr) (sp:Sp) (dvs:List V) (E:XK) (t:TA):TE:=fun σ H Q=>t σ H fun vs H1=>∀ x dx,H1 x = none->H1 dx = none->dx ≠ x ->
 sp (.ref x :: (vs ++ dvs)) (upd (upd H1 dx (.own x)) x (.ins C dx [])) (fun v H2=>v = .non∧Q (.ref x) H2) E
noncomputable def zaK (K:PySem.W.Frag) (fd:FuncData) (ps:List Str) (ds:List Value):Prop :=
 ∀ (s:Shared) (us:List Value),K.In s.heap->(us ++ ds).length = ps.length->BindsTo s fd ⟨us,[]⟩ (ps.zip (us ++ ds))
theorem zaK.all {K:PySem.W.Frag} {fd:FuncData} {ps:List Str} (h:∀ us:List Value,us.length = ps.length->bindArgs fd ⟨us,[]⟩ = pure (ps.zip us)):zaK K fd ps []:=fun s us _ hl=>by
 rw [List.append_nil] at hl ⊢
 exact .of_eq (h us hl)
noncomputable def zbE (CX:CXT) (X:Cx) (E:XK):Prop:=∀ (pins:List (Addr × Obj)) (σ:St) (H:Hp) (s:Shared) (e:Value) (s':Shared),Inv X pins σ H s->CX X.stack H s E e s'->X.xe e s'
section
variable {X:Cx} {CX:CXT} {k:Nat} {f C:Addr} {fd:FuncData} {ps:List Str} {sp:Sp} {dvs:List V} {ds:List Value} {E:XK} {x m:Str} {p pos apos:Pos} {e o:Expr} {es:List Expr} {ta:TE} {t:TA}
theorem zgn {pins:List (Addr × Obj)} {σ:St} {H:Hp} {s:Shared} {Q:VK} {us:List Value} {vs:List V} (F:FnOk X.prog X.w X.K X.mg X.base CX k f fd ps sp) (hr:Room k X.A) (hb:zaK X.K fd ps ds) (hd:Vals dvs ds) (hx:zbE CX X E)
  (I:Inv X pins σ H s) (r:Vals vs us) (h:sp (vs ++ dvs) H Q E):wpAny (model X.prog X.w) X.A (call (.ref f) us) (EP X pins σ Q) X.xe s:=by
 have r2:Vals (vs ++ dvs) (us ++ ds):=r.append hd
 have hl:(us ++ ds).length = ps.length:=by rw [← r2.length]; exact F.len _ _ _ _ h
 refine wpAny_call (codeAny_mono (F.run X.A X.stack s H ⟨us,[]⟩ (us ++ ds) (vs ++ dvs) Q E hr I.env0 (hb s us I.kIn hl) r2 h) fun r s' hq=>?_)
 cases r with
 | error e=>exact hx pins σ H s e s' I hq
 | ok fl =>
  cases fl with
  | ret u=>exact I.after hq
  | next=>exact False.elim hq
  | brk=>exact False.elim hq
  | cont=>exact False.elim hq
theorem zah (F:FnOk X.prog X.w X.K X.mg X.base CX k f fd ps sp) (hr:Room k X.A) (hg:Gl X x) (hm:X.mg x = some (.ref f)) (hk:PySem.W.keepIn X.K (.ref f) = true) (hb:zaK X.K fd ps ds) (hd:Vals dvs ds) (hx:zbE CX X E)
  (ha:PA X (e :: es) t) (hdb:(x == ("__debug__":Str)) = false:=by decide) (he:starEach (e :: es) X.env = (false,eval e X.env) :: starEach es X.env:=by rfl) (hpl:(backTo pos (starEach es X.env)).any (·.1) = false:=by rfl) :
  PE X (.Call (.Name x p) (e :: es) [] pos) (ze5 sp dvs E t):=by
 intro pins s σ H Q I h
 refine wpAny_Call_Name_kw (zbG I hg hm ?_ hdb)
 refine PySem.W.callWith_K (h₀:=X.base) I.ok.mod.kin hk (thn (ha pos pins s σ H _ I h) fun us s1 ⟨vs,H1,I1,r,q⟩=>⟨I1.kIn,?_⟩) he hpl
 exact zgn F hr hb hd hx I1 r q
theorem zbM (F:FnOk X.prog X.w X.K X.mg X.base CX k f fd ps sp) (hr:Room k X.A) (hg:Gl X x) (hm:X.mg x = some (.ref f)) (hk:PySem.W.keepIn X.K (.ref f) = true) (hb:zaK X.K fd ps ds) (hd:Vals dvs ds) (hx:zbE CX X E)
  (hdb:(x == ("__debug__":Str)) = false:=by decide):PE X (.Call (.Name x p) [] [] pos) (ze5 sp dvs E tNil):=by
 intro pins s σ H Q I h
 refine wpAny_Call_Name_kw (zbG I hg hm ?_ hdb)
 exact PySem.W.callWith_K0 I.kIn hk (zgn (us:=[]) F hr hb hd hx I .nil h)
end
noncomputable def PK (X:Cx) (kws:List Keyword) (t:TA):Prop :=
 ∀ (pos:Pos) (pins:List (Addr × Obj)) (s:Shared) (σ:St) (H:Hp) (Q:List V->Hp->Prop),Inv X pins σ H s->t σ H Q->wpAny (model X.prog X.w) X.A (evalAll ((backToKw pos (keywordEach kws X.env)).map (·.2))) (AP X pins σ Q) X.xe s
section
variable {X:Cx} {CX:CXT} {k:Nat} {f C:Addr} {fd:FuncData} {ps ks:List Str} {sp:Sp} {E:XK} {x m:Str} {p pos apos kpos:Pos} {e o:Expr} {es:List Expr} {kws:List Keyword} {te ta:TE} {t tk:TA} {nm:Option Str}
variable {g:List Value->List Value->List Value} {gV:List V->List V->List V}
end
structure FnScope (N P:List Str) (sc:Scope):Prop where
 kind:sc.kind = .function
 co:sc.isCoroutine = false
 gen:sc.isGenerator = false
 nd:N.Nodup
 pre:N.take P.length = P
 par:∀ x ∈ P,sc.names.lookup x = some .local ∨ sc.names.lookup x = some .cell
 nofree:∀ y ∈ sc.names,y.2 ≠ .free
theorem zdK {kindOf:Str->Option NameKind} {x:Str}:∀ {binds:List (Str × Value)} {m:Str->Option Value},(∀ v,(x,v) ∉ binds)->bindL kindOf binds m x = m x
 | [],_,_=>rfl
 | (n,v) :: r,m,h=>by
  unfold bindL
  rw [zdK fun w hw=>h w (List.mem_cons_of_mem _ hw)]
  split
  ·have:x ≠ n:=by rintro rfl; exact h v List.mem_cons_self
   simp [this]
  ·rfl
theorem zdW {kindOf:Str->Option NameKind} {x:Str}:∀ {binds:List (Str × Value)} {m:Str->Option Value},(∀ v,(x,v) ∉ binds)->bindC kindOf binds m x = m x
 | [],_,_=>rfl
 | (n,v) :: r,m,h=>by
  unfold bindC
  rw [zdW fun w hw=>h w (List.mem_cons_of_mem _ hw)]
  split
  ·rfl
  ·have:x ≠ n:=by rintro rfl; exact h v List.mem_cons_self
   simp [this]
theorem zd1 {kindOf:Str->Option NameKind} {x:Str} {v:Value}:∀ {P:List Str} {vs:List Value} {i:Nat} {m:Str->Option Value},P.Nodup->P[i]? = some x->vs[i]? = some v->kindOf x = some .local ->
  bindL kindOf (P.zip vs) m x = some v
 | [],_,_,_,_,h,_,_=>by simp at h
 | _ :: _,[],_,_,_,_,h,_=>by simp at h
 | p :: P,w :: vs,0,m,nd,h1,h2,hk=>by
  simp at h1 h2; subst h1; subst h2
  show bindL kindOf ((p,w) :: P.zip vs) m p = _
  unfold bindL
  rw [zdK fun v hv=>(List.nodup_cons.mp nd).1 (List.of_mem_zip hv).1,if_pos hk]
  simp
 | p :: P,w :: vs,i + 1,m,nd,h1,h2,hk=>by
  show bindL kindOf ((p,w) :: P.zip vs) m x = _
  unfold bindL
  exact zd1 (i:=i) (List.nodup_cons.mp nd).2 (by simpa using h1) (by simpa using h2) hk
theorem zdN {kindOf:Str->Option NameKind} {x:Str} {v:Value}:∀ {P:List Str} {vs:List Value} {i:Nat} {m:Str->Option Value},P.Nodup->P[i]? = some x->vs[i]? = some v->kindOf x ≠ some .local ->
  bindC kindOf (P.zip vs) m x = some v
 | [],_,_,_,_,h,_,_=>by simp at h
 | _ :: _,[],_,_,_,_,h,_=>by simp at h
 | p :: P,w :: vs,0,m,nd,h1,h2,hk=>by
  simp at h1 h2; subst h1; subst h2
  show bindC kindOf ((p,w) :: P.zip vs) m p = _
  unfold bindC
  rw [zdW fun v hv=>(List.nodup_cons.mp nd).1 (List.of_mem_zip hv).1,if_neg hk]
  simp
 | p :: P,w :: vs,i + 1,m,nd,h1,h2,hk=>by
  show bindC kindOf ((p,w) :: P.zip vs) m x = _
  unfold bindC
  exact zdN (i:=i) (List.nodup_cons.mp nd).2 (by simpa using h1) (by simpa using h2) hk
noncomputable def start (N:List Str) (vs:List V):St:=vs.map some ++ List.replicate (N.length - vs.length) none
noncomputable def cxOf (CX:CXT) (P:Program) (w:World) (K:PySem.W.Frag) (mg:Str->Option Value) (base:Heap) (N:List Str) (qual:Str) (scope:Scope) (f:Addr) (cd:Value) (A:Around) (outer:List Env) (s:Shared) (H:Hp) (E:XK):Cx where
 prog:=P
 w:=w
 K:=K
 mg:=mg
 base:=base
 A:=A.deeper (envOfC qual scope s.heap.objs.size f cd)
 N:=N
 s₀:=s
 H₀:=H
 env:=envOfC qual scope s.heap.objs.size f cd
 outer:=outer
 stack:=envOfC qual scope s.heap.objs.size f cd :: outer
 ex:=[]
 calm:=true
 fn:=fun _=>true
 pn:=[]
 xe:=fun e s'=>wpAny (model P w) (A.deeper (envOfC qual scope s.heap.objs.size f cd)) (leaving (envOfC qual scope s.heap.objs.size f cd) e) (fun _ s''=>CX outer H s E e s'') (fun e' s''=>CX outer H s E e' s'') s'
theorem zeG {sc:Scope} {n:Nat} {x:Str} (h:sc.names.lookup x = some .cell):∃ c,(cellsFrom n sc.names []).lookup x = some c:=by
 have q:=PySem.W.cellsFrom_some sc.names n [] (.inl h)
 exact Option.isSome_iff_exists.mp q
theorem zdQ {CX:CXT} {P:Program} {w:World} {K:PySem.W.Frag} {mg:Str->Option Value} {base:Heap} {N ps:List Str} {qual:Str} {scope:Scope} {f:Addr} {cd:Value} {A:Around} {outer:List Env} {s s1:Shared} {H:Hp} {E:XK} {us:List Value} {vs:List V}
  (S:FnScope N ps scope) (hd:A.handled = none) (e0:Env0 P w K mg base A outer s H) (hl:vs.length = ps.length) (r:Vals vs us)
  (x:InCallC s s.heap.objs.size (bindL (envOfC qual scope s.heap.objs.size f cd).kindOf (ps.zip us) fun _=>none) (cellsFrom (s.heap.objs.size + 1) scope.names []) (bindC (envOfC qual scope s.heap.objs.size f cd).kindOf (ps.zip us) fun _=>none) s1) :
  Inv (cxOf CX P w K mg base N qual scope f cd A outer s H E) [] (start N vs) H s1:=by
 have hpl:ps.length ≤ N.length:=by have:=congrArg List.length S.pre; rw [List.length_take] at this; omega
 obtain ⟨h1,tk,rfl,hk⟩:=x.done
 have noA:∀ b:Addr,b ∉ (cxOf CX P w K mg base N qual scope f cd A outer s H E).ex:=fun b z=>absurd (show b ∈ ([]:List Addr) from z) (by simp)
 refine ⟨⟨e0.mod,S.kind,rfl,rfl,Nat.le_refl _,fun y z c h1 h2=>?_,fun y hy=>?_,fun y c _ h=>?_,fun _=>hd,Around.frames_deeper e0.frames,.inr ⟨rfl,rfl⟩,fun b z=>absurd z (noA b),e0.bs,e0.bsz,fun b _ _=>noA b,fun b z=>absurd z (noA b),e0.funs,e0.frf⟩,
  rfl,e0.bare,Un.kept hk,⟨_,x.toInCall.ns,fun i y v h1 h2 h3=>?_⟩,fun y c h=>⟨_,x.cell y c h⟩,e0.hok.fresh (Nat.le_refl _),fun y c h=>?_,fun p hp=>absurd (show p ∈ ([]:List (Addr × Obj)) from hp) (by simp),e0.hok.kept hk,?_⟩
 ·exact name_of_addr x.apart (PySem.mem_of_lookup h1) (PySem.mem_of_lookup h2)
 ·have hy:scope.names.lookup y = some .cell ∨ scope.names.lookup y = some .free:=hy
  rcases hy with hy | hy
  ·exact zeG hy
  ·exact absurd rfl (S.nofree _ (PySem.mem_of_lookup hy))
 ·exact Nat.le_of_lt (x.above y c (PySem.mem_of_lookup h))
 ·have hi:i < vs.length:=by
   unfold start at h2
   by_cases hi:i < vs.length
   ·exact hi
   ·rw [List.getElem?_append_right (by simpa using hi)] at h2
    rw [List.getElem?_replicate] at h2
    split at h2 <;> cases h2
  have ha:vs[i]? = some v:=by
   unfold start at h2
   rw [List.getElem?_append_left (by simpa using hi),List.getElem?_map] at h2
   cases e:vs[i]? with
   | none=>rw [e] at h2; cases h2
   | some a=>rw [e] at h2; cases h2; rfl
  obtain ⟨u,hu,rv⟩:=r.get ha
  have hp:ps[i]? = some y:=by
   rw [← S.pre,List.getElem?_take_of_lt (by omega)]; exact h1
  have ndP:ps.Nodup:=by rw [← S.pre]; exact S.nd.sublist (List.take_sublist _ _)
  refine ⟨u,rv,?_⟩
  rcases S.par y (List.mem_of_getElem? hp) with k | k
  ·exact .inl ⟨k,zd1 ndP hp hu k⟩
  ·obtain ⟨c,e⟩:=zeG (n:=s.heap.objs.size + 1) k
   refine .inr ⟨.inl k,c,e,?_⟩
   have q:=x.cell y c e
   rw [zdN ndP hp hu (by show scope.names.lookup y ≠ _; rw [k]; decide)] at q
   exact q
 ·exact e0.hok.fresh (Nat.le_of_lt (x.above y c (PySem.mem_of_lookup h)))
 ·unfold start
  show _ = N.length
  rw [List.length_append,List.length_map,List.length_replicate]
  omega
theorem ziS {CX:CXT} {P:Program} {w:World} {K:PySem.W.Frag} {mg:Str->Option Value} {base:Heap} {k:Nat} {f:Addr} {name qual:Str} {params:Arguments} {body:List Stmt} {scope:Scope} {dV kV doc pm cdv ct oc:Value} {an od:Option Addr}
  {osl:Array (Option Value)} {N ps:List Str} {sp:Sp} (lk:K.lookup f = some ⟨oc,od,.func (PySem.W.fnOf name qual params body scope dV kV doc pm an cdv ct),osl⟩) (hcd:PySem.W.codeIn K cdv qual = true) (S:FnScope N ps scope)
  (len:∀ vs H Q E,sp vs H Q E->vs.length = ps.length)
  (hbody:∀ (A:Around) (outer:List Env) (s:Shared) (H:Hp) (vs:List V) (Q:VK) (E:XK),Room k (A.deeper (envOfC qual scope s.heap.objs.size f cdv))->sp vs H Q E ->
   ∃ t,PSs (cxOf CX P w K mg base N qual scope f cdv A outer s H E) body t∧t { nx:=fun _ H'=>Q .non H',rt:=Q } (start N vs) H) :
  FnOk P w K mg base CX (k + 1) f (PySem.W.fnOf name qual params body scope dV kV doc pm an cdv ct) ps sp:=by
 refine ⟨len,fun A outer s H args us vs Q E hr e0 hb r hsp=>?_⟩
 have hl:=len _ _ _ _ hsp
 have KX:K.In s.heap:=e0.mod.kin.keeps fun b o e=>(e0.bs b o e).1
 have lim:s.heap.NoLimit:=e0.mod.nolimit.keeps fun b o e=>(e0.bs b o e).1
 have hkind:∀ y ∈ ps.zip us,scope.names.lookup y.1 = some .local ∨ (scope.names.lookup y.1 = some .cell∧((cellsFrom (s.heap.objs.size + 1) scope.names []).lookup y.1).isSome = true):=fun ⟨n,v⟩ hy=>by
  rcases S.par n (List.of_mem_zip hy).1 with q | q
  ·exact .inl q
  ·exact .inr ⟨q,PySem.W.cellsFrom_some _ _ _ (.inl q)⟩
 refine codeAny_call_function hr.depth (KX _ _ lk) rfl S.co S.gen rfl (PySem.W.codeRec_of KX hcd) (hb _ _ _ _ ?_)
 refine wpAny_newFunctionEnv_cells S.kind hkind fun env he s1 x=>?_
 subst he
 refine ⟨lim.keeps x.toInCall.keep,codeAny_func ?_⟩
 obtain ⟨t,ht,hq⟩:=hbody A outer s H vs Q E (hr.deeper _) hsp
 have I:Inv (cxOf CX P w K mg base N qual scope f cdv A outer s H E) [] (start N vs) H s1:=zdQ S hr.hd e0 hl r x
 refine wpAny_mono (ht [] s1 (start N vs) H _ I hq) (fun fl s' hs=>?_) fun e s' hs=>hs
 have fin:∀ {σ':St} {H':Hp} {v:V} {u:Value},Inv (cxOf CX P w K mg base N qual scope f cdv A outer s H E) [] σ' H' s'->RelV v u->Q v H'->CE outer P w H s Q u s' :=
  fun {σ' H' v u} J rv q=>⟨v,H',J.os,J.bare,J.base,J.hok,rv,q⟩
 cases fl with
 | ret u =>
  obtain ⟨v,σ',H',J,rv,q⟩:=hs
  exact fin J rv q
 | next =>
  obtain ⟨σ',H',J,q⟩:=hs
  exact fin (v:=V.non) (u:=Value.none) J rfl q
 | brk =>
  obtain ⟨_,_,_,q⟩:=hs
  exact False.elim q
 | cont =>
  obtain ⟨_,_,_,q⟩:=hs
  exact False.elim q
end L2
namespace L2
open PySem PySem.Spec PyProof.Rows
section
variable {X:Cx} {x:Str} {p pos:Pos} {e:Expr} {es:List Expr} {t:TA} {id T:String} {r:List V->Hp->VK->Prop}
noncomputable def tCB (r:List V->Hp->VK->Prop) (t:TA):TE:=fun σ H Q=>t σ H fun vs H1=>r vs H1 Q
theorem zao (hc:zb9 X (.builtin id) r) (hg:Gl X x) (hm:X.mg x = none) (hv:bootBuiltins x = some (.builtin id)) (ha:PA X (e :: es) t) (hn:x ≠ "__name__":=by decide) (hdb:(x == ("__debug__":Str)) = false:=by decide)
  (he:starEach (e :: es) X.env = (false,eval e X.env) :: starEach es X.env:=by rfl) (hpl:(backTo pos (starEach es X.env)).any (·.1) = false:=by rfl):PE X (.Call (.Name x p) (e :: es) [] pos) (tCB r t):=by
 intro pins s σ H Q I h
 refine wpAny_Call_Name_kw (zeV I hg hm hv ?_ hn hdb)
 exact PyProof.Rows.callWith_builtin1 (thn (ha pos pins s σ H _ I h) fun us s1 ⟨vs,H1,I1,r1,q1⟩=>hc pins s1 σ H1 vs us Q I1 r1 q1) he hpl
theorem zax (hc:zb9 X (.type T) r) (hg:Gl X x) (hm:X.mg x = none) (hv:bootBuiltins x = some (.type T)) (ha:PA X (e :: es) t) (hn:x ≠ "__name__":=by decide) (hdb:(x == ("__debug__":Str)) = false:=by decide)
  (he:starEach (e :: es) X.env = (false,eval e X.env) :: starEach es X.env:=by rfl) (hpl:(backTo pos (starEach es X.env)).any (·.1) = false:=by rfl):PE X (.Call (.Name x p) (e :: es) [] pos) (tCB r t):=by
 intro pins s σ H Q I h
 refine wpAny_Call_Name_kw (zeV I hg hm hv ?_ hn hdb)
 exact PyProof.Rows.callWith_type1 (thn (ha pos pins s σ H _ I h) fun us s1 ⟨vs,H1,I1,r1,q1⟩=>hc pins s1 σ H1 vs us Q I1 r1 q1) he hpl
end
end L2
namespace HT
open PySem PyProof.Rows
section
open PySem.SeqAt
open PySem.AutoSeq1 (wpAny_loadPart')
open PySem.MeetsSeq PySem.MeetsSeq2 PySem.MeetsSeq3
end
section
variable {prog:Program} {w:World} {A:Around} {E:Value->Shared->Prop} {s:Shared}
theorem cat_tup {t b:Addr} {vs ws:List Value} {Q:Value->Shared->Prop} (ht:IsTup s.heap t vs.toArray) (hb:IsTup s.heap b ws.toArray) (hv:vs ≠ [])
  (h1:ws = []->Q (.ref t) s) (h2:ws ≠ []->Q (.ref s.heap.objs.size) { s with heap:=s.heap.push { cls:=.type "tuple",data:=.seq (vs ++ ws).toArray } })
  (hsz:vs.length + ws.length ≤ sizeLine):wpAny (model prog w) A (binaryOp .Add (.ref t) (.ref b)) Q E s:=by
 obtain ⟨⟨cls,dd,data,sl⟩,ho,hc,n,hd⟩:=id ht
 obtain ⟨⟨cls2,dd2,data2,sl2⟩,ho2,hc2,n2,hd2⟩:=id hb
 simp only at hc hd hc2 hd2
 subst hc hd hc2 hd2
 have e:vs.toArray ++ ws.toArray = (vs ++ ws).toArray:=by simp
 by_cases hw:ws = []
 ·exact concat_meets ⟨_,ho,rfl⟩ ⟨_,ho2,rfl⟩ noFill_tuple_add seq_tuple_add PySem.F.slot_tuple_add PySem.F.entry_tuple_add (PySem.F.args_tuple_add_2 _ _)
   (tuple_addW1 t b vs.toArray ws.toArray n n2 dd dd2 sl sl2 (by simpa using hv) (by simp [hw])) ⟨ho,ho2,h1 hw⟩
 ·refine concat_meets ⟨_,ho,rfl⟩ ⟨_,ho2,rfl⟩ noFill_tuple_add seq_tuple_add PySem.F.slot_tuple_add PySem.F.entry_tuple_add (PySem.F.args_tuple_add_2 _ _)
   (tuple_addW2 t b vs.toArray ws.toArray n n2 dd dd2 sl sl2 (by simpa using hv) (by simpa using hw) (by rw [List.size_toArray,List.size_toArray]; exact hsz)) ⟨ho,ho2,?_⟩
  rw [e]
  exact h2 hw
noncomputable def sIx (n d:Nat):Option Int->Nat
 | none=>d
 | some v=>if v < 0 then (v + (n:Int)).toNat else min v.toNat n
theorem sIx_none (n d:Nat):sIx n d none = d:=rfl
theorem sIx_nat (n d k:Nat):sIx n d (some (k:Int)) = min k n:=by
 show (if (k:Int) < 0 then ((k:Int) + (n:Int)).toNat else min (k:Int).toNat n) = min k n
 rw [if_neg (by omega),Int.toNat_natCast]
theorem ziP (n d:Nat) (hd:d ≤ n) (o:Option Int):sIx n d o ≤ n:=by
 cases o with
 | none=>exact hd
 | some v =>
  show (if v < 0 then (v + (n:Int)).toNat else min v.toNat n) ≤ n
  by_cases hv:v < 0
  ·rw [if_pos hv]; omega
  ·rw [if_neg hv]; exact Nat.min_le_right _ _
theorem zgx (v:Int) (n d:Nat):(if v < 0 then max (v + (n:Int)) 0 else min v (n:Int)) = ((sIx n d (some v):Nat):Int):=by
 show (if v < 0 then max (v + (n:Int)) 0 else min v (n:Int)) = (((if v < 0 then (v + (n:Int)).toNat else min v.toNat n):Nat):Int)
 by_cases hv:v < 0
 ·simp only [if_pos hv]; omega
 ·simp only [if_neg hv]; omega
theorem zfa (lo hi:Option Int) (n:Nat):Builtin.Slice.sliceAdjust lo hi 1 (n:Int) = (((sIx n 0 lo:Nat):Int),((sIx n n hi:Nat):Int)):=by
 have h1:¬ ((1:Int) < 0):=by omega
 unfold Builtin.Slice.sliceAdjust
 simp only [h1,if_false]
 refine Prod.ext ?_ ?_
 ·cases lo with
  | none=>rfl
  | some v=>exact zgx v n 0
 ·cases hi with
  | none=>rfl
  | some v=>exact zgx v n n
theorem ze1 (i j:Nat):Builtin.Slice.slicePlaces (i:Int) (j:Int) 1 = j - i:=by
 unfold Builtin.Slice.slicePlaces
 have h1:(1:Int) > 0:=by omega
 simp only [h1,if_true,Int.ediv_one]
 split <;> omega
theorem zc8 {v:Value} {o:Option Int} {Q:Option Int->Shared->Prop} (p:IsPart v o) (h:Q o s):wpAny (model prog w) A (Builtin.Slice.slicePartIndex v) Q E s:=by
 cases p with
 | none=>exact slicePart_none h
 | int i t=>exact slicePart_int h
theorem zct {sl:Addr} {vl vu:Value} {lo hi:Option Int} {n:Nat} {Q:Int × Int × Nat->Shared->Prop} (hs:s.heap.IsSliceOf sl vl vu .none) (pl:IsPart vl lo) (pu:IsPart vu hi)
  (h:Q (((sIx n 0 lo:Nat):Int),1,sIx n n hi - sIx n 0 lo) s):wpAny (model prog w) A (Builtin.Slice.sliceApplied (.ref sl) (pure (n:Int))) Q E s:=by
 obtain ⟨os,hos,hcs,hds⟩:=id hs
 unfold Builtin.Slice.sliceApplied Builtin.Slice.sliceFields
 refine wpAny_bind (wpAny_bind (wpAny_field hos hds (x:=vl) rfl (wpAny_bind (wpAny_field hos hds (x:=vu) rfl (wpAny_bind (wpAny_field hos hds (x:=.none) rfl (wpAny_pure ?_)))))))
 refine wpAny_bind (slicePart_none ?_)
 show wpAny _ _ (if ((1:Int) == 0) = true then _ else _) _ _ s
 rw [if_neg (by decide)]
 refine wpAny_bind (zc8 pl (wpAny_bind (zc8 pu (wpAny_bind (wpAny_pure ?_)))))
 show wpAny _ _ (match Builtin.Slice.sliceAdjust lo hi 1 (n:Int) with | (lo,hi)=>pure (lo,(1:Int),Builtin.Slice.slicePlaces lo hi 1)) _ _ s
 rw [zfa lo hi n]
 show wpAny _ _ (pure (((sIx n 0 lo:Nat):Int),(1:Int),Builtin.Slice.slicePlaces ((sIx n 0 lo:Nat):Int) ((sIx n n hi:Nat):Int) 1)) _ _ s
 rw [ze1]
 exact wpAny_pure h
theorem zg2 (xs:Array Value) (i k:Nat):((List.range k).filterMap fun (m:Nat)=>xs[((i:Int) + (m:Int) * 1).toNat]?).toArray = ((xs.toList.drop i).take k).toArray:=by
 have e:(fun (m:Nat)=>xs[((i:Int) + (m:Int) * 1).toNat]?) = fun m=>xs[i + m]?:=by
  funext m
  have:((i:Int) + (m:Int) * 1).toNat = i + m:=by omega
  rw [this]
 rw [e]
 have:=pick_run xs i k
 rw [List.filterMap_map] at this
 have e2:((fun x=>xs[x]?) ∘ fun x=>i + x) = fun m=>xs[i + m]?:=rfl
 rw [e2] at this
 rw [this]
theorem getItem_tuple_cut {t sl:Addr} {items:Array Value} {vl vu:Value} {lo hi:Option Int} {Q:Value->Shared->Prop} (ht:IsTup s.heap t items) (hs:s.heap.IsSliceOf sl vl vu .none) (pl:IsPart vl lo) (pu:IsPart vu hi)
  (hw:¬ (sIx items.size 0 lo = 0∧sIx items.size items.size hi = items.size))
  (h:Q (.ref s.heap.objs.size) { s with heap:=s.heap.push { cls:=.type "tuple",data:=.seq ((items.toList.drop (sIx items.size 0 lo)).take (sIx items.size items.size hi - sIx items.size 0 lo)).toArray } })
  (hsz:items.size ≤ sizeLine):wpAny (model prog w) A (getItem (.ref t) (.ref sl)) Q E s:=by
 have htake:sizeOk (.seq ((items.toList.drop (sIx items.size 0 lo)).take (sIx items.size items.size hi - sIx items.size 0 lo)).toArray):=by
  show ((items.toList.drop (sIx items.size 0 lo)).take (sIx items.size items.size hi - sIx items.size 0 lo)).toArray.size ≤ sizeLine
  rw [List.size_toArray,List.length_take,List.length_drop,Array.length_toList]
  omega
 have hj:sIx items.size items.size hi ≤ items.size:=ziP _ _ (Nat.le_refl _) hi
 obtain ⟨os,hos,hcs,hds⟩:=id hs
 have hTs:s.TypeIs (.ref sl) "slice":=⟨os,hos,hcs⟩
 unfold getItem
 try with_reducible refine wpAny_holding ?_
 first | refine wpAny_bind (wpAny_pure ?_) | skip
 refine wpAny_bind (wpAny_sequenceKey ht.typeIs (by decide) ?_)
 refine wpAny_bind (wpAny_callSpecial?_slot (name:=Str.ofString "__getitem__") ht.typeIs PyProof.Rows.slot_tuple_getitem
  (wpAny_call_entry PyProof.Rows.slot_tuple_getitem ht.typeIs entry_tuple_getitem ?_ (args_tuple_getitem _ _)))
 show wpAny _ _ (Builtin.Tuple.tupleItemsOf (.ref t) >>= _) _ _ s
 refine wpAny_bind (tupleItemsOf_ ht ?_)
 refine wpAny_bind (wpAny_typeOf hTs ?_)
 rw [if_pos (by decide)]
 refine wpAny_bind (zct hs pl pu ?_)
 have hno:¬ ((((sIx items.size 0 lo:Nat):Int) == 0 && (1:Int) == 1 && (sIx items.size items.size hi - sIx items.size 0 lo) == items.size) = true):=by
  intro q
  rw [Bool.and_eq_true,Bool.and_eq_true] at q
  have q1:((sIx items.size 0 lo:Nat):Int) = 0:=eq_of_beq q.1.1
  have q2:sIx items.size items.size hi - sIx items.size 0 lo = items.size:=eq_of_beq q.2
  exact hw ⟨by omega,by omega⟩
 show wpAny _ _ (if (((sIx items.size 0 lo:Nat):Int) == 0 && (1:Int) == 1 && (sIx items.size items.size hi - sIx items.size 0 lo) == items.size) = true then _ else _) _ _ s
 rw [if_neg hno,zg2]
 first
  | exact wpAny_bind (m:=Builtin.Tuple.tupleExact _) (wpAny_newObj_type (wpAny_pure ⟨_,rfl,wpAny_pure h⟩) htake)
  | exact wpAny_bind (m:=Builtin.Tuple.tupleExact _) (wpAny_newObj_type (wpAny_bind (wpAny_pure (wpAny_pure ⟨_,rfl,wpAny_pure h⟩))) htake)
  | exact wpAny_bind (wpAny_bind (m:=Builtin.Tuple.tupleExact _) (wpAny_newObj_type (wpAny_pure (wpAny_pure ⟨_,rfl,wpAny_pure h⟩)) htake))
  | exact wpAny_bind (wpAny_bind (m:=Builtin.Tuple.tupleExact _) (wpAny_newObj_type (wpAny_pure ⟨_,rfl,wpAny_pure h⟩) htake))
end
end HT
namespace L2
open PySem PySem.Spec PyProof.Rows
abbrev TO:=St->Hp->(Option Int->Hp->Prop)->Prop
noncomputable def PO (X:Cx) (e:Option Expr) (t:TO):Prop :=
 ∀ (pins:List (Addr × Obj)) (s:Shared) (σ:St) (H:Hp) (Q:Option Int->Hp->Prop),Inv X pins σ H s->t σ H Q ->
  wpAny (model X.prog X.w) X.A (evalPart e X.env) (fun u s'=>∃ o H',Inv X pins σ H' s'∧IsPart u o∧Q o H') X.xe s
noncomputable def tNoPart:TO:=fun _ H Q=>Q none H
noncomputable def zbv (t:TE):TO:=fun σ H Q=>t σ H fun x H1=>∃ i,x = .int i∧Q (some i) H1
section
variable {X:Cx} {e:Expr} {te:TE} {lo hi:Option Expr} {tl th:TO} {pos p2:Pos}
theorem po_none:PO X none tNoPart:=by
 intro pins s σ H Q I h
 rw [evalPart_none]
 exact wpAny_pure ⟨none,H,I,.none,h⟩
theorem zaw (h:PE X e te):PO X (some e) (zbv te):=by
 intro pins s σ H Q I hw
 rw [evalPart_some]
 refine thn (h pins s σ H _ I hw) fun u s1 zq_=>?_
 obtain ⟨x,H1,I1,r1,q1⟩:=zq_
 obtain ⟨i,rfl,q⟩:=q1
 obtain ⟨t,rfl⟩:=r1
 exact ⟨some i,H1,I1,.int i t,q⟩
noncomputable def SlR (X:Cx) (r:V->Option Int->Option Int->Hp->VK->Prop):Prop :=
 ∀ (pins:List (Addr × Obj)) (s:Shared) (σ:St) (H:Hp) (x:V) (v vl vu:Value) (lo hi:Option Int) (sl:Addr) (Q:VK),Inv X pins σ H s->RelV x v->s.heap.IsSliceOf sl vl vu .none->IsPart vl lo->IsPart vu hi->r x lo hi H Q ->
  ∃ T id,typeLookup (.type T) "__getitem__" = pure (some (.builtin id))∧s.TypeIs v T∧wpAny (model X.prog X.w) X.A (getItem v (.ref sl)) (EP X pins σ Q) X.xe s
noncomputable def tSl (r:V->Option Int->Option Int->Hp->VK->Prop) (te:TE) (tl th:TO):TE:=fun σ H Q=>te σ H fun x H1=>tl σ H1 fun l H2=>th σ H2 fun u H3=>r x l u H3 Q
theorem zas {r:V->Option Int->Option Int->Hp->VK->Prop} (hr:SlR X r) (he:PE X e te) (hl:PO X lo tl) (hu:PO X hi th):PE X (.Subscript e (.Slice lo hi none p2) pos) (tSl r te tl th):=by
 intro pins s σ H Q I h
 refine Subscript_ (thn (he pins s σ H _ I h) fun v s1 zq_=>?_)
 obtain ⟨x,H1,I1,r1,q1⟩:=zq_
 refine wpAny_Slice (thn (hl pins s1 σ H1 _ I1 q1) fun vl s2 ⟨l,H2,I2,pl,q2⟩=>thn (hu pins s2 σ H2 _ I2 q2) fun vu s3 zq_=>?_)
 obtain ⟨u,H3,I3,pu,q3⟩:=zq_
 rw [evalPart_none]
 refine wpAny_pure ?_
 have I4:Inv X pins σ H3 { s3 with heap:=s3.heap.push { cls:=.type "slice",data:=.fields #[vl,vu,.none] } }:=I3.kept (t':=s3.toks) fun b ob q=>Heap.get?_push_of_some _ q
 obtain ⟨T,id,hT,ht,hg⟩:=hr pins { s3 with heap:=s3.heap.push { cls:=.type "slice",data:=.fields #[vl,vu,.none] } } σ H3 x v vl vu l u s3.heap.objs.size Q I4 r1 (Heap.IsSliceOf.new ..) pl pu q3
 show wpAny (model X.prog X.w) X.A (subscriptTail e (.Slice lo hi none p2) v (.ref s3.heap.objs.size)) (EP X pins σ Q) X.xe { s3 with heap:=s3.heap.push { cls:=.type "slice",data:=.fields #[vl,vu,.none] } }
 exact tail_any (ops:=[.ref s3.heap.objs.size,v]) ht hT hg (by with_unfolding_all rfl)
noncomputable def cutV (xs:List V) (lo hi:Option Int):List V:=(xs.drop (HT.sIx xs.length 0 lo)).take (HT.sIx xs.length xs.length hi - HT.sIx xs.length 0 lo)
theorem zcR (xs:List V) (lo hi:Option Int):(cutV xs lo hi).length ≤ xs.length:=by
 unfold cutV
 rw [List.length_take,List.length_drop]
 omega
noncomputable def rSlT (K:PySem.W.Frag):V->Option Int->Option Int->Hp->VK->Prop:=fun x lo hi H Q=>∃ a xs,x = .ref a∧SqT K H a xs ∧
 ¬ (HT.sIx xs.length 0 lo = 0∧HT.sIx xs.length xs.length hi = xs.length)∧∀ p,H p = none->Q (.ref p) (upd H p (.tup (cutV xs lo hi)))
theorem sl_tup:SlR X (rSlT X.K):=by
 intro pins s σ H x v vl vu lo hi sl Q I rx hs pl pu h
 obtain ⟨a,xs,rfl,hx,hw,q⟩:=h
 cases rx
 obtain ⟨its,r,ht,hz⟩:=I.tuple hx
 have hlen:its.toArray.size = xs.length:=by rw [List.size_toArray]; exact r.length.symm
 refine ⟨"tuple",_,PyProof.Rows.slot_tuple_getitem.lookup,ht.typeIs,?_⟩
 refine HT.getItem_tuple_cut ht hs pl pu (by rw [hlen]; exact hw) ?_ (by rw [hlen]; exact hz)
 rw [hlen]
 refine ⟨.ref s.heap.objs.size,_,I.laid (t':=s.toks) (o:=.tup (cutV xs lo hi)) (fun b ob q=>Heap.get?_push_of_some _ q) (Nat.le_refl _) ?_,rfl,q _ (I.hok.fresh (Nat.le_refl _))⟩
 exact ⟨Nat.le_trans (zcR xs lo hi) hz,_,(r.drop (HT.sIx xs.length 0 lo)).take (HT.sIx xs.length xs.length hi - HT.sIx xs.length 0 lo),IsTup.new _ _⟩
noncomputable def rCatT (K:PySem.W.Frag):R2:=fun x y H Q=>∃ a b xs ys,x = .ref a∧y = .ref b∧SqT K H a xs∧SqT K H b ys∧xs ≠ []∧xs.length + ys.length ≤ sizeLine ∧
 (ys = []->Q (.ref a) H)∧(ys ≠ []->∀ p,H p = none->Q (.ref p) (upd H p (.tup (xs ++ ys))))
theorem Vals.nil_iff {xs:List V} {us:List Value} (r:Vals xs us):us = [] ↔ xs = []:=by
 cases r with
 | nil=>simp
 | cons _ _=>simp
theorem op_catT:OpR X (binaryOp .Add) (rCatT X.K):=by
 intro pins s σ H x y v u Q I rx ry h
 obtain ⟨a,b,xs,ys,rfl,rfl,ha,hb,hx,hz,q1,q2⟩:=h
 cases rx
 cases ry
 obtain ⟨its,r1,p1,_⟩:=I.tuple ha
 obtain ⟨its2,r2,p2,_⟩:=I.tuple hb
 refine HT.cat_tup p1 p2 (fun z=>hx (r1.nil_iff.mp z)) (fun z=>⟨.ref a,H,I,rfl,q1 (r2.nil_iff.mp z)⟩) (fun z=>?_) (by rw [← r1.length,← r2.length]; exact hz)
 refine ⟨.ref s.heap.objs.size,_,I.laid (t':=s.toks) (o:=.tup (xs ++ ys)) (fun b ob q=>Heap.get?_push_of_some _ q) (Nat.le_refl _) ?_,rfl,q2 (fun w=>z (r2.nil_iff.mpr w)) _ (I.hok.fresh (Nat.le_refl _))⟩
 exact ⟨by rw [List.length_append]; exact hz,_,r1.append r2,IsTup.new _ _⟩
end
end L2
namespace L2
open PySem PySem.Spec PyProof.Rows
noncomputable def ixN (n:Nat) (i:Int):Option Nat:=if 0 ≤ i then (if i < n then some i.toNat else none) else if -(n:Int) ≤ i then some (i + n).toNat else none
noncomputable def atI {α:Type} (xs:List α) (i:Int):Option α:=(ixN xs.length i).bind fun j=>xs[j]?
theorem zfS {n:Nat} {i:Int} {j:Nat} (h:ixN n i = some j):seqIndex? i n = some j∧j < n∧-(n:Int) ≤ i∧i < n:=by
 unfold ixN at h
 by_cases h0:0 ≤ i
 ·rw [if_pos h0] at h
  by_cases h1:i < n
  ·rw [if_pos h1] at h
   have e:i.toNat = j:=Option.some.inj h
   exact ⟨by rw [seqIndex_of h0 h1,e],by omega,by omega,h1⟩
  ·rw [if_neg h1] at h; cases h
 ·rw [if_neg h0] at h
  by_cases h1:-(n:Int) ≤ i
  ·rw [if_pos h1] at h
   have e:(i + n).toNat = j:=Option.some.inj h
   exact ⟨by rw [seqIndex_neg (by omega) h1,e],by omega,h1,by omega⟩
  ·rw [if_neg h1] at h; cases h
theorem zer {α:Type} {xs:List α} {i:Int} {v:α} (h:atI xs i = some v):∃ j,seqIndex? i xs.length = some j∧xs[j]? = some v∧j < xs.length∧-(xs.length:Int) ≤ i∧i < xs.length:=by
 unfold atI at h
 cases e:ixN xs.length i with
 | none=>rw [e] at h; cases h
 | some j =>
  rw [e] at h
  obtain ⟨h1,h2,h3,h4⟩:=zfS e
  exact ⟨j,h1,h,h2,h3,h4⟩
theorem zaQ {α:Type} {xs:List α} {j:Nat} {v:α} (h:xs[j]? = some v):atI xs (j:Int) = some v:=by
 have hj:j < xs.length:=(List.getElem?_eq_some_iff.mp h).1
 have e:ixN xs.length (j:Int) = some j:=by
  unfold ixN
  rw [if_pos (by omega),if_pos (by omega)]; simp
 unfold atI; rw [e]; exact h
theorem zeZ {α:Type} (xs:List α) (v:α):atI (xs ++ [v]) (-1) = some v:=by
 have hl:(xs ++ [v]).length = xs.length + 1:=by simp
 have e:ixN (xs ++ [v]).length (-1) = some xs.length:=by
  unfold ixN
  rw [hl,if_neg (by decide),if_pos (by omega)]
  congr 1
  omega
 unfold atI
 rw [e]
 show (xs ++ [v])[xs.length]? = some v
 simp
noncomputable def zh4 (b:Expr):Prop:=∀ o i,subscripted b false o i = operate [o,i] (getItem o i)
noncomputable def IxR (X:Cx) (r:R2):Prop :=
 ∀ (value slice:Expr) (pins:List (Addr × Obj)) (s:Shared) (σ:St) (H:Hp) (x y:V) (v u:Value) (Q:VK),Inv X pins σ H s->RelV x v->RelV y u->r x y H Q ->
  subscripted slice false v u = operate [v,u] (getItem v u)->wpAny (model X.prog X.w) X.A (subscriptTail value slice v u) (EP X pins σ Q) X.xe s
noncomputable def MtR (X:Cx) (id:String) (r:V->List V->Hp->VK->Prop):Prop :=
 ∀ (pins:List (Addr × Obj)) (s:Shared) (σ:St) (H:Hp) (x:V) (xs:List V) (v:Value) (us:List Value) (Q:VK),Inv X pins σ H s->RelV x v->Vals xs us->r x xs H Q ->
  wpAny (model X.prog X.w) X.A (call (.builtin id) (v :: us)) (EP X pins σ Q) X.xe s
section
variable {X:Cx} {a b:Expr} {ta tb:TE} {pos:Pos}
theorem zar {r:R2} (hr:IxR X r) (ha:PE X a ta) (hb:PE X b tb) (hs:zh4 b):PE X (.Subscript a b pos) (tOp r ta tb):=by
 intro pins s σ H Q I h
 exact Subscript_ (binT ha hb I h fun v u s2 x y H2 I2 rx ry q=>hr a b pins s2 σ H2 x y v u Q I2 rx ry q (hs _ _))
noncomputable def rIxL (K:PySem.W.Frag):R2:=fun x y H Q=>∃ p xs i v,x = .ref p∧y = .int i∧SqL K H p xs∧atI xs i = some v∧Q v H
noncomputable def rIxT (K:PySem.W.Frag):R2:=fun x y H Q=>∃ p xs i v,x = .ref p∧y = .int i∧SqT K H p xs∧atI xs i = some v∧Q v H
noncomputable def rIxS:R2:=fun x y H Q=>∃ z i c,x = .str z∧y = .int i∧z.length ≤ sizeLine∧atI z.cps.toList i = some c∧Q (.str ⟨#[c]⟩) H
theorem ix_list:IxR X (rIxL X.K):=by
 intro value slice pins s σ H x y v u Q I rx ry h hs
 obtain ⟨p,xs,i,z,rfl,rfl,hq,he,q⟩:=h
 cases rx
 obtain ⟨t,rfl⟩:=ry
 obtain ⟨its,r,pl,hz⟩:=I.list hq
 obtain ⟨j,h1,h2,h3,h4,h5⟩:=zer he
 obtain ⟨w,ew,rw'⟩:=r.get h2
 have hl:=r.length
 have hn:=line63
 have fin:EP X pins σ Q w s:=⟨z,H,I,rw',q⟩
 by_cases h0:0 ≤ i
 ·have hj:i.toNat = j:=by
   rw [seqIndex_of h0 h5] at h1
   exact Option.some.inj h1
  exact item_listR pl.isList h0 (by omega) (by rw [hj]; simpa using ew) fin hs
 ·have hj:(i + (its.toArray.size:Int)).toNat = j:=by
   rw [seqIndex_neg (by omega) h4] at h1
   rw [List.size_toArray,← hl]
   exact Option.some.inj h1
  exact subscriptTail_builtinR (x:=w) pl.isList.typeIs slot_list_getitem.lookup
   (wpAny_getItem_list_neg (Q:=fun r s'=>r = w∧EP X pins σ Q r s') pl.isList (by omega) (by rw [List.size_toArray] <;> omega) (by omega) (by rw [hj]; simpa using ew) ⟨rfl,fin⟩) hs
theorem ix_tup:IxR X (rIxT X.K):=by
 intro value slice pins s σ H x y v u Q I rx ry h hs
 obtain ⟨p,xs,i,z,rfl,rfl,hq,he,q⟩:=h
 cases rx
 obtain ⟨t,rfl⟩:=ry
 obtain ⟨its,r,pl,hz⟩:=I.tuple hq
 obtain ⟨j,h1,h2,h3,h4,h5⟩:=zer he
 obtain ⟨w,ew,rw'⟩:=r.get h2
 have hl:=r.length
 have hn:=line63
 have fin:EP X pins σ Q w s:=⟨z,H,I,rw',q⟩
 exact subscriptTail_builtinR (x:=w) pl.typeIs slot_tuple_getitem.lookup
  (getItem_tuple (j:=j) (Q:=fun r s'=>r = w∧EP X pins σ Q r s') pl (by omega) (by omega) (by rw [List.size_toArray,← hl]; exact h1) (by simpa using ew) ⟨rfl,fin⟩) hs
theorem ix_str:IxR X rIxS:=by
 intro value slice pins s σ H x y v u Q I rx ry h hs
 obtain ⟨z,i,c,rfl,rfl,hz,he,q⟩:=h
 obtain ⟨t,rfl⟩:=rx
 obtain ⟨t',rfl⟩:=ry
 obtain ⟨j,h1,h2,h3,h4,h5⟩:=zer he
 have hl:z.cps.toList.length = z.length:=by simp [Str.length]
 rw [hl] at h1 h4 h5
 have hn:=line63
 exact tail_any (typeIs_str s z t) slot_str_getitem.lookup (getItem_str (c:=c) (by
  have e1:decide (i < -(2 ^ 63:Int)) = false:=decide_eq_false (by omega)
  have e2:decide (i ≥ 2 ^ 63) = false:=decide_eq_false (by omega)
  rw [e1,e2,Bool.or_false]) (by rw [h1]; simpa using h2) ⟨.str ⟨#[c]⟩,H,I.tok _,⟨_,rfl⟩,q⟩) hs
theorem ze7 (its:List Value) (n j:Nat) (u:Value):Obj.mapSeq (·.setIfInBounds j u) { cls:=.type "list",data:=.seq its.toArray n } = { cls:=.type "list",data:=.seq (its.set j u).toArray n }:=by
 simp [Obj.mapSeq]
theorem Inv.lst {pins:List (Addr × Obj)} {σ:St} {H:Hp} {s:Shared} {p:Addr} {xs:List V} (I:Inv X pins σ H s) (h:H p = some (.lst xs)) :
  ∃ (its:List Value) (n:Nat),Vals xs its∧s.heap.get? p = some { cls:=.type "list",data:=.seq its.toArray n }∧xs.length ≤ sizeLine:=by
 obtain ⟨z,its,n,r,e⟩:=I.hok p _ h
 exact ⟨its,n,r,e,z⟩
theorem Inv.lstUpd {pins:List (Addr × Obj)} {σ:St} {H:Hp} {s:Shared} {p:Addr} {xs ys:List V} {its its':List Value} {n n':Nat} {f:Obj->Obj} (I:Inv X pins σ H s) (h:H p = some (.lst xs))
  (ho:s.heap.get? p = some { cls:=.type "list",data:=.seq its.toArray n }) (hf:f { cls:=.type "list",data:=.seq its.toArray n } = { cls:=.type "list",data:=.seq its'.toArray n' }) (r:Vals ys its') (hz:ys.length ≤ sizeLine) (t:Nat) :
  Inv X pins σ (upd H p (.lst ys)) { s with heap:=s.heap.update p f,toks:=t }:=by
 have e:(s.heap.update p f).get? p = some { cls:=.type "list",data:=.seq its'.toArray n' }:=by
  rw [Heap.get?_update_self f ho (by rw [hf] <;> rfl),hf]
 refine I.write (x:=p) (e:=p) (by rw [h]; trivial) (.inl rfl) (fun b u hb q=>(Heap.get?_update_other _ _ (Ne.symm hb)).trans q) ⟨_,e⟩ ?_
 exact ⟨hz,its',n',r,e⟩
noncomputable def rSetL:V->V->V->Hp->(Hp->Prop)->Prop:=fun o i v H Q=>∃ p xs k j,o = .ref p∧i = .int k∧H p = some (.lst xs)∧ixN xs.length k = some j∧Q (upd H p (.lst (xs.set j v)))
theorem set_list:PSet X rSetL:=by
 intro pins s σ H o i v ov iv u Q I ro ri rv h
 obtain ⟨p,xs,k,j,rfl,rfl,hp,hj,q⟩:=h
 cases ro
 obtain ⟨t,rfl⟩:=ri
 obtain ⟨its,n,r,ho,hz⟩:=I.lst hp
 obtain ⟨h1,h2,h3,h4⟩:=zfS hj
 have hl:=r.length
 have hn:=line63
 have I':Inv X pins σ (upd H p (.lst (xs.set j v))) { s with heap:=s.heap.update p (Obj.mapSeq (·.setIfInBounds j u)) } :=
  I.lstUpd hp ho (ze7 its n j u) (r.set rv j) (by rw [List.length_set]; exact hz) s.toks
 by_cases h0:0 ≤ k
 ·have hk:k.toNat = j:=by
   rw [seqIndex_of h0 h4] at h1
   exact Option.some.inj h1
  exact PySem.W.ki_setAt ho h0 (by omega) (by rw [List.size_toArray,← hl]; exact h4) (by rw [hk]; exact ⟨_,I',q⟩)
 ·have hk:(k + (its.toArray.size:Int)).toNat = j:=by
   rw [seqIndex_neg (by omega) h3] at h1
   rw [List.size_toArray,← hl]
   exact Option.some.inj h1
  exact PySem.W.ki_setBack ho (by omega) (by rw [List.size_toArray,← hl]; exact h3) (by omega) (by rw [hk]; exact ⟨_,I',q⟩)
theorem zdX (lo hi:Option Int) (n:Nat):(sliceBounds lo hi none n).1 = ((HT.sIx n 0 lo:Nat):Int)∧(sliceBounds lo hi none n).2.1 = ((HT.sIx n n hi:Nat):Int)∧(sliceBounds lo hi none n).2.2 = 1:=by
 refine ⟨?_,?_,rfl⟩
 ·cases lo with
  | none=>simp [sliceBounds,HT.sIx]
  | some i =>
   simp only [sliceBounds,HT.sIx,Option.getD_none,show (1:Int) > 0 by decide,if_true]
   by_cases h:i < 0
   ·simp only [h,if_true] <;> omega
   ·simp only [h,if_false] <;> omega
 ·cases hi with
  | none=>simp [sliceBounds,HT.sIx]
  | some i =>
   simp only [sliceBounds,HT.sIx,Option.getD_none,show (1:Int) > 0 by decide,if_true]
   by_cases h:i < 0
   ·simp only [h,if_true] <;> omega
   ·simp only [h,if_false] <;> omega
theorem zdz (its:List Value) (lo hi:Option Int):slicePick its.toArray lo hi none = ((its.drop (HT.sIx its.length 0 lo)).take (HT.sIx its.length its.length hi - HT.sIx its.length 0 lo)).toArray:=by
 obtain ⟨h1,h2,h3⟩:=zdX lo hi its.toArray.size
 unfold slicePick
 rw [h1,h2,h3]
 simp only [sliceRange_one,pick_run,List.size_toArray] <;> rfl
noncomputable def rSlL (K:PySem.W.Frag):V->Option Int->Option Int->Hp->VK->Prop:=fun x lo hi H Q=>∃ a xs,x = .ref a∧SqL K H a xs∧∀ p,H p = none->Q (.ref p) (upd H p (.lst (cutV xs lo hi)))
theorem sl_list:SlR X (rSlL X.K):=by
 intro pins s σ H x v vl vu lo hi sl Q I rx hs pl pu h
 obtain ⟨a,xs,rfl,hx,q⟩:=h
 cases rx
 obtain ⟨its,r,ht,hz⟩:=I.list hx
 have hlen:=r.length
 refine ⟨"list",_,slot_list_getitem.lookup,ht.isList.typeIs,?_⟩
 refine wpAny_getItem_list_slice ht.isList hs pl pu .none (by simp) ?_ (by rw [List.size_toArray] <;> omega)
 rw [zdz,← hlen]
 refine ⟨.ref s.heap.objs.size,_,I.laid (t':=s.toks) (o:=.lst (cutV xs lo hi)) (fun b ob q=>Heap.get?_push_of_some _ q) (Nat.le_refl _) ?_,rfl,q _ (I.hok.fresh (Nat.le_refl _))⟩
 exact ⟨Nat.le_trans (zcR xs lo hi) hz,_,0,(r.drop (HT.sIx xs.length 0 lo)).take (HT.sIx xs.length xs.length hi - HT.sIx xs.length 0 lo),Heap.get?_push_size _ rfl⟩
noncomputable def flatV:V->Bool
 | .non=>true
 | .bl _=>true
 | .int _=>true
 | .str _=>true
 | _=>false
noncomputable def eqV:V->V->Bool
 | .non,.non=>true
 | .bl a,.bl b=>a == b
 | .bl a,.int b=>(if a then 1 else 0) == b
 | .int a,.bl b=>a == (if b then 1 else 0)
 | .int a,.int b=>a == b
 | .str a,.str b=>a == b
 | _,_=>false
theorem zhE {A:Around} {s:Shared} {y x:V} {u v:Value} (ry:RelV y u) (rx:RelV x v) (fy:flatV y = true) (fx:flatV x = true):SeqAt.EqAt A s u v (eqV y x):=by
 cases y with
 | non =>
  cases ry
  cases x with
  | non=>cases rx; exact SeqAt.EqAt.same _
  | bl b=>cases rx; exact SeqAt.EqAt.none_bool b
  | int b=>obtain ⟨t,rfl⟩:=rx; exact SeqAt.EqAt.none_int b t
  | str b=>obtain ⟨t,rfl⟩:=rx; exact SeqAt.EqAt.none_str b t
  | _=>exact absurd (show false = true from fx) Bool.false_ne_true
 | bl a =>
  cases ry
  cases x with
  | non=>cases rx; exact SeqAt.EqAt.bool_none a
  | bl b=>cases rx; exact SeqAt.EqAt.bool_bool a b
  | int b=>obtain ⟨t,rfl⟩:=rx; exact SeqAt.EqAt.bool_int a b t
  | str b=>obtain ⟨t,rfl⟩:=rx; exact SeqAt.EqAt.bool_str a b t
  | _=>exact absurd (show false = true from fx) Bool.false_ne_true
 | int a =>
  obtain ⟨t',rfl⟩:=ry
  cases x with
  | non=>cases rx; exact SeqAt.EqAt.int_none a t'
  | bl b=>cases rx; exact SeqAt.EqAt.int_bool a t' b
  | int b=>obtain ⟨t,rfl⟩:=rx; exact SeqAt.EqAt.int_int a t' b t
  | str b=>obtain ⟨t,rfl⟩:=rx; exact SeqAt.EqAt.int_str a t' b t
  | _=>exact absurd (show false = true from fx) Bool.false_ne_true
 | str a =>
  obtain ⟨t',rfl⟩:=ry
  cases x with
  | non=>cases rx; exact SeqAt.EqAt.str_none a t'
  | bl b=>cases rx; exact SeqAt.EqAt.str_bool a t' b
  | int b=>obtain ⟨t,rfl⟩:=rx; exact SeqAt.EqAt.str_int a t' b t
  | str b=>obtain ⟨t,rfl⟩:=rx; exact SeqAt.EqAt.str_str a t' b t
  | _=>exact absurd (show false = true from fx) Bool.false_ne_true
 | _=>exact absurd (show false = true from fy) Bool.false_ne_true
noncomputable def eqU (x:V) (u:Value):Bool:=match u with
 | .none=>eqV .non x
 | .bool b=>eqV (.bl b) x
 | .int i _=>eqV (.int i) x
 | .str z _=>eqV (.str z) x
 | _=>false
theorem zhr {x y:V} {u:Value} (r:RelV y u) (f:flatV y = true):eqU x u = eqV y x:=by
 cases y with
 | non=>cases r; rfl
 | bl b=>cases r; rfl
 | int i=>obtain ⟨t,rfl⟩:=r; rfl
 | str z=>obtain ⟨t,rfl⟩:=r; rfl
 | _=>exact absurd (show false = true from f) Bool.false_ne_true
theorem zcH {x:V}:∀ {xs:List V} {us:List Value},Vals xs us->xs.all flatV = true->us.any (eqU x) = xs.any fun y=>eqV y x
 | _,_,.nil,_=>rfl
 | y :: xs,u :: us,.cons r t,f=>by
  rw [List.all_cons,Bool.and_eq_true] at f
  rw [List.any_cons,List.any_cons,zhr r f.1,zcH t f.2]
theorem zb1 {A:Around} {s:Shared} {x:V} {v:Value} (rx:RelV x v) (fx:flatV x = true):∀ {xs:List V} {us:List Value},Vals xs us->xs.all flatV = true->∀ u ∈ us,SeqAt.EqAt A s u v (eqU x u)
 | _,_,.nil,_=>fun u hu=>by cases hu
 | y :: xs,u :: us,.cons r t,f=>fun u' hu=>by
  rw [List.all_cons,Bool.and_eq_true] at f
  rcases List.mem_cons.mp hu with rfl | hu
  ·rw [zhr r f.1]; exact zhE r rx f.1 fx
  ·exact zb1 rx fx t f.2 u' hu
noncomputable def inV (x:V) (xs:List V):Bool:=xs.any fun y=>eqV y x
noncomputable def rIn (K:PySem.W.Frag) (neg:Bool):R2:=fun x y H Q=>∃ p xs,y = .ref p∧(SqL K H p xs ∨ SqT K H p xs)∧flatV x = true∧xs.all flatV = true∧Q (.bl (if neg then !inV x xs else inV x xs)) H
theorem op_in_seq:OpR X (compareOp .In) (rIn X.K false):=by
 intro pins s σ H x y v u Q I rx ry h
 obtain ⟨p,xs,rfl,hq,fx,fs,q⟩:=h
 cases ry
 rcases hq with hq | hq
 ·obtain ⟨its,r,pl,hz⟩:=I.list hq
  refine SeqAt.in_listAt (eqU x) pl.isList (fun w hw=>zb1 rx fx r fs w (by simpa using hw)) ⟨.bl _,H,I,rfl,?_⟩
  rw [show its.toArray.any (eqU x) = its.any (eqU x) by simp,zcH r fs]
  exact q
 ·obtain ⟨its,r,pl,hz⟩:=I.tuple hq
  refine SeqAt.in_tupleAt (eqU x) pl (fun w hw=>zb1 rx fx r fs w (by simpa using hw)) ⟨.bl _,H,I,rfl,?_⟩
  rw [show its.toArray.any (eqU x) = its.any (eqU x) by simp,zcH r fs]
  exact q
theorem op_notIn_seq:OpR X (compareOp .NotIn) (rIn X.K true):=by
 intro pins s σ H x y v u Q I rx ry h
 obtain ⟨p,xs,rfl,hq,fx,fs,q⟩:=h
 cases ry
 rcases hq with hq | hq
 ·obtain ⟨its,r,pl,hz⟩:=I.list hq
  refine SeqAt.notIn_listAt (eqU x) pl.isList (fun w hw=>zb1 rx fx r fs w (by simpa using hw)) ⟨.bl _,H,I,rfl,?_⟩
  rw [show its.toArray.any (eqU x) = its.any (eqU x) by simp,zcH r fs]
  exact q
 ·obtain ⟨its,r,pl,hz⟩:=I.tuple hq
  refine SeqAt.notIn_tupleAt (eqU x) pl (fun w hw=>zb1 rx fx r fs w (by simpa using hw)) ⟨.bl _,H,I,rfl,?_⟩
  rw [show its.toArray.any (eqU x) = its.any (eqU x) by simp,zcH r fs]
  exact q
theorem op_notIn_str:OpR X (compareOp .NotIn) (fun x y H Q=>∃ i j,x = .str i∧y = .str j∧Q (.bl (!(!(Builtin.Str.occurrences j i 0 j.length 1).isEmpty))) H):=by
 intro pins s σ H x y v u Q I rx ry h
 obtain ⟨i,j,rfl,rfl,q⟩:=h
 obtain ⟨t,rfl⟩:=rx
 obtain ⟨t',rfl⟩:=ry
 exact notIn_str ⟨.bl _,H,I,rfl,q⟩
theorem call_tuple_of:zb9 X (.type "tuple") (fun xs H Q=>∃ p ys,xs = [.ref p]∧((SqL X.K H p ys∧∀ l,H l = none->Q (.ref l) (upd H l (.tup ys))) ∨ (SqT X.K H p ys∧Q (.ref p) H))):=by
 intro pins s σ H xs us Q I r h
 obtain ⟨p,ys,rfl,h⟩:=h
 obtain ⟨u,rfl,rx⟩:=zdE r
 cases rx
 rcases h with ⟨hq,q⟩ | ⟨hq,q⟩
 ·obtain ⟨its,r',pl,hz⟩:=I.list hq
  have hlen:=r'.length
  refine call_tuple_list pl.isList (fun h' kp=>?_) (by simp only [List.size_toArray] <;> omega)
  have I1:Inv X pins σ H { s with heap:=h' }:=I.kept (t':=s.toks) kp
  have I2:Inv X pins σ (upd H h'.objs.size (.tup ys)) { s with heap:=h'.push { cls:=.type "tuple",data:=.seq its.toArray } } :=
   I1.laid (t':=s.toks) (fun b o e=>Heap.get?_push_of_some _ e) (Nat.le_refl _) (show za5 X.prog X.w _ _ _ (.tup ys) from ⟨hz,its,r',IsTup.new _ _⟩)
  exact ⟨.ref h'.objs.size,_,I2,rfl,q _ (I1.hok.fresh (Nat.le_refl _))⟩
 ·obtain ⟨its,r',pl,hz⟩:=I.tuple hq
  exact call_tuple_same pl ⟨.ref p,H,I,rfl,q⟩
noncomputable def tyV (K:PySem.W.Frag) (T:String) (x:V) (H:Hp):Prop:=match x with
 | .str _=>T = "str"
 | .int _=>T = "int"
 | .ref p=>(T = "list"∧∃ xs,SqL K H p xs) ∨ (T = "tuple"∧∃ o,K.lookup p = some o∧o.cls = .type "tuple"∧o.dict = none) ∨
   (T = "dict"∧((∃ kvs,H p = some (.dK kvs)) ∨ ∃ kvs,H p = some (.dT kvs))) ∨ (T = "set"∧∃ S n,H p = some (.set S n))
 | _=>False
theorem zhy {pins:List (Addr × Obj)} {σ:St} {H:Hp} {s:Shared} {T:String} {x:V} {v:Value} (I:Inv X pins σ H s) (r:RelV x v) (ty:tyV X.K T x H) :
  s.TypeIs v T∧∀ a,v = .ref a->∃ ob,s.heap.get? a = some ob∧ob.dict = none:=by
 cases x with
 | str z =>
  obtain ⟨t,rfl⟩:=r
  cases (show T = "str" from ty)
  exact ⟨typeIs_str s z t,fun _ e=>nomatch e⟩
 | int i =>
  obtain ⟨t,rfl⟩:=r
  cases (show T = "int" from ty)
  exact ⟨typeIs_int s i t,fun _ e=>nomatch e⟩
 | ref p =>
  cases r
  rcases ty with ⟨rfl,xs,hq⟩ | ⟨rfl,o,hk,hc,hd⟩ | ⟨rfl,hk⟩ | ⟨rfl,S,n,hk⟩
  ·obtain ⟨its,_,pl,_⟩:=I.list hq
   refine ⟨pl.isList.typeIs,fun a e=>?_⟩
   cases e
   obtain ⟨o,n,e,c,hd,_⟩:=pl
   exact ⟨o,e,hd⟩
  ·refine ⟨⟨o,I.kIn p o hk,hc⟩,fun a e=>?_⟩
   cases e
   exact ⟨o,I.kIn _ o hk,hd⟩
  ·have z:∃ o,s.heap.get? p = some o∧o.ExactDict:=by
    rcases hk with ⟨kvs,hk⟩ | ⟨kvs,hk⟩
    ·obtain ⟨_,_,_,_,o,_,_,e,ex,_⟩:=I.hok p _ hk
     exact ⟨o,e,ex⟩
    ·obtain ⟨_,_,_,_,o,_,_,e,ex,_⟩:=I.hok p _ hk
     exact ⟨o,e,ex⟩
   obtain ⟨o,e,ex⟩:=z
   refine ⟨⟨o,e,ex.1⟩,fun a e2=>?_⟩
   cases e2
   exact ⟨o,e,ex.2.1⟩
  ·obtain ⟨o,_,_,_,e,ex,_⟩:=I.hok p _ hk
   refine ⟨⟨o,e,ex.1⟩,fun a e2=>?_⟩
   cases e2
   exact ⟨o,e,ex.2.1⟩
 | _=>exact False.elim ty
noncomputable def tBM0 (K:PySem.W.Frag) (T:String) (r:V->List V->Hp->VK->Prop) (to:TE):TE:=fun σ H Q=>to σ H fun x H1=>tyV K T x H1∧r x [] H1 Q
noncomputable def tBM (K:PySem.W.Frag) (T:String) (r:V->List V->Hp->VK->Prop) (to:TE) (t:TA):TE:=fun σ H Q=>to σ H fun x H1=>tyV K T x H1∧t σ H1 fun xs H2=>r x xs H2 Q
variable {o e:Expr} {es:List Expr} {to:TE} {t:TA} {name:Str} {apos cpos:Pos} {T id:String} {r:V->List V->Hp->VK->Prop}
theorem zjh (pa:PlainAttrs T) (slot:Slot T name id) (hty:typeOf (.builtin id) = pure (.type "method_descriptor")) (hm:MtR X id r) (ho:PE X o to)
  (hbase:attributeBase o name X.env (eval o X.env) = eval o X.env:=by rfl) (hline:(apos.endLine == cpos.line) = true:=by rfl):PE X (.Call (.Attribute o name apos) [] [] cpos) (tBM0 X.K T r to):=by
 intro pins s σ H Q I h
 refine wpAny_Call_method0_late hbase hline (thn (ho pins s σ H _ I h) fun v s1 zq_=>?_)
 obtain ⟨x,H1,I1,r1,ty,q1⟩:=zq_
 obtain ⟨h1,h2⟩:=zhy I1 r1 ty
 exact ⟨T,id,pa,slot,hty,h1,h2,Calls.callWith_builtin rfl (PySem.evalArgs_none (hm pins s1 σ H1 x [] v [] Q I1 r1 .nil q1))⟩
theorem zaR (pa:PlainAttrs T) (slot:Slot T name id) (hty:typeOf (.builtin id) = pure (.type "method_descriptor")) (hm:MtR X id r) (ho:PE X o to) (ha:PA X (e :: es) t)
  (hbase:attributeBase o name X.env (eval o X.env) = eval o X.env:=by rfl)
  (hfew:((backTo cpos (starEach (e :: es) X.env)).all (fun x=>!x.1) && (backToKw cpos (keywordEach [] X.env)).all (fun x=>x.1.isSome)
   && decide ((e :: es).length + ([]:List Keyword).length + (if ([]:List Keyword).isEmpty then 0 else 1) < 30)) = true:=by rfl)
  (hline:(apos.endLine == cpos.line) = true:=by rfl) (hs:starEach (e :: es) X.env = (false,eval e X.env) :: starEach es X.env:=by rfl) (hplain:(backTo cpos (starEach es X.env)).any (·.1) = false:=by rfl) :
  PE X (.Call (.Attribute o name apos) (e :: es) [] cpos) (tBM X.K T r to t):=by
 intro pins s σ H Q I h
 refine wpAny_Call_method_late hbase hfew hline rfl (thn (ho pins s σ H _ I h) fun v s1 zq_=>?_)
 obtain ⟨x,H1,I1,r1,ty,q1⟩:=zq_
 obtain ⟨h1,h2⟩:=zhy I1 r1 ty
 refine ⟨T,id,pa,slot,hty,h1,h2,?_⟩
 have hA:=ha cpos pins s1 σ H1 _ I1 q1
 rw [hs] at hA ⊢
 refine Calls.callWith_builtin (by show (false || (backTo cpos (starEach es X.env)).any (·.1)) = false; rw [hplain] <;> rfl) (Calls.evalArgs_plain ?_)
 exact thn hA fun us s2 ⟨vs,H2,I2,r2,q2⟩=>hm pins s2 σ H2 x vs v us Q I2 r1 r2 q2
/- xs.append(e),list.index on a module's tuple .. are MtR facts of 06m -/
end
end L2
namespace L2
open PySem PySem.Spec PyProof.Rows
noncomputable def MtM (X:Cx) (id:String) (r:V->List V->Hp->VK->Prop):Prop :=
 ∀ (pins:List (Addr × Obj)) (s:Shared) (σ:St) (H:Hp) (x:V) (xs:List V) (v:Value) (us:List Value) (Q:VK),Inv X pins σ H s->RelV x v->Vals xs us->r x xs H Q ->
  wpAny (model X.prog X.w) X.A (call (.builtin id) (v :: us)) (EP X pins σ Q) X.xe s
theorem Vals.one:∀ {x:V} {us:List Value},Vals [x] us->∃ u,us = [u]∧RelV x u
 | _,_,.cons r .nil=>⟨_,rfl,r⟩
theorem Vals.two:∀ {x y:V} {us:List Value},Vals [x,y] us->∃ u v,us = [u,v]∧RelV x u∧RelV y v
:=by
 intro x y us h
 cases h with
 | cons r t=>cases t with
  | cons q t=>cases t; exact ⟨_,_,rfl,r,q⟩
theorem Vals.rep {xs:List V} {us:List Value} (h:Vals xs us):∀ k:Nat,Vals (List.replicate k xs).flatten (List.replicate k us).flatten
 | 0=>.nil
 | k + 1=>by
  rw [List.replicate_succ,List.replicate_succ,List.flatten_cons,List.flatten_cons]
  exact Vals.append h (Vals.rep h k)
theorem zdS (its:List Value):∀ (k:Nat) (acc:List Value),
  List.foldl (fun x1 x2=>x1 ++ x2) acc.toArray (List.replicate k its.toArray) = (acc ++ (List.replicate k its).flatten).toArray
 | 0,acc=>by simp
 | k + 1,acc=>by
  have e:acc.toArray ++ its.toArray = (acc ++ its).toArray:=by simp
  have e2:(acc ++ its) ++ (List.replicate k its).flatten = acc ++ (List.replicate (k + 1) its).flatten:=by
   rw [List.replicate_succ,List.flatten_cons,List.append_assoc]
  rw [← e2,← zdS its k (acc ++ its),← e,List.replicate_succ,List.foldl_cons]
section
variable {X:Cx} {pins:List (Addr × Obj)} {σ:St} {H:Hp} {s:Shared} {l b:Addr} {xs ys zs:List V}
theorem Inv.lset {its its':List Value} {n:Nat} {f:Array Value->Array Value} {t':Nat} (I:Inv X pins σ H s) (hH:H l = some (.lst xs))
  (e:s.heap.get? l = some { cls:=.type "list",data:=.seq its.toArray n }) (hf:f its.toArray = its'.toArray) (hv:Vals ys its') (hz:ys.length ≤ sizeLine) :
  Inv X pins σ (upd H l (.lst ys)) { s with heap:=s.heap.update l (Obj.mapSeq f),toks:=t' }:=by
 have q:=PySem.IsL.update e f
 rw [hf] at q
 refine I.write (x:=l) (e:=l) (by rw [hH]; exact trivial) (.inl rfl) (fun b' u hb hu=>(Heap.get?_update_other s.heap (Obj.mapSeq f) (Ne.symm hb)).trans hu) ⟨_,q⟩ ?_
 exact ⟨hz,its',_,hv,q⟩
theorem Inv.lnew {its:List Value} {t':Nat} (I:Inv X pins σ H s) (hv:Vals ys its) (hz:ys.length ≤ sizeLine) :
  Inv X pins σ (upd H s.heap.objs.size (.lst ys)) { s with heap:=s.heap.push { cls:=.type "list",data:=.seq its.toArray },toks:=t' } :=
 I.laid (fun _ _ q=>Heap.get?_push_of_some _ q) (Nat.le_refl _) ⟨hz,its,0,hv,Heap.get?_push_size _ rfl⟩
theorem Inv.fresh (I:Inv X pins σ H s):H s.heap.objs.size = none:=I.hok.fresh (Nat.le_refl _)
theorem Inv.lstM (I:Inv X pins σ H s) (hH:H l = some (.lst xs)):xs.length ≤ sizeLine∧∃ (its:List Value) (n:Nat),Vals xs its∧xs.length = its.length∧s.heap.get? l = some { cls:=.type "list",data:=.seq its.toArray n }:=by
 obtain ⟨z,its,n,r,e⟩:=I.hok l _ hH
 exact ⟨z,its,n,r,r.length,e⟩
theorem zhp {n:Nat} (h:n ≤ sizeLine):Builtin.List.listTooLong n = false:=by
 unfold Builtin.List.listTooLong
 exact decide_eq_false (by omega)
end
section
variable {X:Cx}
noncomputable def rAppend:V->List V->Hp->VK->Prop:=fun x vs H Q=>∃ l xs y,x = .ref l∧vs = [y]∧H l = some (.lst xs)∧xs.length < sizeLine∧Q .non (upd H l (.lst (xs ++ [y])))
theorem mt_append:MtM X "list.append" rAppend:=by
 intro pins s σ H x vs v us Q I rx rv h
 obtain ⟨l,xs,y,rfl,rfl,hH,hz,q⟩:=h
 cases rx
 obtain ⟨u,rfl,ru⟩:=rv.one
 obtain ⟨z,its,n,r,hl,e⟩:=I.lstM hH
 refine call_meets F.slot_list_append ⟨_,e,rfl⟩ F.entry_list_append (F.args_list_append_2 _ _) (PySem.list_append l its.toArray n u (by rw [List.size_toArray]; omega)) ⟨e,?_⟩
 refine ⟨.non,_,I.lset (its':=its ++ [u]) hH e (by simp) (r.append (.cons ru .nil)) ?_,rfl,q⟩
 rw [List.length_append,List.length_singleton]
 omega
noncomputable def rCat:R2:=fun x y H Q=>∃ l b xs zs,x = .ref l∧y = .ref b∧H l = some (.lst xs)∧H b = some (.lst zs)∧xs.length + zs.length ≤ sizeLine∧∀ p,H p = none->Q (.ref p) (upd H p (.lst (xs ++ zs)))
theorem op_cat:OpR X (binaryOp .Add) rCat:=by
 intro pins s σ H x y v u Q I rx ry h
 obtain ⟨l,b,xs,zs,rfl,rfl,hH,hB,hz,q⟩:=h
 cases rx
 cases ry
 obtain ⟨z,its,n,r,hl,e⟩:=I.lstM hH
 obtain ⟨z2,its2,n2,r2,hl2,e2⟩:=I.lstM hB
 refine PySem.P.add_list e e2 ?_ (by rw [List.size_toArray,List.size_toArray]; omega)
 have ea:its.toArray ++ its2.toArray = (its ++ its2).toArray:=by simp
 rw [ea]
 exact ⟨.ref _,_,I.lnew (t':=s.toks) (r.append r2) (by rw [List.length_append]; omega),rfl,q _ I.fresh⟩
noncomputable def rRep:R2:=fun x y H Q=>∃ l k xs,x = .ref l∧y = .int k∧H l = some (.lst xs)∧-(2 ^ 63) ≤ k∧k < 2 ^ 63∧xs.length * k.toNat ≤ sizeLine ∧
 ∀ p,H p = none->Q (.ref p) (upd H p (.lst (List.replicate k.toNat xs).flatten))
theorem ziy {α:Type} (xs:List α) (k:Nat):(List.replicate k xs).flatten.length = k * xs.length:=by
 induction k with
 | zero=>simp
 | succ k ih=>rw [List.replicate_succ,List.flatten_cons,List.length_append,ih,Nat.succ_mul,Nat.add_comm]
theorem op_rep:OpR X (binaryOp .Mult) rRep:=by
 intro pins s σ H x y v u Q I rx ry h
 obtain ⟨l,k,xs,rfl,rfl,hH,h1,h2,hz,q⟩:=h
 cases rx
 obtain ⟨t,rfl⟩:=ry
 obtain ⟨z,its,n,r,hl,e⟩:=I.lstM hH
 have hlen:its.toArray.size * k.toNat ≤ sizeLine:=by rw [List.size_toArray,← hl]; exact hz
 have hcap:¬ its.toArray.size * k.toNat > (2 ^ 63 - 1) / 8:=by
  have:(sizeLine:Nat) ≤ (2 ^ 63 - 1) / 8:=by decide
  omega
 have hfit:¬ (!Builtin.List.listFitsIndex k) = true:=by
  rw [fitsIndex_both h1 h2]
  exact Bool.false_ne_true
 have hlong:¬ Builtin.List.listTooLong (its.toArray.size * k.toNat) = true:=by
  rw [zhp hlen]
  exact Bool.false_ne_true
 have hnew:List.foldl (fun x1 x2=>x1 ++ x2) #[] (List.replicate (if its.toArray.isEmpty = true then 0 else k.toNat) its.toArray) = (List.replicate k.toNat its).flatten.toArray:=by
  have f0:∀ m:Nat,List.foldl (fun x1 x2=>x1 ++ x2) #[] (List.replicate m its.toArray) = (List.replicate m its).flatten.toArray:=fun m=>by
   have:=zdS its m []
   rw [List.nil_append] at this
   exact this
  rw [f0]
  cases its with
  | nil=>simp
  | cons a r'=>rw [if_neg (by simp)]
 refine wpAny_binaryOp_repeat_ref (T:="list") (U:="int") (by decide) ⟨_,e,rfl⟩ (fun s'=>typeIs_int s' k t) noFill_list_mul F.fills_int_mul F.slot_int_rmul repeat_list F.slot_int_index.lookup
  (call_meets F.slot_int_rmul (typeIs_int s k t) F.entry_int_rmul (F.args_int_rmul_2 _ _) (int___rmul___int_list k t l its.toArray n)
   ⟨e,rfl,⟨_,e,rfl⟩,call_meets F.slot_list_mul ⟨_,e,rfl⟩ F.entry_list_mul (F.args_list_mul_2 _ _) (AutoListH.list___mul___list_int_3 l its.toArray n k t hfit hcap hlong) ⟨e,?_⟩⟩)
 rw [hnew]
 exact ⟨.ref _,_,I.lnew (t':=s.toks) (r.rep k.toNat) (by rw [ziy,Nat.mul_comm]; exact hz),rfl,q _ I.fresh⟩
end
section
variable {prog:Program} {w:World} {A:Around} {E:Value->Shared->Prop} {s:Shared}
end
section
variable {X:Cx}
end
end L2
namespace L2
open PySem PySem.Spec PyProof.Rows
section
variable {κ:Type} [DecidableEq κ]
noncomputable def valV (kvs:List (κ × V)) (k:κ):Option V:=(kvs.find? fun kv=>decide (kv.1 = k)).map (·.2)
noncomputable def putK (kvs:List (κ × V)) (k:κ) (v:V):List (κ × V) :=
 if (kvs.any fun kv=>decide (kv.1 = k)) = true then kvs.map (fun kv=>if kv.1 = k then (kv.1,v) else kv) else kvs ++ [(k,v)]
theorem zdA {p:κ × V} {r:List (κ × V)} {k:κ} (e:p.1 = k):valV (p :: r) k = some p.2:=by simp [valV,List.find?_cons,e]
theorem zdw {p:κ × V} {r:List (κ × V)} {k:κ} (e:¬ p.1 = k):valV (p :: r) k = valV r k:=by simp [valV,List.find?_cons,e]
theorem zeY (k:κ):∀ kvs:List (κ × V),(kvs.any fun kv=>decide (kv.1 = k)) = (valV kvs k).isSome
 | []=>rfl
 | p :: r=>by
  rw [List.any_cons]
  by_cases e:p.1 = k
  ·simp only [zdA e,decide_eq_true e,Bool.true_or,Option.isSome_some]
  ·rw [zdw e,decide_eq_false e,Bool.false_or]; exact zeY k r
theorem zcJ (kvs:List (κ × V)) (k:κ) (v:V):(putK kvs k v).length ≤ kvs.length + 1:=by
 unfold putK
 split
 ·rw [List.length_map]; omega
 ·rw [List.length_append,List.length_cons,List.length_nil]; omega
theorem RelO.getD {o:Option V} {u:Option Value} {d:V} {d':Value} (r:RelO o u) (rd:RelV d d'):RelV (o.getD d) (u.getD d'):=by
 cases o with
 | none=>cases u with
  | none=>exact rd
  | some _=>exact (show False from r).elim
 | some _=>cases u with
  | none=>exact (show False from r).elim
  | some _=>exact r
theorem KV.val {kvs:List (κ × V)} {vs:List (κ × Value)} (r:KV kvs vs) (k:κ):RelO (valV kvs k) (valueAt vs k):=by
 unfold KV at r
 induction r with
 | nil=>exact True.intro
 | @cons p q ps qs h t ih =>
  obtain ⟨h1,h2⟩:=h
  by_cases e:p.1 = k
  ·have e':q.1 = k:=h1.symm.trans e
   have b:valueAt (q :: qs) k = some q.2:=by simp [valueAt,List.find?_cons,e']
   rw [zdA e,b]; exact h2
  ·have e':¬ q.1 = k:=fun z=>e (h1.trans z)
   have b:valueAt (q :: qs) k = valueAt qs k:=by simp [valueAt,List.find?_cons,e']
   rw [zdw e,b]; exact ih
theorem KV.any {kvs:List (κ × V)} {vs:List (κ × Value)} (r:KV kvs vs) (k:κ):(kvs.any fun kv=>decide (kv.1 = k)) = vs.any fun kv=>decide (kv.1 = k):=by
 unfold KV at r
 induction r with
 | nil=>rfl
 | cons h t ih=>rw [List.any_cons,List.any_cons,ih,h.1]
theorem KV.repl {kvs:List (κ × V)} {vs:List (κ × Value)} (r:KV kvs vs) (k:κ) {y:V} {u:Value} (ry:RelV y u) :
  KV (kvs.map fun kv=>if kv.1 = k then (kv.1,y) else kv) (vs.map fun kv=>if kv.1 = k then (kv.1,u) else kv):=by
 unfold KV at r ⊢
 induction r with
 | nil=>exact .nil
 | @cons p q ps qs h t ih =>
  rw [List.map_cons,List.map_cons]
  refine .cons ?_ ih
  obtain ⟨h1,h2⟩:=h
  by_cases e:p.1 = k
  ·rw [if_pos e,if_pos (h1.symm.trans e)]; exact ⟨h1,ry⟩
  ·rw [if_neg e,if_neg (fun z=>e (h1.trans z))]; exact ⟨h1,h2⟩
theorem KV.put {kvs:List (κ × V)} {vs:List (κ × Value)} (r:KV kvs vs) (k:κ) {y:V} {u:Value} (ry:RelV y u):KV (putK kvs k y) (stored vs k u):=by
 unfold putK stored
 rw [r.any k]
 by_cases e:(vs.any fun kv=>decide (kv.1 = k)) = true
 ·rw [if_pos e,if_pos e]; exact r.repl k ry
 ·rw [if_neg e,if_neg e]; exact Paired.snoc r ⟨rfl,ry⟩
theorem KV.length {kvs:List (κ × V)} {vs:List (κ × Value)} (r:KV kvs vs):kvs.length = vs.length:=Paired.length r
end
theorem zf7 {P:Program} {w:World} {k:Key} {u:Value} (r:RelV (kV k) u):(zaJ P w).is k u = true:=by
 cases k with
 | inl i=>obtain ⟨t,e⟩:=(show ∃ t,u = Value.int i t from r); subst e; exact zei P w i t
 | inr x=>obtain ⟨t,e⟩:=(show ∃ t,u = Value.str x t from r); subst e; exact zeb P w x t
theorem zdM {P:Program} {w:World}:∀ {ks:List Key} {us:List Value},Vals (ks.map kV) us->ItemsAre (zaJ P w) ks us
 | [],_,r=>by rw [List.map_nil] at r; cases r; exact .nil
 | k :: ks,_,r=>by
  rw [List.map_cons] at r
  cases r with
  | cons h t=>exact .cons (zf7 h) (zdM t)
abbrev KT (H:Hp):List (List Key × V)->List (List Key × Addr × Value)->Prop:=Paired fun p q=>p.1 = q.1∧H q.2.1 = some (.tup (p.1.map kV))∧RelV p.2 q.2.2
theorem KT.val {H:Hp} {kvs:List (List Key × V)} {xs:List (List Key × Addr × Value)} (r:KT H kvs xs) (k:List Key):RelO (valV kvs k) ((atKey xs k).map (·.2)):=by
 induction r with
 | nil=>exact True.intro
 | @cons p q ps qs h t ih =>
  obtain ⟨h1,_,h2⟩:=h
  by_cases e:p.1 = k
  ·have e':q.1 = k:=h1.symm.trans e
   have b:atKey (q :: qs) k = some q.2:=by simp [atKey,List.find?_cons,e']
   rw [zdA e,b]; exact h2
  ·have e':¬ q.1 = k:=fun z=>e (h1.trans z)
   have b:atKey (q :: qs) k = atKey qs k:=by simp [atKey,List.find?_cons,e']
   rw [zdw e,b]; exact ih
section
variable {P:Program} {w:World} {H:Hp} {h:Heap} {a:Addr}
theorem zjm {u:HO} (ok:HOk P w H h) (e:Rd H a u):za5 P w H h a u:=e.ok ok
theorem zfp {kvs:List (Key × V)} (ok:HOk P w H h) (e:Rd H a (.dK kvs)):kvs.length ≤ sizeLine∧(a == sysModules) = false∧∃ vs,KV kvs vs∧h.DictOf (zaJ P w) a vs :=
 show za5 P w H h a (.dK kvs) from zjm ok e
theorem zhl {kvs:List (Key × V)} (ok:HOk P w H h) (e:H a = some (.dK kvs)):kvs.length ≤ sizeLine∧(a == sysModules) = false∧∃ vs,KV kvs vs∧h.DictOf (zaJ P w) a vs:=zfp ok (.inl e)
theorem zfT {ks:List Key} (ok:HOk P w H h) (e:H a = some (.tup (ks.map kV))):(tupleKind (zaJ P w)).is h ks a:=by
 obtain ⟨_,its,r,o,h1,h2,n,h3⟩:=(show za5 P w H h a (.tup (ks.map kV)) from ok a _ e)
 exact ⟨o,its.toArray,n,h1,h2,h3,by simpa using zdM r⟩
theorem zho {kvs:List (List Key × V)} (ok:HOk P w H h) (e:Rd H a (.dT kvs)):kvs.length ≤ sizeLine∧(a == sysModules) = false ∧
  ∃ xs,KT H kvs xs∧h.DictOfH (tupleKind (zaJ P w)) a xs:=by
 obtain ⟨z,y,xs,r,o,es,ep,h1,h2,h3,h4,h5⟩:=(show za5 P w H h a (.dT kvs) from zjm ok e)
 refine ⟨z,y,xs,r,o,es,ep,h1,h2,h3,h4,fun x hx=>?_,h5⟩
 have all:∀ {l:List (List Key × V)} {m:List (List Key × Addr × Value)},KT H l m->∀ x ∈ m,(tupleKind (zaJ P w)).is h x.1 x.2.1:=by
  intro l m q
  induction q with
  | nil=>intro x hx; exact nomatch hx
  | @cons p q ps qs hq t ih =>
   intro x hx
   rcases List.mem_cons.mp hx with e | hx
   ·subst e
    exact zfT ok (by rw [← hq.1]; exact hq.2.1)
   ·exact ih x hx
 exact all r x hx
end
noncomputable def DGet (H:Hp) (a:Addr) (y:V) (r:Option V):Prop :=
 (∃ kvs k,Rd H a (.dK kvs)∧y = kV k∧r = valV kvs k) ∨ ∃ kvs k b,Rd H a (.dT kvs)∧y = .ref b∧H b = some (.tup (k.map kV))∧r = valV kvs k
noncomputable def DPut (H:Hp) (a:Addr) (y v:V) (H':Hp):Prop :=
 (∃ kvs k,H a = some (.dK kvs)∧y = kV k∧kvs.length < sizeLine∧H' = upd H a (.dK (putK kvs k v))) ∨
 ∃ kvs k b,H a = some (.dT kvs)∧y = .ref b∧H b = some (.tup (k.map kV))∧kvs.length < sizeLine∧H' = upd H a (.dT (putK kvs k v))
theorem DGet.k {H:Hp} {a:Addr} {kvs:List (Key × V)} {k:Key} (e:H a = some (.dK kvs)):DGet H a (kV k) (valV kvs k):=.inl ⟨kvs,k,.inl e,rfl,rfl⟩
section
variable {X:Cx} {pins:List (Addr × Obj)} {σ:St} {H:Hp} {s:Shared} {a:Addr} {y v:V} {u r:Value} {o:Option V} {A:Around} {E:Value->Shared->Prop}
theorem Inv.big (I:Inv X pins σ H s):sysModules < s.heap.objs.size:=by
 have h:mainGlobals < s.heap.objs.size:=(I.mod.glob.keeps I.bk).lt
 exact Nat.lt_trans (by decide) h
theorem zgw {Q:Value->Shared->Prop} (hu:A.units + 1 < cLine) (I:Inv X pins σ H s) (g:DGet H a y (some v)) (ry:RelV y u) (h:∀ w' s',Inv X pins σ H s'->RelV v w'->Q w' s') :
  wpAny (model X.prog X.w) A (getItem (.ref a) u) Q E s:=by
 rcases g with ⟨kvs,k,e,ey,l⟩ | ⟨kvs,k,b,e,ey,eb,l⟩
 ·subst ey
  obtain ⟨z,hd,vs,rel,dd⟩:=zfp I.hok e
  obtain ⟨w',hw,rw'⟩:=RelO.some_of (v:=v) (o:=valueAt vs k) (by rw [l]; exact rel.val k)
  exact wpAny_getItem_of (zf7 ry) dd.mapOf hw (h w' _ (I.tok _) rw')
 ·subst ey
  cases (show u = Value.ref b from ry)
  obtain ⟨z,hd,xs,rel,dd⟩:=zho I.hok e
  obtain ⟨w',hw,rw'⟩:=RelO.some_of (v:=v) (o:=(atKey xs k).map (·.2)) (by rw [l]; exact rel.val k)
  obtain ⟨p,hp,hp2⟩:=Option.map_eq_some_iff.mp hw
  refine wpAny_getItem_heap (tupleKind_room_in1 hu) (zfT I.hok eb) dd hp ?_
  rw [hp2]
  exact h w' _ (I.tok _) rw'
theorem zea {h':Heap} {t':Nat} {ob:HO} (I:Inv X pins σ H s) (mu:Mut (H a)) (hs:Heap.SameBut a s.heap h') (he:∃ q,h'.get? a = some q) (new:za5 X.prog X.w (upd H a ob) h' a ob) :
  Inv X pins σ (upd H a ob) { s with heap:=h',toks:=t' } :=
 I.write (x:=a) (e:=a) mu (.inl rfl) (fun b q hb z=>(hs.2 b hb).trans z) he new
theorem zfs {P:Program} {w:World} {H':Hp} {h':Heap} {kvs:List (Key × V)} {vs:List (Key × Value)} (z:kvs.length ≤ sizeLine) (hd:(a == sysModules) = false) (rel:KV kvs vs) (dd:h'.DictOf (zaJ P w) a vs) :
  za5 P w H' h' a (.dK kvs):=⟨z,hd,vs,rel,dd⟩
end
section
variable {X:Cx} {pins:List (Addr × Obj)} {σ:St} {H:Hp} {s:Shared} {a:Addr} {kvs:List (Key × V)} {k:Key} {u:Value} {A:Around} {E:Value->Shared->Prop}
end
noncomputable def NoSl (i:Expr):Prop:=∀ ov iv,subscripted i false ov iv = operate [ov,iv] (getItem ov iv)
theorem zh2 {prog:Program} {w:World} {A:Around} {E:Value->Shared->Prop} {s:Shared} {env:Env} {value slice:Expr} {pos:Pos} {T id:String} {Q:Value->Shared->Prop}
  (hl:typeLookup (.type T) "__getitem__" = pure (some (.builtin id))) (hs:NoSl slice)
  (h:wpAny (model prog w) A (eval value env) (fun o s₁=>wpAny (model prog w) A (eval slice env) (fun i s₂=>s₂.TypeIs o T∧wpAny (model prog w) A (getItem o i) Q E s₂) E s₁) E s) :
  wpAny (model prog w) A (eval (.Subscript value slice pos) env) Q E s:=by
 refine Subscript_ (wpAny_mono h (fun o s₁ h₁=>wpAny_mono h₁ (fun i s₂ h₂=>?_) fun _ _ x=>x) fun _ _ x=>x)
 obtain ⟨hT,h₂⟩:=h₂
 unfold subscriptTail
 refine wpAny_bind ?_
 rw [getitemInPython_of_ne hT.not_modules]
 refine wpAny_bind (wpAny_specialOf hT hl ?_)
 have fin:wpAny (model prog w) A (subscripted slice false o i) (fun r s₃=>wpAny (model prog w) A (letTemporaryGo value o r >>= fun _=>pure r) Q E s₃) E s₂:=by
  rw [hs o i]
  exact wpAny_operating (wpAny_mono h₂ (fun r s₃ h₃=>wpAny_bind (wpAny_letTemporaryGo (wpAny_pure h₃))) fun _ _ x=>x)
 first
  | exact wpAny_pure (wpAny_bind fin)
  | exact wpAny_bind (wpAny_pure (wpAny_bind fin))
  | exact wpAny_bind fin
theorem zen {X:Cx} {pins:List (Addr × Obj)} {σ:St} {H:Hp} {s:Shared} {a:Addr} {y:V} {o:Option V} (I:Inv X pins σ H s) (g:DGet H a y o):s.TypeIs (.ref a) "dict":=by
 rcases g with ⟨kvs,k,e,_,_⟩ | ⟨kvs,k,b,e,_,_,_⟩
 ·obtain ⟨_,_,vs,_,dd⟩:=zfp I.hok e
  exact dd.typeIs
 ·obtain ⟨_,_,xs,_,dd⟩:=zho I.hok e
  exact dd.typeIs
section
variable {X:Cx} {o i e value:Expr} {pos pos' tpos:Pos} {td ty tv:TE}
end
theorem zeI {P:Program} {w:World} {H:Hp} (h:Heap) (hb:sysModules < h.objs.size):za5 P w H (h.push { cls:=.type "dict",data:=.dict #[] }) h.objs.size (.dK []) :=
 ⟨Nat.zero_le _,beq_eq_false_iff_ne.mpr (Ne.symm (Nat.ne_of_lt hb)),[],.nil,Heap.DictOf.new h⟩
noncomputable def tDNewK:TE:=fun _ H Q=>∀ p,H p = none->Q (.ref p) (upd H p (.dK []))
section
variable {X:Cx} {pos:Pos}
end
noncomputable def tPairs:List (TE × TE)->St->Hp->(List (V × V)->Hp->Prop)->Prop
 | [],_,H,Q=>Q [] H
 | (tk,tv) :: r,σ,H,Q=>tk σ H fun x H1=>tv σ H1 fun y H2=>tPairs r σ H2 fun ps H3=>Q ((x,y) :: ps) H3
abbrev VV:List (V × V)->List (Value × Value)->Prop:=Paired fun p q=>RelV p.1 q.1∧RelV p.2 q.2
noncomputable def PPs (X:Cx) (pos:Pos) (keys:List (Option Expr)) (values:List Expr) (trs:List (TE × TE)):Prop :=
 ∀ (pins:List (Addr × Obj)) (s:Shared) (σ:St) (H:Hp) (Q:List (V × V)->Hp->Prop),Inv X pins σ H s->tPairs trs σ H Q ->
  wpAny (model X.prog X.w) X.A (evalPairs (pairTrees keys values X.env pos)) (fun vs s'=>∃ ps H',Inv X pins σ H' s'∧VV ps vs∧Q ps H') X.xe s
theorem zio {X:Cx} {pos:Pos}:PPs X pos [] [] []:=fun pins s σ H Q I h=>pairTrees_nil_walk ⟨[],H,I,.nil,h⟩
theorem zhq {X:Cx} {pos:Pos} {k v:Expr} {ks:List (Option Expr)} {vs:List Expr} {tk tv:TE} {trs:List (TE × TE)} (hk:PE X k tk) (hv:PE X v tv) (hr:PPs X pos ks vs trs) :
  PPs X pos (some k :: ks) (v :: vs) ((tk,tv) :: trs):=fun pins s σ H Q I h =>
 pairTrees_cons_walk (thn (hk pins s σ H _ I h) fun u s1 ⟨x,H1,I1,rx,q1⟩=>thn (hv pins s1 σ H1 _ I1 q1) fun w2 s2 ⟨y,H2,I2,ry,q2⟩ =>
  thn (hr pins s2 σ H2 _ I2 q2) fun ws s3 ⟨ps,H3,I3,rel,q3⟩=>⟨(x,y) :: ps,H3,I3,.cons ⟨rx,ry⟩ rel,q3⟩)
noncomputable def zby (kvs more:List (Key × V)):List (Key × V):=more.foldl (fun acc kv=>putK acc kv.1 kv.2) kvs
theorem KV.merge:∀ {more:List (Key × V)} {rs:List (Key × Value)} {kvs:List (Key × V)} {vs:List (Key × Value)},KV more rs->KV kvs vs->KV (zby kvs more) (merged vs rs):=by
 intro more rs kvs vs r
 unfold KV at r
 induction r generalizing kvs vs with
 | nil=>intro q; exact q
 | @cons p q ps qs h t ih =>
  intro r0
  have e:KV (putK kvs p.1 p.2) (stored vs q.1 q.2):=by
   have:=r0.put p.1 h.2
   rw [← h.1]; exact this
  exact ih e
theorem length_mergeK:∀ (more kvs:List (Key × V)),(zby kvs more).length ≤ kvs.length + more.length
 | [],kvs=>by show kvs.length ≤ kvs.length + 0; omega
 | p :: r,kvs=>by
  have h1:=length_mergeK r (putK kvs p.1 p.2)
  have h2:=zcJ kvs p.1 p.2
  show (zby (putK kvs p.1 p.2) r).length ≤ _
  rw [List.length_cons]; omega
theorem zda {P:Program} {w:World}:∀ {kvs:List (Key × V)} {ws:List (Value × Value)},VV (kvs.map fun kv=>(kV kv.1,kv.2)) ws->∃ rs,Carries (zaJ P w) ws rs∧KV kvs rs
 | [],_,r=>by rw [List.map_nil] at r; cases r; exact ⟨[],True.intro,.nil⟩
 | p :: kvs,_,r=>by
  rw [List.map_cons] at r
  cases r with
  | @cons a b as bs h t =>
   obtain ⟨rs,c,q⟩:=zda (P:=P) (w:=w) t
   obtain ⟨b1,b2⟩:=b
   exact ⟨(p.1,b2) :: rs,⟨zf7 h.1,rfl,c⟩,.cons ⟨rfl,h.2⟩ q⟩
structure M1 (X:Cx) (o:Expr) (m:Str) (apos:Pos) (e:Expr) (cpos:Pos):Prop where
 base:attributeBase o m X.env (eval o X.env) = eval o X.env
 few:((backTo cpos (starEach [e] X.env)).all (fun x=>!x.1) && (backToKw cpos (keywordEach [] X.env)).all (fun x=>x.1.isSome)
  && decide (([e]:List Expr).length + ([]:List Keyword).length + (if ([]:List Keyword).isEmpty then 0 else 1) < 30)) = true
 line:(apos.endLine == cpos.line) = true
 trees:backTo cpos (starEach [e] X.env) = [(false,eval e X.env)]
noncomputable def IsD (H:Hp) (a:Addr):Prop:=(∃ kvs,Rd H a (.dK kvs)) ∨ ∃ kvs,Rd H a (.dT kvs)
theorem ziG {X:Cx} {pins:List (Addr × Obj)} {σ:St} {H:Hp} {s:Shared} {a:Addr} (I:Inv X pins σ H s) (d:IsD H a) :
  s.TypeIs (.ref a) "dict"∧(∀ b,Value.ref a = .ref b->∃ ob,s.heap.get? b = some ob∧ob.dict = none)∧(a == sysModules) = false:=by
 rcases d with ⟨kvs,e⟩ | ⟨kvs,e⟩
 ·obtain ⟨_,hd,vs,_,dd⟩:=zfp I.hok e
  refine ⟨dd.typeIs,fun b q=>?_,hd⟩
  cases q
  obtain ⟨ob,_,_,h1,h2,_⟩:=dd
  exact ⟨ob,h1,h2.2.1⟩
 ·obtain ⟨_,hd,xs,_,dd⟩:=zho I.hok e
  refine ⟨dd.typeIs,fun b q=>?_,hd⟩
  cases q
  obtain ⟨ob,_,_,h1,h2,_⟩:=dd
  exact ⟨ob,h1,h2.2.1⟩
section
variable {X:Cx} {pins:List (Addr × Obj)} {σ:St} {H:Hp} {s:Shared} {a:Addr} {y d:V} {u r:Value} {o:Option V} {A:Around} {E:Value->Shared->Prop}
theorem zjo {Q:Value->Shared->Prop} (hu:A.units + 1 < cLine) (I:Inv X pins σ H s) (g:DGet H a y o) (ry:RelV y u) (h:∀ w' s',Inv X pins σ H s'->RelV (o.getD .non) w'->Q w' s') :
  wpAny (model X.prog X.w) A (call (.builtin "dict.get") [.ref a,u]) Q E s:=by
 rcases g with ⟨kvs,k,e,ey,l⟩ | ⟨kvs,k,b,e,ey,eb,l⟩
 ·subst ey
  obtain ⟨z,hd,vs,rel,dd⟩:=zfp I.hok e
  refine call_meetsIn PySem.F.slot_dict_get dd.typeIs PySem.F.entry_dict_get (PySem.F.args_dict_get_2 _ _) (meets_dict_get (zaJ X.prog X.w) a (zf7 ry) hd) ⟨_,dd.mapOf,h _ _ (I.tok _) ?_⟩
  rw [l]
  exact (rel.val k).getD rfl
 ·subst ey
  cases (show u = Value.ref b from ry)
  obtain ⟨z,hd,xs,rel,dd⟩:=zho I.hok e
  refine call_meetsIn PySem.F.slot_dict_get dd.typeIs PySem.F.entry_dict_get (PySem.F.args_dict_get_2 _ _) (meetsH_dict_get (tupleKind (zaJ X.prog X.w)) a b hd) ⟨tupleKind_room_in1 hu,k,xs,zfT I.hok eb,dd,h _ _ (I.tok _) ?_⟩
  rw [l]
  exact (rel.val k).getD rfl
end
noncomputable def zhA (td ty:TE):TE:=fun σ H Q=>td σ H fun x H1=>∃ a,x = .ref a∧IsD H1 a∧ty σ H1 fun y H2=>∃ o,DGet H2 a y o∧Q (o.getD .non) H2
section
variable {X:Cx} {o e f:Expr} {apos cpos:Pos} {td ty tx:TE}
theorem zhi (hu:X.A.units + 1 < cLine) (ho:PE X o td) (he:PE X e ty) (m:M1 X o "get" apos e cpos):PE X (.Call (.Attribute o "get" apos) [e] [] cpos) (zhA td ty):=by
 intro pins s σ H Q I h
 refine wpAny_Call_method m.base m.few m.line PySem.F.plainAttrs_dict PySem.F.slot_dict_get PySem.F.type_dict_get (thn (ho pins s σ H _ I h) fun u s1 zq_=>?_)
 obtain ⟨x,H1,I1,rx,a,ex,d,q1⟩:=zq_
 subst ex
 obtain rfl:u = Value.ref a:=rx
 obtain ⟨t1,t2,_⟩:=ziG I1 d
 refine ⟨t1,t2,?_⟩
 rw [m.trees]
 refine Calls.callWith_builtin rfl (Calls.evalArgs_plain (Calls.spliced_cons (thn (he pins s1 σ H1 _ I1 q1) fun iv s2 ⟨y,H2,I2,ry,ov,g,q2⟩=>Calls.spliced_nil ?_)))
 exact zjo hu I2 g ry fun w' s3 I3 rw'=>⟨_,H2,I3,rw',q2⟩
end
section
variable {X:Cx} {pins:List (Addr × Obj)} {σ:St} {H:Hp} {s:Shared} {a:Addr} {kvs:List (Key × V)} {A:Around} {E:Value->Shared->Prop}
end
section
variable {X:Cx} {pins:List (Addr × Obj)} {σ:St} {H:Hp} {s:Shared} {a:Addr} {y:V} {u:Value} {A:Around} {E:Value->Shared->Prop}
end
end L2
namespace Att
open PySem PySem.W PySem.Calls PyProof.Rows
theorem zcV {P:Params} {h:Heap}:∀ (ns:List Int) (vs:List Value),WellAll P h vs (ns.map WData.int)->IntsAre vs ns:=by
 intro ns
 induction ns with
 | nil =>
  intro vs w
  rw [List.map_nil] at w
  cases w
  exact .nil
 | cons n ns ih =>
  intro vs w
  rw [List.map_cons] at w
  cases w with
  | cons a b =>
   cases a
   exact .cons _ _ (ih _ b)
theorem zfU {l:OpenLaw} {n:Nat} (hn:l.most = some n) {P:Params} {h:Heap} {args:List WData} {vals:List Value}
  (hpre:l.row.toRowW.claim.pre args = true) (hwl:WellAll P h vals args) :
  ∃ a vs ns,vals = [Value.ref a]∧args = [WData.list (ns.map WData.int)]∧h.get? a = some { cls:=.type "list",data:=.seq vs.toArray }∧IntsAre vs ns∧ns.length ≤ n:=by
 have hsh:WShape.hasAll [] args [.list .int] = true:=(pre_splitW hpre).1
 have hc:l.pre.holds [] { args:=args } = true:=(pre_splitW hpre).2
 obtain ⟨d,r,rfl,h1,h2⟩:=hasAllW_cons hsh
 obtain rfl:=hasAllW_nil h2
 obtain ⟨xs,rfl,h3⟩:=hasW_list h1
 obtain ⟨ns,rfl⟩:=items_int h3
 have hlen:ns.length ≤ n:=by
  unfold OpenLaw.pre at hc
  have h4:(WTm.not (.lt (.lit (.int (n:Int))) (.len (.arg 0)))).holds [] { args:=[.list (ns.map .int)] } = true:=by
   have h4:=(holds_andW hc).1
   rw [hn] at h4
   exact h4
  have h5:=condW_of h4 (w_not (w_lt w_lit (w_len_list (w_arg rfl))))
  rw [List.length_map] at h5
  refine Nat.le_of_not_lt fun q=>?_
  have q':(n:Int) < ((ns.length:Nat):Int):=by omega
  first
   | (rw [decide_eq_true q'] at h5; exact absurd h5 (by decide))
   | (simp at h5; omega)
 cases hwl with
 | cons w1 w2 =>
  cases w2
  cases w1 with
  | list ho hall=>exact ⟨_,_,ns,rfl,rfl,ho,zcV ns _ hall,hlen⟩
theorem zfP (l:OpenLaw) (args:List WData):l.row.toRowW.claim.post args (.bool true) args = true :=
 postW_of (r:=l.row.toRowW) (X:=(true == true))
  (show WShape.has [] (.bool true) .bool = true by first | rfl | decide | simp [WShape.has,WShape.arms,WShape.armsAll])
  (show (WTm.eq .res (.lit (.bool true))).value [] { args:=args,res:=some (.bool true),after:=args } = some (.bool (true == true)) from w_eq_bool (w_res rfl) w_lit) rfl
theorem attach_call {l:OpenLaw} {n:Nat} {q:Program} {loose:List Str} {XP:(Str->Option Value)->Heap->Prop} {YP:World->Heap->Prop} {d:DefRec}
  (hn:l.most = some n) (hdf:d.params.defaults = [])
  (call:∀ (w:World) (s₀ s₁:Shared) (mg mb:Str->Option Value) (fa:Addr) (o:Obj) (pm cd doc:Value) (a:Addr) (vs:List Value) (ns:List Int),
   Ground q loose [] XP w s₀ mg mb s₁.heap->YP w s₁.heap ->
   s₁.heap.get? fa = some o->o.data = .func (docDef d.name d.params d.body d.scope pm cd doc)->s₁.heap.CodeRec cd d.name->mg d.name = some (.ref fa) ->
   s₁.heap.get? a = some { cls:=.type "list",data:=.seq vs.toArray }->IntsAre vs ns->ns.length ≤ n->s₁.gens = #[] ->
   codeAny (model l.prog w) callerA (.call (.ref fa) ⟨[.ref a],[]⟩) (fun r s'=>r = .ok (.ret (.bool true))∧OldK s₁.heap s'.heap∧s'.os = s₁.os∧AllBare s'.gens) s₁) :
  WalkO q loose XP YP l.row.toRowW d [] (fun f vs=>PySem.call f vs):=by
 intro w s₀ s₁ mg mb G Y fa o pm cd doc dV kV ho hd hcd hD hmg hg args vals as hpre hlay hrd hwl hlo
 obtain rfl:dV = .none:=Dflts.none hD hdf
 obtain rfl:kV = .none:=Dflts.noKw hD
 obtain ⟨a,vs,ns,rfl,rfl,hobj,hints,hlen⟩:=zfU hn hpre hwl
 refine enter_call (codeAny_mono (call w s₀ s₁ mg mb fa o pm cd doc a vs ns G Y ho (fd_plain hd) hcd hmg hobj hints hlen hg) fun r s' hq=>?_)
 obtain ⟨rfl,h2,h3,h4⟩:=hq
 exact ⟨.inl ⟨.bool true,.bool true,[],rfl,fun _=>rfl,.bool true,zfP l _,fun _=>⟨List.Pairwise.nil,fun _ hm=>(nomatch hm)⟩⟩,h2,h3,h4⟩
section
variable {prog:Program} {w:World} {A:Around} {E:Value->Shared->Prop} {s:Shared} {K:Frag}
end
end Att
namespace L2
open PySem PySem.Spec PyProof.Rows
theorem vals_ints:∀ {vs:List Value} {ns:List Int},IntsAre vs ns->Vals (ns.map V.int) vs
 | _,_,.nil=>.nil
 | _,_,.cons n t h=>.cons ⟨t,rfl⟩ (vals_ints h)
noncomputable def Only (H:Hp):Prop:=∀ b,H b = none ∨ ∃ o xs,H b = some (.frz o (.lst xs))
theorem zg3 {P:Program} {w:World} {K:PySem.W.Frag} {mg mb:Str->Option Value} {CX:CXT} {k:Nat} {fa a:Addr} {fd:FuncData} {x:Str} {sp:Sp} {s₁:Shared} {vs:List Value} {ns:List Int}
  (KX:K.In s₁.heap) (hns:s₁.heap.Ns mainGlobals mg) (hb:s₁.heap.Ns builtinsNs mb) (hbb:∀ x:Str,x ≠ "__name__"->mb x = bootBuiltins x) (hlim:s₁.heap.NoLimit) (hg:s₁.gens = #[])
  (ha:s₁.heap.get? a = some { cls:=.type "list",data:=.seq vs.toArray }) (hi:IntsAre vs ns) (hl:ns.length ≤ sizeLine) (hr:Room k callerA)
  (F:∀ base:Heap,K.In base->base.Ns mainGlobals mg->FnOk P w K mg base CX k fa fd [x] sp) (hbind:∀ (s:Shared) (u:Value),BindsTo s fd ⟨[u],[]⟩ [(x,u)])
  (hsp:∀ H:Hp,Only H->SqL K H a (ns.map V.int)->sp [.ref a] H (fun v _=>v = .bl true) fun _ _ _=>False)
  (hCX:∀ H e s',CX [] H s₁ (fun _ _ _=>False) e s'->False) :
  codeAny (model P w) callerA (.call (.ref fa) ⟨[.ref a],[]⟩) (fun r s'=>r = .ok (.ret (.bool true))∧OldK s₁.heap s'.heap∧s'.os = s₁.os∧AllBare s'.gens) s₁:=by
 have rv:=vals_ints hi
 have lenV:=hi.length
 have core:∀ H:Hp,Only H->SqL K H a (ns.map V.int)->HOk P w H s₁.heap->(∀ b,H b ≠ none->b = a)->(H a ≠ none->K.lookup a = none) ->
   codeAny (model P w) callerA (.call (.ref fa) ⟨[.ref a],[]⟩) (fun r s'=>r = .ok (.ret (.bool true))∧OldK s₁.heap s'.heap∧s'.os = s₁.os∧AllBare s'.gens) s₁:=by
  intro H hO hS hok hA hK
  have base_of:∀ {b:Addr} {o:Obj},s₁.heap.get? b = some o->H b = none->(hidT s₁.heap H).get? b = some o:=fun e n=>zgV e n
  have noA:∀ {b:Addr} {o:Obj} {es:Array DictEntry} {ep:Nat},s₁.heap.get? b = some o->o.data = .dict es ep->H b = none:=fun {b o es ep} e d=>by
   cases q:H b with
   | none=>rfl
   | some u =>
    have e':b = a:=hA b (by rw [q]; simp)
    subst e'
    rw [ha] at e; cases e
    have d':Data.seq vs.toArray _ = Data.dict es ep:=d
    cases d'
  have nsK:∀ {b:Addr} {m:Str->Option Value},s₁.heap.Ns b m->(hidT s₁.heap H).Ns b m:=fun {b m} ⟨o,es,ep,e,d,r⟩=>⟨o,es,ep,base_of e (noA e d),d,r⟩
  have hKb:K.In (hidT s₁.heap H):=fun b o e=>base_of (KX b o e) (by
   cases q:H b with
   | none=>rfl
   | some u =>
    have e':b = a:=hA b (by rw [q]; simp)
    subst e'
    rw [hK (by rw [q]; simp)] at e; cases e)
  have hM:Mod K mg (hidT s₁.heap H):=⟨hKb,nsK hns,⟨mb,nsK hb,hbb⟩,let ⟨mc,h1,h2⟩:=hlim; ⟨mc,nsK h1,h2⟩⟩
  have e0:Env0 P w K mg (hidT s₁.heap H) callerA [] s₁ H:=⟨rfl,hM,fun b o e=>zhU e,Nat.le_of_eq (zfY _ _),trivial,fun b hb=>absurd (show b ∈ ([]:List Addr) from hb) (by simp),hok,.of_eq hg⟩
  refine codeAny_mono ((F _ hKb (nsK hns)).run callerA [] s₁ H ⟨[.ref a],[]⟩ [.ref a] [.ref a] _ _ hr e0 (hbind s₁ (.ref a)) (.cons rfl .nil) (hsp H hO hS)) fun r s' h=>?_
  cases r with
  | error e=>exact (hCX H e s' h).elim
  | ok fl =>
   cases fl with
   | next=>exact False.elim h
   | brk=>exact False.elim h
   | cont=>exact False.elim h
   | ret u =>
    obtain ⟨v,H',os,bare,un,hok',r',q⟩:=h
    have q':v = .bl true:=q
    subst q'
    obtain rfl:u = Value.bool true:=r'
    refine ⟨rfl,OldK.of_keep fun b o e=>?_,os,bare⟩
    cases q:H b with
    | none=>exact un.keep b o e q (by intro z; exact absurd (show b ∈ ([]:List Addr) from z) (by simp)) (by simp)
    | some u =>
     rcases hO b with z | ⟨ob,xs,z⟩
     ·rw [q] at z; cases z
     ·have z2:=un.frzs b ob _ z
      obtain ⟨e1,_⟩:=hok b _ z
      obtain ⟨e2,_⟩:=hok' b _ z2
      rw [e] at e1; cases e1
      exact e2
 cases hk:K.lookup a with
 | some o =>
  have e:=KX a o hk
  rw [ha] at e
  cases e
  refine core (fun _=>none) (fun _=>.inl rfl) (.inr ⟨_,vs.toArray,_,hk,rfl,rfl,rfl,by rw [List.size_toArray,lenV]; exact hl,by simpa using rv⟩) (fun b u z=>by have z':(none:Option HO) = some u:=z; cases z') (fun b z=>absurd rfl z) fun z=>absurd rfl z
 | none =>
  refine core (fun b=>if b = a then some (.frz { cls:=.type "list",data:=.seq vs.toArray } (.lst (ns.map V.int))) else none) (fun b=>?_) (.inl (.inr ⟨{ cls:=.type "list",data:=.seq vs.toArray },if_pos rfl⟩)) (fun b u z=>?_) (fun b z=>?_) fun _=>hk
  ·by_cases hb:b = a
   ·exact .inr ⟨_,_,if_pos hb⟩
   ·exact .inl (if_neg hb)
  ·by_cases hb:b = a
   ·have z':=(if_pos hb).symm.trans z
    cases z'
    subst hb
    exact ⟨ha,by rw [List.length_map]; exact hl,vs,_,rv,ha⟩
   ·have z':=(if_neg hb).symm.trans z
    cases z'
  ·by_cases hb:b = a
   ·exact hb
   ·exact absurd (if_neg hb) z
end L2
namespace L2
open PySem PySem.Spec PyProof.Rows
abbrev KOf {K:PySem.W.Frag} {h:Heap} (_:K.In h):PySem.W.Frag:=K
theorem walk_of {l:PySem.W.OpenLaw} {n k:Nat} {q:Program} {loose:List Str} {XP:(Str->Option Value)->Heap->Prop} {YP:World->Heap->Prop} {d:DefRec} {K:Params->PySem.W.Frag} {CX:World->CXT} {sp:World->Sp} {x:Str}
  (hn:l.most = some n) (hn2:n ≤ sizeLine) (hdf:d.params.defaults = []) (hr:Room k callerA)
  (hY:∀ (w:World) (h:Heap),YP w h->(K w.params).In h)
  (F:∀ (w:World) (mg:Str->Option Value) (fa:Addr) (h:Heap),(K w.params).In h->h.Ns mainGlobals mg->mg d.name = some (.ref fa) ->
   ∃ fd:FuncData,(∀ (s:Shared) (u:Value),BindsTo s fd ⟨[u],[]⟩ [(x,u)]) ∧
    ∀ base:Heap,(K w.params).In base->base.Ns mainGlobals mg->FnOk l.prog w (K w.params) mg base (CX w) k fa fd [x] (sp w))
  (hsp:∀ (w:World) (H:Hp) (a:Addr) (ns:List Int),ns.length ≤ n->Only H->SqL (K w.params) H a (ns.map V.int)->sp w [.ref a] H (fun v _=>v = .bl true) fun _ _ _=>False)
  (hCX:∀ (w:World) (H:Hp) (s:Shared) (e:Value) (s':Shared),CX w [] H s (fun _ _ _=>False) e s'->False) :
  PySem.W.WalkO q loose XP YP l.row.toRowW d [] (fun f vs=>PySem.call f vs):=by
 refine Att.attach_call hn hdf fun w s₀ s₁ mg mb fa o pm cd doc a vs ns G Y ho hd hcd hmg hobj hints hlen hg=>?_
 have KX:=hY w _ Y
 obtain ⟨fd,hb,hF⟩:=F w mg fa _ KX G.T.g hmg
 exact zg3 KX G.T.g G.T.b G.T.builtins G.T.nolimit hg hobj hints (Nat.le_trans hlen hn2) hr hF hb (fun H hO hS=>hsp w H a ns hlen hO hS) fun H e s'=>hCX w H s₁ e s'
end L2
namespace L2
open PySem PySem.Spec PyProof.Rows
noncomputable def zdF (s:Stmt):Arguments:=match s with
 | .FunctionDef _ a _ _ _ _ _ _ _ _=>a
 | _=>{ posonlyargs:=[],args:=[],vararg:=none,kwonlyargs:=[],kw_defaults:=[],kwarg:=none,defaults:=[] }
noncomputable def zbY (s:Stmt):List Stmt:=match s with
 | .FunctionDef _ _ b _ _ _ _ _ _ _=>b
 | _=>[]
noncomputable def zap (s:Stmt):Scope:=match s with
 | .FunctionDef _ _ _ _ _ _ sc _ _ _=>sc
 | _=>{ kind:=.function,names:=[],isGenerator:=false,isCoroutine:=false }
abbrev E0:XK:=fun _ _ _=>False
structure Fun (K:PySem.W.Frag) (x qual:Str) (st:Stmt) (f:Addr) (fd:FuncData):Prop where
 ex:∃ (oc:Value) (od:Option Addr) (kV doc pm:Value) (an:Option Addr) (cdv ct:Value) (osl:Array (Option Value)),
  fd = PySem.W.fnOf x qual (zdF st) (zbY st) (zap st) .none kV doc pm an cdv ct∧K.lookup f = some ⟨oc,od,.func fd,osl⟩∧PySem.W.codeIn K cdv qual = true
 kp:PySem.W.keepIn K (.ref f) = true
section
variable {P:Program} {w:World} {K:PySem.W.Frag} {mg:Str->Option Value} {base:Heap}
theorem Fun.binds {x qual:Str} {st:Stmt} {f:Addr} {fd:FuncData} {ps:List Str} (F:Fun K x qual st f fd)
  (h:∀ (kV doc pm:Value) (an:Option Addr) (cdv ct:Value) (us:List Value),us.length = ps.length->bindArgs (PySem.W.fnOf x qual (zdF st) (zbY st) (zap st) .none kV doc pm an cdv ct) ⟨us,[]⟩ = pure (ps.zip us)):zaK K fd ps []:=by
 obtain ⟨oc,od,kV,doc,pm,an,cdv,ct,osl,rfl,lk,hcd⟩:=F.ex
 exact .all (h kV doc pm an cdv ct)
theorem fun_mk {x qual:Str} {st:Stmt} {f:Addr} {oc:Value} {od an:Option Addr} {osl:Array (Option Value)} {kV doc pm cdv ct:Value} (l:K.lookup f = some ⟨oc,od,.func (PySem.W.fnOf x qual (zdF st) (zbY st) (zap st) .none kV doc pm an cdv ct),osl⟩)
  (c:PySem.W.codeIn K cdv qual = true) (k:PySem.W.keepIn K (.ref f) = true):Fun K x qual st f (PySem.W.fnOf x qual (zdF st) (zbY st) (zap st) .none kV doc pm an cdv ct):=⟨⟨oc,od,kV,doc,pm,an,cdv,ct,osl,rfl,l,c⟩,k⟩
end
theorem za0 {A:Around} {k:Nat} (hr:Room k A):A.units + 1 < cLine:=Nat.lt_of_le_of_lt (Nat.add_le_add_left (by decide:1 ≤ 64) _) hr.units
theorem zaF {n:Nat} (h:n ≤ 1000):n < sizeLine:=Nat.lt_of_le_of_lt h (by decide)
section
variable {X:Cx}
theorem pv (i:Nat) {x:Str} {pos:Pos} (hN:X.N[i]? = some x:=by rfl) (hv:Vis X.env.scope x:=by first | exact Or.inl rfl | exact Or.inr (Or.inl rfl) | exact Or.inr (Or.inr rfl)) (hd:(x == ("__debug__":Str)) = false:=by decide)
  (hcd:(x == ("__classdict__":Str)) = false:=by decide):PE X (.Name x pos) (tVar i):=zjt hN hv hd hcd
end
theorem ite2 {c A B:Prop} [Decidable c] (h1:c->A) (h2:¬ c->B):if c then A else B:=by
 by_cases h:c
 ·rw [if_pos h]
  exact h1 h
 ·rw [if_neg h]
  exact h2 h
noncomputable def Same (H H':Hp):Prop:=∀ b o,H b = some o->H' b = some o
theorem Same.refl (H:Hp):Same H H:=fun _ _ h=>h
theorem Same.trans {H H1 H2:Hp} (a:Same H H1) (b:Same H1 H2):Same H H2:=fun c o h=>b c o (a c o h)
theorem Same.free {H H':Hp} (e:Same H H') {l:Addr} (h:H' l = Option.none):H l = Option.none:=by
 cases q:H l with
 | none=>rfl
 | some o =>
  rw [e l o q] at h
  cases h
theorem Same.seq {K:PySem.W.Frag} {H H':Hp} {a:Addr} {xs:List V} (e:Same H H') (h:SqL K H a xs):SqL K H' a xs:=by
 rcases h with (h | ⟨o,h⟩) | h
 ·exact .inl (.inl (e _ _ h))
 ·exact .inl (.inr ⟨o,e _ _ h⟩)
 ·exact .inr h
section
variable {κ:Type} [DecidableEq κ]
theorem zig {kvs:List (κ × V)} {k:κ} {v:V} (h:valV kvs k = some v):k ∈ kvs.map (·.1):=by
 have q:(kvs.any fun kv=>decide (kv.1 = k)) = true:=by
  rw [zeY,h]
  all_goals rfl
 obtain ⟨p,hp,e⟩:=List.any_eq_true.mp q
 exact List.mem_map.mpr ⟨p,hp,of_decide_eq_true e⟩
end
end L2
set_option Elab.async false
set_option linter.all false
set_option maxRecDepth 100000
namespace L2
open PySem PySem.Spec PyProof.Rows
noncomputable def clOf (env:Env) (names:List (Str × NameKind)) (cs:List (Str × Addr)):List (Str × Addr) :=
 names.foldl (fun cs y=>if y.2 == NameKind.free then (y.1,(env.cells.lookup y.1).getD 0) :: cs else cs) cs
theorem zcO {env:Env}:∀ (names:List (Str × NameKind)) (cs:List (Str × Addr)),(∀ y ∈ names,y.2 = .free->∃ c,env.cells.lookup y.1 = some c) ->
  (forIn names cs fun (p:Str × NameKind) (cs:List (Str × Addr))=>(if (p.2 == NameKind.free) = true then do
   let a ← cellOf env p.1
   pure (ForInStep.yield ((p.1,a) :: cs))
   else pure (ForInStep.yield cs):Sem (ForInStep (List (Str × Addr))))) = pure (clOf env names cs)
 | [],cs,_=>rfl
 | (n,k) :: r,cs,h=>by
  have hr:∀ y ∈ r,y.2 = NameKind.free->∃ c,env.cells.lookup y.1 = some c:=fun y hy=>h y (List.mem_cons_of_mem _ hy)
  rw [List.forIn_cons]
  cases hk:(k == NameKind.free) with
  | true =>
   obtain ⟨c,hc⟩:=h (n,k) List.mem_cons_self (by simpa using hk)
   have e1:cellOf env n = pure c:=by
    have hc':env.cells.lookup n = some c:=hc
    unfold cellOf; rw [hc']
   have e2:=zcO r ((n,c) :: cs) hr
   have e3:clOf env ((n,k) :: r) cs = clOf env r ((n,c) :: cs):=by
    have hc':env.cells.lookup n = some c:=hc
    show List.foldl _ (if (k == NameKind.free) = true then (n,(env.cells.lookup n).getD 0) :: cs else cs) r = _
    rw [hk,hc']; rfl
   rw [e3,← e2]
   simp only [hk,if_true,e1]
   rfl
  | false =>
   have e2:=zcO r cs hr
   have e3:clOf env ((n,k) :: r) cs = clOf env r cs:=by
    show List.foldl _ (if (k == NameKind.free) = true then _ else cs) r = _
    rw [hk]; rfl
   rw [e3,← e2]
   simp only [hk,Bool.false_eq_true,if_false]
   rfl
theorem zbC {scope:Scope} {env:Env} (h:∀ y ∈ scope.names,y.2 = .free->∃ c,env.cells.lookup y.1 = some c):closureFor scope env = pure (clOf env scope.names []):=by
 have:=zcO scope.names [] h
 unfold closureFor
 simp only [bind_pure]
 exact this
theorem zeR {env:Env}:∀ (names:List (Str × NameKind)) (cs:List (Str × Addr)),(∀ y ∈ names,y.2 = .free->∃ c,env.cells.lookup y.1 = some c)->(∀ x c,cs.lookup x = some c->env.cells.lookup x = some c) ->
  ∀ x c,(clOf env names cs).lookup x = some c->env.cells.lookup x = some c
 | [],cs,_,hc=>hc
 | (n,k) :: r,cs,h,hc=>by
  refine zeR r _ (fun y hy=>h y (List.mem_cons_of_mem _ hy)) ?_
  intro x c e
  dsimp only at e
  split at e
  ·rename_i hk
   obtain ⟨c',hc'⟩:=h (n,k) List.mem_cons_self (by simpa using hk)
   have hc':env.cells.lookup n = some c':=hc'
   rw [List.lookup_cons] at e
   cases hx:(x == n) with
   | true =>
    rw [hx] at e
    have e':(env.cells.lookup n).getD 0 = c:=Option.some.inj e
    have hxn:x = n:=by simpa using hx
    rw [hxn,hc',← e',hc']; rfl
   | false =>
    rw [hx] at e
    exact hc x c e
  ·exact hc x c e
theorem zdp {env:Env} {x:Str}:∀ (names:List (Str × NameKind)) (cs:List (Str × Addr)),((x,NameKind.free) ∈ names ∨ ∃ c,cs.lookup x = some c)->∃ c,(clOf env names cs).lookup x = some c
 | [],cs,h=>by
  rcases h with h | h
  ·simp at h
  ·exact h
 | (n,k) :: r,cs,h=>by
  refine zdp r _ ?_
  rcases h with h | ⟨c,h⟩
  ·rcases List.mem_cons.mp h with e | h
   ·cases e
    refine .inr ⟨(env.cells.lookup x).getD 0,?_⟩
    simp
   ·exact .inl h
  ·refine .inr ?_
   dsimp only
   split
   ·rw [List.lookup_cons]
    cases (x == n) with
    | true=>exact ⟨_,rfl⟩
    | false=>exact ⟨c,h⟩
   ·exact ⟨c,h⟩
theorem zcs {env:Env}:∀ {names:List (Str × NameKind)} {x:Str},names.lookup x = some .free ->
  (names.map fun (n,k)=>if (k == NameKind.free && env.scope.kind == .function && env.kindOf n == some .cell) then (n,NameKind.cell) else (n,k)).lookup x = some .cell ∨
  (names.map fun (n,k)=>if (k == NameKind.free && env.scope.kind == .function && env.kindOf n == some .cell) then (n,NameKind.cell) else (n,k)).lookup x = some .free
 | [],_,h=>by simp at h
 | (n,k) :: r,x,h=>by
  have ih:=@zcs env r x
  rw [List.map_cons]
  cases hx:x == n with
  | true =>
   simp only [List.lookup_cons,hx] at h
   cases h
   by_cases hc:(NameKind.free == NameKind.free && env.scope.kind == .function && env.kindOf n == some .cell) = true
   ·left
    show List.lookup x ((if (NameKind.free == NameKind.free && env.scope.kind == .function && env.kindOf n == some .cell) = true then (n,NameKind.cell) else (n,NameKind.free)) :: _) = _
    rw [if_pos hc]; simp [List.lookup_cons,hx]
   ·right
    show List.lookup x ((if (NameKind.free == NameKind.free && env.scope.kind == .function && env.kindOf n == some .cell) = true then (n,NameKind.cell) else (n,NameKind.free)) :: _) = _
    rw [if_neg hc]; simp [List.lookup_cons,hx]
  | false =>
   simp only [List.lookup_cons,hx] at h
   have ih:=ih h
   have e:∀ l,List.lookup x ((if (k == NameKind.free && env.scope.kind == .function && env.kindOf n == some .cell) = true then (n,NameKind.cell) else (n,k)) :: l) = List.lookup x l:=fun l=>by
    split <;> simp [List.lookup_cons,hx]
   show List.lookup x ((if (k == NameKind.free && env.scope.kind == .function && env.kindOf n == some .cell) = true then (n,NameKind.cell) else (n,k)) :: _) = _ ∨ List.lookup x ((if (k == NameKind.free && env.scope.kind == .function && env.kindOf n == some .cell) = true then (n,NameKind.cell) else (n,k)) :: _) = _
   rw [e]
   exact ih
theorem zcq {env:Env}:∀ {names:List (Str × NameKind)} {x:Str},
  ((names.map fun (n,k)=>if (k == NameKind.free && env.scope.kind == .function && env.kindOf n == some .cell) then (n,NameKind.cell) else (n,k)).lookup x = some .cell ∨
  (names.map fun (n,k)=>if (k == NameKind.free && env.scope.kind == .function && env.kindOf n == some .cell) then (n,NameKind.cell) else (n,k)).lookup x = some .free) ->
  names.lookup x = some .free ∨ names.lookup x = some .cell
 | [],x,h=>by simp at h
 | (n,k) :: r,x,h=>by
  have ih:=@zcq env r x
  cases hx:x == n with
  | true =>
   rw [List.lookup_cons,hx]
   show some k = _ ∨ some k = _
   have e:∀ l,List.lookup x ((if (k == NameKind.free && env.scope.kind == .function && env.kindOf n == some .cell) = true then (n,NameKind.cell) else (n,k)) :: l) = if (k == NameKind.free && env.scope.kind == .function && env.kindOf n == some .cell) = true then some .cell else some k:=fun l=>by
    split <;> simp [List.lookup_cons,hx]
   rw [List.map_cons] at h
   have h:List.lookup x ((if (k == NameKind.free && env.scope.kind == .function && env.kindOf n == some .cell) = true then (n,NameKind.cell) else (n,k)) :: _) = some .cell ∨ List.lookup x ((if (k == NameKind.free && env.scope.kind == .function && env.kindOf n == some .cell) = true then (n,NameKind.cell) else (n,k)) :: _) = some .free:=h
   rw [e] at h
   by_cases hc:(k == NameKind.free && env.scope.kind == .function && env.kindOf n == some .cell) = true
   ·left
    simp at hc
    rw [hc.1.1]
   ·rw [if_neg hc] at h
    rcases h with h | h
    ·exact .inr h
    ·exact .inl h
  | false =>
   rw [List.lookup_cons,hx]
   have e:∀ l,List.lookup x ((if (k == NameKind.free && env.scope.kind == .function && env.kindOf n == some .cell) = true then (n,NameKind.cell) else (n,k)) :: l) = List.lookup x l:=fun l=>by
    split <;> simp [List.lookup_cons,hx]
   rw [List.map_cons] at h
   have h:List.lookup x ((if (k == NameKind.free && env.scope.kind == .function && env.kindOf n == some .cell) = true then (n,NameKind.cell) else (n,k)) :: _) = some .cell ∨ List.lookup x ((if (k == NameKind.free && env.scope.kind == .function && env.kindOf n == some .cell) = true then (n,NameKind.cell) else (n,k)) :: _) = some .free:=h
   rw [e] at h
   exact ih h
section
variable {prog:Program} {w:World} {A:Around} {E:Value->Shared->Prop} {R:Result->Shared->Prop} {s:Shared}
theorem zcp {elt target iter:Expr} {ifs:List Expr} {scope:Scope} {pos:Pos} {it acc:Value} {env:Env} (I:Nat->Shared->Prop)
  (turn:∀ n s,I n s->wpAny (model prog w) A (pyNext it) (fun r s₁=>match r with
   | none=>R (.ok .next) s₁
   | some v=>wpAny (model prog w) A (letOwnedTupleGo target it v) (fun _ s₁'=>wpAny (model prog w) A (assign target env v) (fun _ s₂ =>
     wpAny (model prog w) A (forIn ifs true fun c r=>if r = true then do let ok ← isTrue c env (eval c env); pure (ForInStep.yield ok) else pure (ForInStep.yield r)) (fun ok s₃ =>
      if ok = true then wpAny (model prog w) A (eval elt env) (fun x s₄ =>
       wpAny (model prog w) A (call (.builtin "list.append") [acc,x]) (fun _ s₅=>∃ m,m < n∧I m s₅) (notedBy (model prog w) A env fun e s'=>R (.error e) s') s₄) (notedBy (model prog w) A env fun e s'=>R (.error e) s') s₃
      else ∃ m,m < n∧I m s₃) (notedBy (model prog w) A env fun e s'=>R (.error e) s') s₂) (notedBy (model prog w) A env fun e s'=>R (.error e) s') s₁') (notedBy (model prog w) A env fun e s'=>R (.error e) s') s₁) (notedBy (model prog w) A env fun e s'=>R (.error e) s') s)
  (n:Nat) (h:I n s) :
  codeAny (model prog w) A (.compLoop (.ListComp elt [⟨target,iter,ifs,0⟩] scope pos) 0 it acc env) R s:=by
 refine codeAny_loop rfl I (fun n s hI=>?_) n h
 show wpAny _ A ((compTurn (.ListComp elt [⟨target,iter,ifs,0⟩] scope pos) 0 it acc env).onRaise (fun x=>do noteFrame x env; theTreesLotGoes x)) _ _ s
 refine wpAny_noted ?_
 rw [compTurn_list]
 refine wpAny_bind (wpAny_standAt (wpAny_bind (wpAny_mono (turn n s hI) (fun r s₁ h₁=>?_) fun _ _ h'=>h')))
 cases r with
 | none=>exact wpAny_pure h₁
 | some v =>
  refine wpAny_bind (wpAny_mono h₁ (fun _ s₁' h₁'=>?_) fun _ _ h'=>h')
  refine wpAny_bind (wpAny_mono h₁' (fun _ s₂ h₂=>wpAny_bind (wpAny_mono h₂ (fun ok s₃ h₃=>?_) fun _ _ h'=>h')) fun _ _ h'=>h')
  cases ok with
  | false=>exact wpAny_pure ⟨rfl,h₃⟩
  | true =>
   exact wpAny_bind (wpAny_bind (wpAny_mono h₃ (fun x s₄ h₄=>wpAny_bind (wpAny_mono h₄ (fun _ s₅ h₅=>wpAny_pure (wpAny_pure ⟨rfl,h₅⟩)) fun _ _ h'=>h')) fun _ _ h'=>h'))
end
noncomputable def zbb (X:Cx) (scope:Scope) (N':List Str) (C:Addr) (ex:List Addr) (s:Shared) (H:Hp):Cx :=
 { X with N:=N',s₀:=s,H₀:=H,env:=compEnvC scope (clOf X.env scope.names []) C X.env,outer:=X.stack,stack:=X.stack,ex:=ex,fn:=fun _=>false,pn:=[],xe:=fun _ _=>False }
noncomputable def zjb (N N':List Str) (cap:List (Option Nat)) (names:List (Str × NameKind)):Bool :=
 (N'.zip cap).all fun p=>match p.2 with
  | none=>true
  | some j=>N[j]? == some p.1 && names.lookup p.1 == some .free
structure CompOk (X:Cx) (scope:Scope) (N':List Str) (cap:List (Option Nat)):Prop where
 kind:scope.kind = .function
 nocell:∀ y ∈ scope.names,y.2 ≠ .cell
 names:∀ y ∈ scope.names,y.2 = .local->scope.names.lookup y.1 = some .local
 freeB:(scope.names.all fun y=>y.2 != .free || X.env.scope.names.lookup y.1 == some .cell || X.env.scope.names.lookup y.1 == some .free) = true
 len:cap.length = N'.length
 cap:zjb X.N N' cap scope.names = true
theorem CompOk.free {X:Cx} {scope:Scope} {N':List Str} {cap:List (Option Nat)} (c:CompOk X scope N' cap):∀ y ∈ scope.names,y.2 = .free->(X.env.scope.names.lookup y.1 = some .cell ∨ X.env.scope.names.lookup y.1 = some .free):=fun y hy hf=>by
 have h:=List.all_eq_true.mp c.freeB y hy
 rw [hf] at h
 simpa using h
noncomputable def zaE (cap:List (Option Nat)) (σ:St):St:=cap.map fun o=>match o with
 | none=>none
 | some j=>(σ[j]?).join
theorem zgo {N N':List Str} {cap:List (Option Nat)} {names:List (Str × NameKind)} (h:zjb N N' cap names = true) {i:Nat} {x:Str} {j:Nat} (h1:N'[i]? = some x) (h2:cap[i]? = some (some j)) :
  N[j]? = some x∧names.lookup x = some .free:=by
 have hm:(x,some j) ∈ N'.zip cap:=by
  refine List.mem_of_getElem? (i:=i) ?_
  rw [List.getElem?_zip_eq_some]
  exact ⟨h1,h2⟩
 have:=List.all_eq_true.mp h _ hm
 simpa using this
section
variable {X:Cx} {pins:List (Addr × Obj)} {σ:St} {H:Hp} {s:Shared} {scope:Scope} {N':List Str} {cap:List (Option Nat)}
theorem CompOk.clos (c:CompOk X scope N' cap) (I:Inv X pins σ H s):∀ y ∈ scope.names,y.2 = .free->∃ a,X.env.cells.lookup y.1 = some a:=fun y hy hf=>I.ok.has y.1 (c.free y hy hf)
theorem zdl (c:CompOk X scope N' cap) (I:Inv X pins σ H s) {fp:List Addr} (hf:∀ b ∈ fp,FpOk X pins H b) (ho:∀ b ∈ fp,∃ o,s.heap.get? b = some o) {h₁:Heap} {t:Nat} (hns:h₁.Ns s.heap.objs.size (fun _=>none))
  (hsb:∀ b o,s.heap.get? b = some o->h₁.get? b = some o):Inv (zbb X scope N' s.heap.objs.size fp s H) [] (zaE cap σ) H { s with heap:=h₁,toks:=t }:=by
 have hcl:=c.clos I
 have sub:=zeR (env:=X.env) scope.names [] hcl (fun x c e=>by simp at e)
 have CI:∀ x a,(clOf X.env scope.names []).lookup x = some a->X.env.cells.lookup x = some a:=sub
 have cz:∀ x a,(clOf X.env scope.names []).lookup x = some a->a < s.heap.objs.size:=fun x a e=>by
  obtain ⟨v,o,q,_⟩:=I.cell x a (CI x a e)
  exact Heap.lt_size q
 have fz:∀ b ∈ fp,b ≠ s.heap.objs.size->True:=fun _ _ _=>trivial
 refine ⟨⟨I.ok.mod,c.kind,I.ok.glob,I.ok.blt,Nat.le_refl _,fun x y a h1 h2=>I.ok.inj x y a (CI x a h1) (CI y a h2),fun x hx=>?_,fun x a h=>(by cases h),I.ok.hd,I.ok.frames,.inl rfl,fun b hb=>?_,I.bs,Nat.le_trans I.ok.bsz I.sz,fun b o e hb=>?_,fun b hb=>?_,I.stack,I.stkFree⟩,
  rfl,I.bare,Un.kept hsb,⟨_,hns,fun i x v h1 h2 h3=>?_⟩,fun x a e=>?_,I.hok.fresh (Nat.le_refl _),fun x a e=>I.freeC x a (CI x a e),fun p hp=>by simp [zbb] at hp,I.hok.kept hsb,?_⟩
 ·have hx:(relabel scope X.env).names.lookup x = some .cell ∨ (relabel scope X.env).names.lookup x = some .free:=hx
  rcases zcq hx with h | h
  ·exact zdp (env:=X.env) scope.names [] (.inl (PySem.mem_of_lookup h))
  ·exact absurd rfl (c.nocell _ (PySem.mem_of_lookup h))
 ·obtain ⟨o,e⟩:=ho b hb
  exact ⟨Nat.ne_of_lt (Heap.lt_size e),fun x a e=>(hf b hb).2.2.2.2.1 x a (CI x a e)⟩
 ·rcases (hf b hb).2.2.2.1 with z | z
  ·exact I.ok.noex b o e z
  ·exact absurd (Nat.lt_of_lt_of_le (Heap.lt_size e) (Nat.le_trans I.ok.bsz z)) (Nat.lt_irrefl _)
 ·intro z
  rcases List.mem_cons.mp (I.stkSub b z) with q | q
  ·exact (hf b hb).2.1 q
  ·exact (hf b hb).2.2.1 q
 ·have hi:i < cap.length:=by
   unfold zaE at h2
   have:=(List.getElem?_eq_some_iff.mp h2).1
   simpa using this
  obtain ⟨j,hj,hv⟩:∃ j,cap[i]? = some (some j)∧σ[j]? = some (some v):=by
   unfold zaE at h2
   rw [List.getElem?_map] at h2
   cases e:cap[i]? with
   | none=>rw [e] at h2; cases h2
   | some o =>
    rw [e] at h2
    cases o with
    | none=>cases h2
    | some j =>
     refine ⟨j,rfl,?_⟩
     have h2:(σ[j]?).join = some v:=Option.some.inj h2
     cases q:σ[j]? with
     | none=>rw [q] at h2; cases h2
     | some y=>rw [q] at h2; cases y with
      | none=>cases h2
      | some z=>exact congrArg some h2
  obtain ⟨hN,hfree⟩:=zgo c.cap h1 hj
  have hk:=c.free (x,.free) (PySem.mem_of_lookup hfree) rfl
  obtain ⟨m,hm,hl⟩:=I.loc
  obtain ⟨u,ru,l⟩:=hl j x v hN hv (hk.elim (fun z=>.inr (.inl z)) fun z=>.inr (.inr z))
  refine ⟨u,ru,.inr ⟨zcs hfree,?_⟩⟩
  rcases l with ⟨k,_⟩ | ⟨_,a,ea,ca⟩
  ·have k:X.env.scope.names.lookup x = some .local:=k
   rcases hk with z | z <;> · rw [z] at k; cases k
  ·obtain ⟨a',ea'⟩:=zdp (env:=X.env) (x:=x) scope.names [] (.inl (PySem.mem_of_lookup hfree))
   have:=CI x a' ea'
   rw [ea] at this; cases this
   obtain ⟨o,q,d⟩:=ca
   exact ⟨a,ea',o,hsb a o q,d⟩
 ·obtain ⟨v,o,q,d⟩:=I.cell x a (CI x a e)
  exact ⟨v,o,hsb a o q,d⟩
 ·unfold zaE
  rw [List.length_map]
  exact c.len
end
noncomputable def PIfs (Y:Cx) (ifs:List Expr) (t:TT):Prop :=
 ∀ (pins:List (Addr × Obj)) (s:Shared) (σ:St) (H:Hp) (Q:Bool->Hp->Prop) (E:Value->Shared->Prop),Inv Y pins σ H s->t σ H Q ->
  wpAny (model Y.prog Y.w) Y.A (forIn ifs true fun c r=>if r = true then do let ok ← isTrue c Y.env (eval c Y.env); pure (ForInStep.yield ok) else pure (ForInStep.yield r)) (TP Y pins σ Q) E s
noncomputable def tTrue:TT:=fun _ H Q=>Q true H
theorem zaU {Y:Cx}:PIfs Y [] tTrue:=fun pins s σ H Q E I h=>wpAny_tests_nil ⟨H,I,h⟩
theorem zds {Y:Cx} {c:Expr} {t:TT} (h:PT Y.nox c t):PIfs Y [c] t:=fun pins s σ H Q E I hw =>
 wpAny_tests_one (wpAny_mono (h pins s σ H Q (I.wish _) hw) (fun _ _ ⟨H',I',q⟩=>⟨H',I'.unwish,q⟩) fun _ _ z=>False.elim z)
noncomputable def GKp (own:Nat->Bool) (g:TG):Prop:=∀ v σ H Q,g v σ H Q->g v σ H fun σ' H'=>(σ'.length = σ.length∧∀ i,own i = false->σ'[i]? = σ[i]?)∧Q σ' H'
theorem zaH {own:Nat->Bool} {j:Nat} (h:own j = true:=by rfl):GKp own (zbn j):=fun v σ H Q q =>
 ⟨⟨List.length_set ..,fun i hi=>List.getElem?_set_ne (fun e=>by rw [e,hi] at h; cases h)⟩,q⟩
noncomputable def zee (cap:List (Option Nat)) (i:Nat):Bool:=cap[i]? == some none
noncomputable def zbw (cap:List (Option Nat)) (wi:TI) (g:TG) (tt:TT) (te:TE):TE:=fun σ H Q=>wi σ H fun J H1=>∀ D,H1 D = none ->
 ∃ W:Nat->Nat->List V->Hp->Prop,(∃ m,W 0 m [] (upd H1 D (.lst [])))∧∀ i m ys H2,W i m ys H2->H2 D = some (.lst ys) ∧
  ((J.stop i H2∧Q (.ref D) H2) ∨ (J.go i H2∧ys.length < sizeLine∧∃ N:List V->Hp->Prop,(∀ ys' H',N ys' H'->∃ m',m' < m∧W (i + 1) m' ys' H')∧∀ x H3,J.yld i H2 x H3->g x (zaE cap σ) H3 fun σ4 H4=>tt σ4 H4 fun b H5 =>
   if b = true then te σ4 H5 fun y H6=>H6 D = some (.lst ys)∧N (ys ++ [y]) (upd H6 D (.lst (ys ++ [y]))) else N ys H5))
section
variable {X:Cx} {pins:List (Addr × Obj)} {σ:St} {H:Hp} {s:Shared} {scope:Scope} {N':List Str} {cap:List (Option Nat)}
theorem zdJ {tg elt iter:Expr} {ifs:List Expr} {pos:Pos} {g:TG} {tt:TT} {te:TE} {it:Addr} {fp:List Addr} {tn:Nat->Heap->Prop} {J:It} {RR:Value->Addr->Result->Shared->Prop} {Q:VK} {E:Value->Shared->Prop}
  (c:CompOk X scope N' cap) (hc:X.calm = true) (I:Inv X pins σ H s) (T:Turn X.prog X.w X.K tg J fp it tn) (st:tn 0 s.heap) (hf:∀ b ∈ fp,FpOk X pins H b)
  (hg:∀ C ex s H,PG (zbb X scope N' C ex s H) tg g) (hk:GKp (zee cap) g) (hi:∀ C ex s H,PIfs (zbb X scope N' C ex s H) ifs tt) (he:∀ C ex s H,PE (zbb X scope N' C ex s H) elt te)
  (h:∀ D,H D = none ->
   ∃ W:Nat->Nat->List V->Hp->Prop,(∃ m,W 0 m [] (upd H D (.lst [])))∧∀ i m ys H2,W i m ys H2->H2 D = some (.lst ys) ∧
    ((J.stop i H2∧Q (.ref D) H2) ∨ (J.go i H2∧ys.length < sizeLine∧∃ N:List V->Hp->Prop,(∀ ys' H',N ys' H'->∃ m',m' < m∧W (i + 1) m' ys' H')∧∀ x H3,J.yld i H2 x H3->g x (zaE cap σ) H3 fun σ4 H4=>tt σ4 H4 fun b H5 =>
     if b = true then te σ4 H5 fun y H6=>H6 D = some (.lst ys)∧N (ys ++ [y]) (upd H6 D (.lst (ys ++ [y]))) else N ys H5)))
  (hRR:∀ D C H' s',Inv X pins σ H' s'->FpOk X pins H' C->(∃ m,s'.heap.Ns C m)->Q (.ref D) H'->RR (.ref D) C (.ok .next) s') :
  wpAny (model X.prog X.w) X.A (newList []) (fun acc s₃=>wpAny (model X.prog X.w) X.A (newFunctionEnv scope X.env.globals (clOf X.env scope.names []) [] X.env.qual none .none (some X.env)) (fun cenv s₄ =>
   codeAny (model X.prog X.w) X.A (.compStart (.ListComp elt [⟨tg,iter,ifs,0⟩] scope pos) 0 (.ref it) acc { cenv with scope:=relabel scope X.env }) (RR acc cenv.locals) s₄) E s₃) E s:=by
 refine wpAny_newObj_type (wpAny_newFunctionEnv c.nocell (by intro y hy; simp at hy) (fun h₁ hns₁ hsb₁=>?_) c.kind)
 dsimp only at hns₁ hsb₁ ⊢
 have hD:H s.heap.objs.size = none:=I.hok.fresh (Nat.le_refl _)
 have I1:Inv X pins σ (upd H s.heap.objs.size (.lst [])) { s with heap:=s.heap.push { cls:=.type "list",dict:=none,data:=.seq ([]:List Value).toArray } } :=
  I.laid (t':=s.toks) (fun b u e=>Heap.get?_push_of_some _ e) (Nat.le_refl _) ⟨Nat.zero_le _,[],0,.nil,Heap.get?_push_size _ rfl⟩
 have ob:∀ b ∈ fp,∃ o,s.heap.get? b = some o∧∀ v,o.data ≠ .cell v:=T.obj 0 _ st
 have hf1:∀ b ∈ fp,FpOk X pins (upd H s.heap.objs.size (.lst [])) b:=fun b hb=>by
  obtain ⟨o,e,_⟩:=ob b hb
  have:b ≠ s.heap.objs.size:=Nat.ne_of_lt (Heap.lt_size e)
  exact ⟨by rw [zat this]; exact (hf b hb).1,(hf b hb).2⟩
 generalize hs1:({ s with heap:=s.heap.push { cls:=.type "list",dict:=none,data:=.seq ([]:List Value).toArray } }:Shared) = s1 at I1
 have hh:s.heap.push { cls:=.type "list",dict:=none,data:=.seq ([]:List Value).toArray } = s1.heap:=by rw [← hs1]
 have old1:∀ b o,s.heap.get? b = some o->s1.heap.get? b = some o:=fun b o e=>by rw [← hh]; exact Heap.get?_push_of_some _ e
 rw [hh] at hns₁ hsb₁ ⊢
 have old2:∀ b o,s1.heap.get? b = some o->h₁.get? b = some o:=fun b o e=>hsb₁.extBut b o (Nat.ne_of_lt (Heap.lt_size e)) (Heap.get?_push_of_some _ e)
 have J0:Inv (zbb X scope N' s1.heap.objs.size fp s1 (upd H s.heap.objs.size (.lst []))) [] (zaE cap σ) (upd H s.heap.objs.size (.lst [])) { s1 with heap:=h₁,toks:=s.toks + ([]:List (Str × Value)).length } :=
  zdl c I1 hf1 (fun b hb=>(ob b hb).imp fun o e=>old1 b o e.1) hns₁ old2
 have es4:({ heap:=h₁,gens:=s.gens,drawn:=s.drawn,toks:=s.toks + ([]:List (Str × Value)).length,os:=s.os }:Shared) = { s1 with heap:=h₁,toks:=s.toks + ([]:List (Str × Value)).length }:=by rw [← hs1]
 have st4:tn 0 ({ s1 with heap:=h₁,toks:=s.toks + ([]:List (Str × Value)).length }:Shared).heap:=T.keep 0 _ _ st fun b hb o e=>old2 b o (old1 b o e)
 rw [es4]
 generalize ({ s1 with heap:=h₁,toks:=s.toks + ([]:List (Str × Value)).length }:Shared) = s4 at J0 st4 ⊢
 obtain ⟨W,⟨m0,w0⟩,step⟩:=h _ hD
 generalize hY:zbb X scope N' s1.heap.objs.size fp s1 (upd H s.heap.objs.size (.lst [])) = Y at J0
 have stat:∀ {H':Hp},(∀ b ∈ fp,H' b = none)->∀ b ∈ fp,FpOk Y [] H' b:=fun hn b hb=>by
  obtain ⟨o,e,_⟩:=ob b hb
  have e1:=old1 b o e
  subst hY
  refine ⟨hn b hb,Nat.ne_of_lt (Heap.lt_size e1),fun z=>?_,.inl hb,fun x a q=>(J0.ok.exf b hb).2 x a q,fun p hp=>by simp [zbb] at hp⟩
  exact J0.ok.exfs b hb z
 have loop:codeAny (model X.prog X.w) X.A (.compLoop (.ListComp elt [⟨tg,iter,ifs,0⟩] scope pos) 0 (.ref it) (.ref s.heap.objs.size) (compEnvC scope (clOf X.env scope.names []) s1.heap.objs.size X.env)) (RR (.ref s.heap.objs.size) s1.heap.objs.size) s4:=by
  refine zcp (fun n s'=>∃ i ys H',Inv Y [] (zaE cap σ) H' s'∧tn i s'.heap∧(∀ b ∈ fp,H' b = none)∧W i n ys H') ?_ m0 ⟨0,[],_,J0,st4,fun b hb=>(hf1 b hb).1,w0⟩
  rintro n s3 ⟨i,ys,H3,I3,st3,fr3,w3⟩
  obtain ⟨hDl,alt⟩:=step i n ys H3 w3
  rcases alt with ⟨stop,q⟩ | ⟨go,hlen,NN,hNN,stp⟩
  ·have:=T.done Y (by rw [← hY]; rfl) (by rw [← hY]; rfl) (by rw [← hY]; rfl) (by rw [← hY]; exact hc) i [] s3 (zaE cap σ) H3 (notedBy (model X.prog X.w) X.A (compEnvC scope (clOf X.env scope.names []) s1.heap.objs.size X.env) fun e s'=>RR (.ref s.heap.objs.size) s1.heap.objs.size (.error e) s') I3 (stat fr3) st3 stop
   subst hY
   refine thn this fun r s5 zq_=>?_
   obtain ⟨hr,I5⟩:=zq_
   subst hr
   refine hRR _ _ H3 s5 (I1.call' I5.os I5.base I5.hok I5.bare fun b hb=>?_) (I1.fpOk (Nat.le_refl _) I5.free) (I5.loc.imp fun m z=>z.1) q
   obtain ⟨_,f1,f2,f3,f4,f5⟩:=hf1 b hb
   exact ⟨f3,f1,f4,f5⟩
  ·have:=T.item Y (by rw [← hY]; rfl) (by rw [← hY]; rfl) (by rw [← hY]; rfl) (by rw [← hY]; exact hc) i [] s3 (zaE cap σ) H3 (notedBy (model X.prog X.w) X.A (compEnvC scope (clOf X.env scope.names []) s1.heap.objs.size X.env) fun e s'=>RR (.ref s.heap.objs.size) s1.heap.objs.size (.error e) s') I3 (stat fr3) st3 go
   have hgY:=hg s1.heap.objs.size fp s1 (upd H s.heap.objs.size (.lst []))
   have hiY:=hi s1.heap.objs.size fp s1 (upd H s.heap.objs.size (.lst []))
   have heY:=he s1.heap.objs.size fp s1 (upd H s.heap.objs.size (.lst []))
   rw [hY] at hgY hiY heY
   have nox:∀ {P:Value->Shared->Prop} e s',Y.xe e s'->P e s':=fun e s' z=>by subst hY; exact False.elim z
   have eA:Y.A = X.A:=by rw [← hY]; rfl
   have eP:Y.prog = X.prog:=by rw [← hY]; rfl
   have eW:Y.w = X.w:=by rw [← hY]; rfl
   have eE:Y.env = compEnvC scope (clOf X.env scope.names []) s1.heap.objs.size X.env:=by rw [← hY]; rfl
   rw [← eA,← eP,← eW,← eE] at this ⊢
   refine thn this fun r s5 zq_=>?_
   obtain ⟨u,hr,h5⟩:=zq_
   subst hr
   refine thn h5 fun _ s6 zq_=>?_
   obtain ⟨x,H6,I6,rx,y6,st6,fr6⟩:=zq_
   have I6':=I6.pinned (stat fr6) (T.obj _ _ st6)
   refine wpAny_mono (hgY _ s6 (zaE cap σ) H6 x u _ I6' rx (hk _ _ _ _ (stp x H6 y6))) (fun _ s7 zq_=>?_) nox
   obtain ⟨σ7,H7,I7,⟨k1,k2⟩,q7⟩:=zq_
   refine thn (hiY _ s7 σ7 H7 _ _ I7 q7) fun ok s8 zq_=>?_
   obtain ⟨H8,I8,q8⟩:=zq_
   have again:∀ {H9:Hp} {s9:Shared} {σ9:St} {ys':List V},Inv Y ([] ++ zdj fp s6.heap) σ9 H9 s9->σ9.length = (zaE cap σ).length->(∀ (i:Nat) v,(zaE cap σ)[i]? = some (some v)->σ9[i]? = some (some v))->(∃ m',m' < n∧W (i + 1) m' ys' H9)->∃ m,m < n∧∃ i ys H',Inv Y [] (zaE cap σ) H' s9∧tn i s9.heap∧(∀ b ∈ fp,H' b = none)∧W i m ys H':=by
    rintro H9 s9 σ9 ys' I9 hl hw ⟨m',hm,w9⟩
    refine ⟨m',hm,i + 1,ys',H9,I9.unpinned.weak hl.symm hw,T.keep _ _ _ st6 fun b hb o e=>(I9.pin (b,o) (List.mem_append_right _ (List.mem_append_right _ (zbi hb e)))).1,fun b hb=>?_,w9⟩
    obtain ⟨o,e,d⟩:=T.obj _ _ st6 b hb
    exact (I9.pin (b,o) (List.mem_append_right _ (List.mem_append_right _ (zbi hb e)))).2.1
   have kw:∀ (i:Nat) v,(zaE cap σ)[i]? = some (some v)->σ7[i]? = some (some v):=fun i v e=>by
    rw [k2 i ?_]
    ·exact e
    ·unfold zee
     cases q:cap[i]? with
     | none=>rfl
     | some o =>
      cases o with
      | none =>
       unfold zaE at e
       rw [List.getElem?_map,q] at e
       cases e
      | some j=>rfl
   cases ok with
   | false =>
    rw [if_neg Bool.false_ne_true] at q8 ⊢
    exact again I8 k1 kw (hNN _ _ q8)
   | true =>
    rw [if_pos rfl] at q8 ⊢
    refine wpAny_mono (heY _ s8 σ7 H8 _ I8 q8) (fun u9 s9 zq_=>?_) nox
    obtain ⟨y,H9,I9,ry,hD9,q9⟩:=zq_
    refine wpAny_mono (mt_append (X:=Y) _ s9 σ7 H9 (.ref s.heap.objs.size) [y] (.ref s.heap.objs.size) [u9] (fun _ H10=>NN (ys ++ [y]) H10) I9 rfl (.cons ry .nil) ⟨_,ys,y,rfl,rfl,hD9,hlen,q9⟩) (fun _ s10 zq_=>?_) nox
    obtain ⟨_,H10,I10,_,q10⟩:=zq_
    exact again I10 k1 kw (hNN _ _ q10)
 exact codeAny_compStart_list loop (T.self X.A 0 _ _ _ st4 loop)
theorem zcQ {C:Addr} {H':Hp} {s':Shared} (I':Inv X pins σ H' s') (fC:FpOk X pins H' C) {h':Heap} (hs':Heap.SameBut C s'.heap h'):Inv X pins σ H' { s' with heap:=h' }:=by
 obtain ⟨f0,f1,f2,f3,f4,f5⟩:=fC
 exact I'.turned (t':=s'.toks) (fun b o hb e=>hs'.extBut b o hb e) f0 f1 f3 f4 f5
theorem za7 {tg elt iter:Expr} {ifs:List Expr} {pos:Pos} {wi:TI} {g:TG} {tt:TT} {te:TE} (c:CompOk X scope N' cap) (hc:X.calm = true) (hit:PI X tg iter wi)
  (hg:∀ C ex s H,PG (zbb X scope N' C ex s H) tg g) (hk:GKp (zee cap) g) (hi:∀ C ex s H,PIfs (zbb X scope N' C ex s H) ifs tt) (he:∀ C ex s H,PE (zbb X scope N' C ex s H) elt te)
  (hs:∀ x,foldedSetIterable iter X.env x = pure x:=by intro _; rfl):PE X (.ListComp elt [⟨tg,iter,ifs,0⟩] scope pos) (zbw cap wi g tt te):=by
 intro pins s σ H Q I h
 rw [eval_ListComp]
 refine wpAny_comprehension_free (use:=none) rfl hs (zbC (c.clos I)) c.kind c.names (thn (hit pins s σ H _ I h) fun v s1 h1=>thn h1 fun itv s2 h2=>?_)
 obtain ⟨it,fp,tn,J,H2,e,I2,T,st2,f2,q⟩:=h2
 subst e
 refine zdJ c hc I2 T st2 f2 hg hk hi he q fun D C H' s' I' fC hn hq=>?_
 obtain ⟨m,hn⟩:=hn
 exact ⟨m,hn,fun h' hs'=>⟨.ref D,H',zcQ I' fC hs',rfl,hq⟩⟩
theorem zej {i:Nat} {x:Str} {px spos:Pos} {tg elt iter:Expr} {ifs:List Expr} {pos:Pos} {wi:TI} {g:TG} {tt:TT} {te:TE} (hN:X.N.Nodup) (hx0:X.N[i]? = some x) (hx:Loc X.env.scope x)
  (c:CompOk X scope N' cap) (hc:X.calm = true) (hit:PI X tg iter wi)
  (hg:∀ C ex s H,PG (zbb X scope N' C ex s H) tg g) (hk:GKp (zee cap) g) (hi:∀ C ex s H,PIfs (zbb X scope N' C ex s H) ifs tt) (he:∀ C ex s H,PE (zbb X scope N' C ex s H) elt te)
  (hsw:swapsWith (.ListComp elt [⟨tg,iter,ifs,0⟩] scope pos) (some (.Name x px)) spos.line X.env = pure true:=by rfl)
  (hs:∀ x,foldedSetIterable iter X.env x = pure x:=by intro _; rfl) (hf:X.fn x = true ∨ X.env.scope.names.lookup x = some .local:=by first | exact .inl rfl | exact .inr rfl | assumption):PS X (.Assign [.Name x px] (.ListComp elt [⟨tg,iter,ifs,0⟩] scope pos) spos) (tAsg (zbw cap wi g tt te) (zbn i)):=by
 intro pins s σ H D0 I h
 rw [exec_Assign_Name_used _ _ _ _ hsw]
 refine wpAny_bind (wpAny_standAt (wpAny_bind ?_))
 show wpAny _ X.A (do let _ ← comprehension (.ListComp elt [⟨tg,iter,ifs,0⟩] scope pos) scope X.env _ (newList []) false (eval iter X.env) (some (assign (.Name x px) X.env))) _ _ s
 refine wpAny_bind (wpAny_mono (wpAny_comprehension_free (use:=some (assign (.Name x px) X.env)) (Q:=fun _ s'=>SP X pins D0 .next s') rfl hs (zbC (c.clos I)) c.kind c.names
  (thn (hit pins s σ H _ I h) fun v s1 h1=>thn h1 fun itv s2 h2=>?_)) (fun _ s' hq=>wpAny_pure (wpAny_pure hq)) fun _ _ e=>e)
 obtain ⟨it,fp,tn,J,H2,e,I2,T,st2,f2,q⟩:=h2
 subst e
 refine zdJ (Q:=fun v H1=>zbn i v σ H1 D0.nx) c hc I2 T st2 f2 hg hk hi he q fun D C H' s' I' fC hn hq=>?_
 obtain ⟨m,hn⟩:=hn
 refine wpAny_assign_Name (zcW (v:=.ref D) I' hN hx0 hx rfl (fun s'' I'' zq_=>?_) hf)
 obtain ⟨a,sb,ha⟩:=zq_
 have hne:C ≠ a:=by
  rcases ha with z | z
  ·rw [z]; exact fC.2.1
  ·exact fun e=>fC.2.2.2.2.1 x a z e.symm
 exact ⟨m,hn.sameBut sb hne,fun h' hs'=>⟨σ.set i (some (.ref D)),H',zcQ I'' fC hs',hq⟩⟩
end
theorem zd0 {K:PySem.W.Frag} {a D:Addr} {xs:List V} {g:TG} {tt:TT} {te:TE} {σ0:St} {H1:Hp} {R:Hp->Prop} (Pv:Nat->List V->Hp->Prop) (h0:Pv 0 [] (upd H1 D (.lst [])))
  (hl:∀ i ys H,i ≤ xs.length->Pv i ys H->SqL K H a xs∧H D = some (.lst ys)∧ys.length ≤ i) (hz:xs.length ≤ sizeLine)
  (hs:∀ i x ys H,xs[i]? = some x->Pv i ys H->g x σ0 H fun σ4 H4=>tt σ4 H4 fun b H5=>if b = true then te σ4 H5 fun y H6=>H6 D = some (.lst ys)∧Pv (i + 1) (ys ++ [y]) (upd H6 D (.lst (ys ++ [y]))) else Pv (i + 1) ys H5)
  (hd:∀ ys H,Pv xs.length ys H->R H) :
  ∃ W:Nat->Nat->List V->Hp->Prop,(∃ m,W 0 m [] (upd H1 D (.lst [])))∧∀ i m ys H2,W i m ys H2->H2 D = some (.lst ys) ∧
   (((Itl K a).stop i H2∧R H2) ∨ ((Itl K a).go i H2∧ys.length < sizeLine∧∃ N:List V->Hp->Prop,(∀ ys' H',N ys' H'->∃ m',m' < m∧W (i + 1) m' ys' H')∧∀ x H3,(Itl K a).yld i H2 x H3->g x σ0 H3 fun σ4 H4=>tt σ4 H4 fun b H5 =>
    if b = true then te σ4 H5 fun y H6=>H6 D = some (.lst ys)∧N (ys ++ [y]) (upd H6 D (.lst (ys ++ [y]))) else N ys H5)):=by
 refine ⟨fun i m ys H=>m = xs.length - i∧i ≤ xs.length∧Pv i ys H,⟨xs.length,by simp,Nat.zero_le _,h0⟩,?_⟩
 rintro i m ys H2 ⟨rfl,hi,p⟩
 obtain ⟨q,hD,hly⟩:=hl i ys H2 hi p
 refine ⟨hD,?_⟩
 by_cases hlt:i < xs.length
 ·refine .inr ⟨⟨xs,xs[i],q,by simp [hlt]⟩,by omega,Pv (i + 1),fun ys' H' p'=>⟨xs.length - (i + 1),by omega,rfl,hlt,p'⟩,fun x H3 y=>?_⟩
  obtain ⟨e,y⟩:=y
  subst e
  exact hs i x ys _ (y xs q) p
 ·have e:i = xs.length:=by omega
  subst e
  exact .inl ⟨⟨xs,q,Nat.le_refl _⟩,hd ys H2 p⟩
theorem zgF {K:PySem.W.Frag} {a D:Addr} {xs:List V} {g:TG} {tt:TT} {te:TE} {σ0:St} {H1:Hp} {R:Hp->Prop} (Pv:Nat->List V->Hp->Prop) (h0:Pv 0 [] (upd H1 D (.lst [])))
  (hl:∀ i ys H,i ≤ xs.length->Pv i ys H->SqT K H a xs∧H D = some (.lst ys)∧ys.length ≤ i) (hz:xs.length ≤ sizeLine)
  (hs:∀ i x ys H,xs[i]? = some x->Pv i ys H->g x σ0 H fun σ4 H4=>tt σ4 H4 fun b H5=>if b = true then te σ4 H5 fun y H6=>H6 D = some (.lst ys)∧Pv (i + 1) (ys ++ [y]) (upd H6 D (.lst (ys ++ [y]))) else Pv (i + 1) ys H5)
  (hd:∀ ys H,Pv xs.length ys H->R H) :
  ∃ W:Nat->Nat->List V->Hp->Prop,(∃ m,W 0 m [] (upd H1 D (.lst [])))∧∀ i m ys H2,W i m ys H2->H2 D = some (.lst ys) ∧
   (((Itt K a).stop i H2∧R H2) ∨ ((Itt K a).go i H2∧ys.length < sizeLine∧∃ N:List V->Hp->Prop,(∀ ys' H',N ys' H'->∃ m',m' < m∧W (i + 1) m' ys' H')∧∀ x H3,(Itt K a).yld i H2 x H3->g x σ0 H3 fun σ4 H4=>tt σ4 H4 fun b H5 =>
    if b = true then te σ4 H5 fun y H6=>H6 D = some (.lst ys)∧N (ys ++ [y]) (upd H6 D (.lst (ys ++ [y]))) else N ys H5)):=by
 refine ⟨fun i m ys H=>m = xs.length - i∧i ≤ xs.length∧Pv i ys H,⟨xs.length,by simp,Nat.zero_le _,h0⟩,?_⟩
 rintro i m ys H2 ⟨rfl,hi,p⟩
 obtain ⟨q,hD,hly⟩:=hl i ys H2 hi p
 refine ⟨hD,?_⟩
 by_cases hlt:i < xs.length
 ·refine .inr ⟨⟨xs,xs[i],q,by simp [hlt]⟩,by omega,Pv (i + 1),fun ys' H' p'=>⟨xs.length - (i + 1),by omega,rfl,hlt,p'⟩,fun x H3 y=>?_⟩
  obtain ⟨e,y⟩:=y
  subst e
  exact hs i x ys _ (y xs q) p
 ·have e:i = xs.length:=by omega
  subst e
  exact .inl ⟨⟨xs,q,Nat.le_refl _⟩,hd ys H2 p⟩
theorem zfm {lo:Int} {n:Nat} {D:Addr} {g:TG} {tt:TT} {te:TE} {σ0:St} {H1:Hp} {R:Hp->Prop} (Pv:Nat->List V->Hp->Prop) (h0:Pv 0 [] (upd H1 D (.lst [])))
  (hl:∀ i ys H,i ≤ n->Pv i ys H->H D = some (.lst ys)∧ys.length ≤ i) (hz:n ≤ sizeLine)
  (hs:∀ i ys H,i < n->Pv i ys H->g (.int (lo + i)) σ0 H fun σ4 H4=>tt σ4 H4 fun b H5=>if b = true then te σ4 H5 fun y H6=>H6 D = some (.lst ys)∧Pv (i + 1) (ys ++ [y]) (upd H6 D (.lst (ys ++ [y]))) else Pv (i + 1) ys H5)
  (hd:∀ ys H,Pv n ys H->R H) :
  ∃ W:Nat->Nat->List V->Hp->Prop,(∃ m,W 0 m [] (upd H1 D (.lst [])))∧∀ i m ys H2,W i m ys H2->H2 D = some (.lst ys) ∧
   (((Itr lo n).stop i H2∧R H2) ∨ ((Itr lo n).go i H2∧ys.length < sizeLine∧∃ N:List V->Hp->Prop,(∀ ys' H',N ys' H'->∃ m',m' < m∧W (i + 1) m' ys' H')∧∀ x H3,(Itr lo n).yld i H2 x H3->g x σ0 H3 fun σ4 H4=>tt σ4 H4 fun b H5 =>
    if b = true then te σ4 H5 fun y H6=>H6 D = some (.lst ys)∧N (ys ++ [y]) (upd H6 D (.lst (ys ++ [y]))) else N ys H5)):=by
 refine ⟨fun i m ys H=>m = n - i∧i ≤ n∧Pv i ys H,⟨n,by simp,Nat.zero_le _,h0⟩,?_⟩
 rintro i m ys H2 ⟨rfl,hi,p⟩
 obtain ⟨hD,hly⟩:=hl i ys H2 hi p
 refine ⟨hD,?_⟩
 by_cases hlt:i < n
 ·refine .inr ⟨hlt,by omega,Pv (i + 1),fun ys' H' p'=>⟨n - (i + 1),by omega,rfl,hlt,p'⟩,fun x H3 y=>?_⟩
  obtain ⟨e,y⟩:=y
  subst e y
  exact hs i ys _ hlt p
 ·have e:i = n:=by omega
  subst e
  exact .inl ⟨Nat.le_refl _,hd ys H2 p⟩
end L2
set_option Elab.async false
set_option linter.all false
set_option maxRecDepth 100000
namespace L2
open PySem PySem.Spec PyProof.Rows
noncomputable def zgA (i j:Int):Prop:=0 < j∧j ≤ 10 ^ 70
section
variable {X:Cx}
theorem op_fdivB:OpR X (binaryOp .FloorDiv) (rI zgA fun i j=>.int (i / j)):=opI fun i j _ _ _ _ _ hc q=>by
 have h1:(0:Int) < j:=hc.1
 have h2:j ≤ 10 ^ 70:=hc.2
 refine floordiv_int (by omega) ?_ (.inl (PyProof.noPylong_of_log2 ?_))
 ·rw [Int.fdiv_eq_ediv_of_nonneg _ (by omega)]
  exact q
 ·have h3:j.natAbs < 2 ^ 300:=by
   have:(j.natAbs:Int) = j:=by omega
   have h4:(10:Int) ^ 70 < 2 ^ 300:=by decide
   omega
  have h5:j.natAbs.log2 < 300:=(Nat.log2_lt (by omega)).mpr h3
  omega
theorem call_isinst:zb9 X (.builtin "isinstance") (fun xs H Q=>∃ x n t b,xs = [x,.ty n]∧TyOf X.K H x t∧PySem.W.kitOne X.K t (.type n) = some b∧Q (.bl b) H):=by
 intro pins s σ H xs us Q I r h
 obtain ⟨x,n,t,b,rfl,ty,e,q⟩:=h
 obtain ⟨u,v,rfl,ru,rv⟩:=Vals.two r
 cases rv
 exact zfA I ru ty e fun tk=>⟨.bl b,H,I.tok _,rfl,q⟩
end
noncomputable def eqVs (xs ys:List V):Bool:=xs.length == ys.length && (xs.zip ys).all fun p=>eqV p.1 p.2
theorem range_all_zip:∀ (xs ys:List V),xs.length = ys.length->((List.range xs.length).all fun j=>eqV (xs.getD j .non) (ys.getD j .non)) = (xs.zip ys).all fun p=>eqV p.1 p.2
 | [],[],_=>rfl
 | x :: xs,y :: ys,h=>by
  have ih:=range_all_zip xs ys (by simpa using h)
  rw [List.length_cons,List.range_succ_eq_map,List.all_cons,List.all_map,List.zip_cons_cons,List.all_cons,← ih]
  rfl
 | [],_ :: _,h=>by simp at h
 | _ :: _,[],h=>by simp at h
theorem range_all_zip':∀ (xs ys:List V),((List.range (min xs.length ys.length)).all fun j=>eqV (xs.getD j .non) (ys.getD j .non)) = (xs.zip ys).all fun p=>eqV p.1 p.2
 | [],ys=>by simp
 | x :: xs,[]=>by simp
 | x :: xs,y :: ys=>by
  have ih:=range_all_zip' xs ys
  rw [List.length_cons,List.length_cons,Nat.succ_min_succ,Nat.succ_eq_add_one,List.range_succ_eq_map,List.all_cons,List.all_map,List.zip_cons_cons,List.all_cons,← ih]
  rfl
noncomputable def rEqD (K:PySem.W.Frag) (neg:Bool):R2:=fun x y H Q=>∃ l b xs ys,x = .ref l∧y = .ref b∧((SqL K H l xs∧SqL K H b ys) ∨ (SqT K H l xs∧SqT K H b ys))∧xs.all flatV = true∧ys.all flatV = true ∧
 Q (.bl (if neg then !eqVs xs ys else eqVs xs ys)) H
section
variable {X:Cx}
theorem zdi {A:Around} {s:Shared} {xs ys:List V} {us ws:List Value} (r:Vals xs us) (q:Vals ys ws) (fx:xs.all flatV = true) (fy:ys.all flatV = true) :
  ∀ j (h1:j < us.toArray.size) (h2:j < ws.toArray.size),SeqAt.EqAt A s us.toArray[j] ws.toArray[j] (eqV (xs.getD j .non) (ys.getD j .non)):=by
 intro j h1 h2
 have l1:=r.length
 have l2:=q.length
 simp only [List.size_toArray] at h1 h2
 have hx:xs[j]? = some xs[j]:=List.getElem?_eq_getElem (by omega)
 have hy:ys[j]? = some ys[j]:=List.getElem?_eq_getElem (by omega)
 obtain ⟨u,eu,ru⟩:=r.get hx
 obtain ⟨v,ev,rv⟩:=q.get hy
 have e1:us.toArray[j] = u:=by
  have:=(List.getElem?_eq_some_iff.mp eu).2
  simpa using this
 have e2:ws.toArray[j] = v:=by
  have:=(List.getElem?_eq_some_iff.mp ev).2
  simpa using this
 have e3:xs.getD j .non = xs[j]:=by rw [List.getD_eq_getElem?_getD,hx]; rfl
 have e4:ys.getD j .non = ys[j]:=by rw [List.getD_eq_getElem?_getD,hy]; rfl
 rw [e1,e2,e3,e4]
 exact zhE ru rv (List.all_eq_true.mp fx _ (List.getElem_mem _)) (List.all_eq_true.mp fy _ (List.getElem_mem _))
theorem zjc (hu:X.A.units + 1 < cLine):OpR X (compareOp .NotEq) (rEqD X.K true):=by
 intro pins s σ H x y v u Q I rx ry h
 obtain ⟨l,b,xs,ys,rfl,rfl,hq,fx,fy,q⟩:=h
 cases rx
 cases ry
 rcases hq with ⟨h1,h2⟩ | ⟨h1,h2⟩
 ·obtain ⟨us,r1,p1,z1⟩:=I.list h1
  obtain ⟨ws,r2,p2,z2⟩:=I.list h2
  have l1:=r1.length
  have l2:=r2.length
  by_cases hl:xs.length = ys.length
  ·refine SeqAt.RcNeAt.lists p1.isList p2.isList (by simp; omega) (by omega) (zdi r1 r2 fx fy) _ _ _ _ ⟨.bl _,H,I,rfl,?_⟩
   have e:(List.range us.toArray.size).all (fun j=>eqV (xs.getD j .non) (ys.getD j .non)) = eqVs xs ys:=by
    unfold eqVs
    rw [List.size_toArray,← l1,range_all_zip xs ys hl,hl]
    simp
   rw [e]
   exact q
  ·refine SeqAt.RcNeAt.lists_lengths p1.isList p2.isList (by simp; omega) (by omega) _ _ _ _ ⟨.bl _,H,I,rfl,?_⟩
   have e:eqVs xs ys = false:=by unfold eqVs; simp [hl]
   have q:Q (.bl (!eqVs xs ys)) H:=q
   rw [e] at q
   exact q
 ·obtain ⟨us,r1,p1,z1⟩:=I.tuple h1
  obtain ⟨ws,r2,p2,z2⟩:=I.tuple h2
  have l1:=r1.length
  have l2:=r2.length
  refine SeqAt.RcNeAt.tuples p1 p2 (by omega) (zdi r1 r2 fx fy) _ _ _ _ ⟨.bl _,H,I,rfl,?_⟩
  have e:((List.range (min us.toArray.size ws.toArray.size)).all (fun j=>eqV (xs.getD j .non) (ys.getD j .non)) && us.toArray.size == ws.toArray.size) = eqVs xs ys:=by
   unfold eqVs
   rw [List.size_toArray,List.size_toArray,← l1,← l2,range_all_zip' xs ys,Bool.and_comm]
  rw [e]
  exact q
end
noncomputable def seqV (H:Hp) (p:Addr):Option (List V):=match H p with
 | some (.lst xs)=>some xs
 | some (.tup xs)=>some xs
 | some (.frz _ (.lst xs))=>some xs
 | _=>none
theorem zc6 {K:PySem.W.Frag} {H:Hp} {p:Addr} {xs:List V} (h:seqV H p = some xs):SqL K H p xs ∨ SqT K H p xs:=by
 unfold seqV at h
 split at h
 ·rename_i e; cases h; exact .inl (.of e)
 ·rename_i e; cases h; exact .inr (.of e)
 ·rename_i o ys e; cases h; exact .inl (.inl (.inr ⟨o,e⟩))
 ·cases h
noncomputable def rIxF:R2:=fun x y H Q=>∃ p i xs v,x = .ref p∧y = .int i∧seqV H p = some xs∧atI xs i = some v∧Q v H
noncomputable def tyF (x:V) (H:Hp):Option String:=match x with
 | .non=>some "NoneType"
 | .bl _=>some "bool"
 | .int _=>some "int"
 | .str _=>some "str"
 | .ref a=>match H a with
  | some (.lst _)=>some "list"
  | some (.frz _ (.lst _))=>some "list"
  | some (.tup _)=>some "tuple"
  | some (.dK _)=>some "dict"
  | some (.dT _)=>some "dict"
  | _=>none
 | _=>none
noncomputable def isTy (t n:String):Bool:=t == n || (t == "bool" && n == "int")
theorem zji {K:PySem.W.Frag} {x:V} {H:Hp} {t:String} (h:tyF x H = some t):TyOf K H x (.type t)∧(t = "NoneType" ∨ t = "bool" ∨ t = "int" ∨ t = "str" ∨ t = "list" ∨ t = "tuple" ∨ t = "dict"):=by
 unfold tyF at h
 split at h
 ·cases h; exact ⟨.non,by simp⟩
 ·cases h; exact ⟨.bl _,by simp⟩
 ·cases h; exact ⟨.int _,by simp⟩
 ·cases h; exact ⟨.str _,by simp⟩
 ·split at h
  ·rename_i e; cases h; exact ⟨.lst e,by simp⟩
  ·rename_i e; cases h; exact ⟨.frz e,by simp⟩
  ·rename_i e; cases h; exact ⟨.tup e,by simp⟩
  ·rename_i e; cases h; exact ⟨.dK e,by simp⟩
  ·rename_i e; cases h; exact ⟨.dT e,by simp⟩
  ·cases h
 ·cases h
theorem zfq {K:PySem.W.Frag} {t n:String} (h:t = "NoneType" ∨ t = "bool" ∨ t = "int" ∨ t = "str" ∨ t = "list" ∨ t = "tuple" ∨ t = "dict") (hn:n = "bool" ∨ n = "int" ∨ n = "str" ∨ n = "list" ∨ n = "tuple" ∨ n = "dict") :
  PySem.W.kitOne K (.type t) (.type n) = some (isTy t n):=by
 rcases h with rfl | rfl | rfl | rfl | rfl | rfl | rfl <;> rcases hn with rfl | rfl | rfl | rfl | rfl | rfl <;> rfl
noncomputable def lenF (x:V) (H:Hp):Option Nat:=match x with
 | .str y=>if y.length ≤ sizeLine then some y.length else none
 | .ref p=>match H p with
  | some (.lst xs)=>some xs.length
  | some (.tup xs)=>some xs.length
  | some (.frz _ (.lst xs))=>some xs.length
  | _=>none
 | _=>none
theorem ziB {K:PySem.W.Frag} {x:V} {H:Hp} {n:Nat} (h:lenF x H = some n):LenV K x H n:=by
 unfold lenF at h
 split at h
 ·split at h
  ·rename_i z; cases h; exact ⟨z,rfl⟩
  ·cases h
 ·split at h
  ·rename_i e; cases h; exact .inl ⟨_,.of e,rfl⟩
  ·rename_i e; cases h; exact .inr ⟨_,.of e,rfl⟩
  ·rename_i o xs e; cases h; exact .inl ⟨_,.inl (.inr ⟨o,e⟩),rfl⟩
  ·cases h
 ·cases h
noncomputable def zc1 (H:Hp) (p:Addr):Option Bool:=match H p with
 | some (.lst _)=>some true
 | some (.frz _ (.lst _))=>some true
 | some (.tup _)=>some false
 | _=>none
theorem zbV {K:PySem.W.Frag} {H:Hp} {p:Addr} {xs:List V} (h:seqV H p = some xs) (k:zc1 H p = some true):SqL K H p xs:=by
 rcases zc6 (K:=K) h with q | q
 ·exact q
 ·unfold seqV at h
  unfold zc1 at k
  split at h
  ·rename_i e; cases h; exact .of e
  ·rename_i e; rw [e] at k; cases k
  ·rename_i o ys e; cases h; exact .inl (.inr ⟨o,e⟩)
  ·cases h
theorem zfo {K:PySem.W.Frag} {H:Hp} {p:Addr} {xs:List V} (h:seqV H p = some xs) (k:zc1 H p = some false):SqT K H p xs:=by
 unfold seqV at h
 unfold zc1 at k
 split at h
 ·rename_i e; rw [e] at k; cases k
 ·rename_i e; cases h; exact .of e
 ·rename_i o ys e; rw [e] at k; cases k
 ·cases h
noncomputable def rEqF (neg:Bool):R2:=fun x y H Q=>∃ l b k xs ys,x = .ref l∧y = .ref b∧seqV H l = some xs∧seqV H b = some ys∧zc1 H l = some k∧zc1 H b = some k∧xs.all flatV = true∧ys.all flatV = true ∧
 Q (.bl (if neg then !eqVs xs ys else eqVs xs ys)) H
theorem zjd {K:PySem.W.Frag} {neg:Bool} {x y:V} {H:Hp} {Q:VK} (h:rEqF neg x y H Q):rEqD K neg x y H Q:=by
 obtain ⟨l,b,k,xs,ys,e1,e2,h1,h2,k1,k2,r⟩:=h
 cases k with
 | true=>exact ⟨l,b,xs,ys,e1,e2,.inl ⟨zbV h1 k1,zbV h2 k2⟩,r⟩
 | false=>exact ⟨l,b,xs,ys,e1,e2,.inr ⟨zfo h1 k1,zfo h2 k2⟩,r⟩
section
variable {X:Cx}
theorem ix_F:IxR X rIxF:=by
 intro value slice pins s σ H x y v u Q I rx ry h hs
 obtain ⟨p,i,xs,z,e1,e2,hq,he,q⟩:=h
 rcases zc6 (K:=X.K) hq with g | g
 ·exact ix_list value slice pins s σ H x y v u Q I rx ry ⟨p,xs,i,z,e1,e2,g,he,q⟩ hs
 ·exact ix_tup value slice pins s σ H x y v u Q I rx ry ⟨p,xs,i,z,e1,e2,g,he,q⟩ hs
theorem call_isF:zb9 X (.builtin "isinstance") (fun xs H Q=>∃ x n t,xs = [x,.ty n]∧tyF x H = some t∧(n = "bool" ∨ n = "int" ∨ n = "str" ∨ n = "list" ∨ n = "tuple" ∨ n = "dict")∧Q (.bl (isTy t n)) H):=by
 intro pins s σ H xs us Q I r h
 obtain ⟨x,n,t,e,ht,hn,q⟩:=h
 obtain ⟨ty,h7⟩:=zji (K:=X.K) ht
 exact call_isinst pins s σ H xs us Q I r ⟨x,n,_,_,e,ty,zfq h7 hn,q⟩
theorem call_lenF:zb9 X (.builtin "len") (fun xs H Q=>∃ x n,xs = [x]∧lenF x H = some n∧Q (.int n) H):=by
 intro pins s σ H xs us Q I r h
 obtain ⟨x,n,e,hl,q⟩:=h
 exact call_len pins s σ H xs us Q I r ⟨x,n,e,ziB hl,q⟩
theorem ziK (hu:X.A.units + 1 < cLine):OpR X (compareOp .NotEq) (rEqF true):=fun pins s σ H x y v u Q I rx ry h=>zjc hu pins s σ H x y v u Q I rx ry (zjd h)
end
theorem zgJ {i j:Int}:scal (.int i) (.int j) = true:=rfl
theorem zh0 {i j:Bool}:scal (.bl i) (.bl j) = true:=rfl
theorem zgH {i j:Str}:scal (.str i) (.str j) = true:=rfl
theorem zc4 {α:Type} {x:α} {r:List α}:atI (x :: r) 0 = some x:=zaQ (j:=0) rfl
theorem zdC {α:Type} {x y:α} {r:List α}:atI (x :: y :: r) 1 = some y:=zaQ (j:=1) rfl
theorem zdZ {α:Type} {x y z:α} {r:List α}:atI (x :: y :: z :: r) 2 = some z:=zaQ (j:=2) rfl
theorem ze4 {α:Type} {x y z w:α} {r:List α}:atI (x :: y :: z :: w :: r) 3 = some w:=zaQ (j:=3) rfl
theorem atI_4 {α:Type} {x y z w v:α} {r:List α}:atI (x :: y :: z :: w :: v :: r) 4 = some v:=zaQ (j:=4) rfl
theorem isTys:isTy "NoneType" "bool" = false∧isTy "NoneType" "int" = false∧isTy "NoneType" "str" = false∧isTy "NoneType" "list" = false∧isTy "NoneType" "tuple" = false∧isTy "NoneType" "dict" = false∧isTy "bool" "bool" = true∧isTy "bool" "int" = true∧isTy "bool" "str" = false∧isTy "bool" "list" = false∧isTy "bool" "tuple" = false∧isTy "bool" "dict" = false∧isTy "int" "bool" = false∧isTy "int" "int" = true∧isTy "int" "str" = false∧isTy "int" "list" = false∧isTy "int" "tuple" = false∧isTy "int" "dict" = false∧isTy "str" "bool" = false∧isTy "str" "int" = false∧isTy "str" "str" = true∧isTy "str" "list" = false∧isTy "str" "tuple" = false∧isTy "str" "dict" = false∧isTy "list" "bool" = false∧isTy "list" "int" = false∧isTy "list" "str" = false∧isTy "list" "list" = true∧isTy "list" "tuple" = false∧isTy "list" "dict" = false∧isTy "tuple" "bool" = false∧isTy "tuple" "int" = false∧isTy "tuple" "str" = false∧isTy "tuple" "list" = false∧isTy "tuple" "tuple" = true∧isTy "tuple" "dict" = false∧isTy "dict" "bool" = false∧isTy "dict" "int" = false∧isTy "dict" "str" = false∧isTy "dict" "list" = false∧isTy "dict" "tuple" = false∧isTy "dict" "dict" = true:=by decide
noncomputable def tyO:Option HO->Option String
 | some (.lst _)=>some "list"
 | some (.frz _ (.lst _))=>some "list"
 | some (.tup _)=>some "tuple"
 | some (.dK _)=>some "dict"
 | some (.dT _)=>some "dict"
 | _=>none
noncomputable def lenO:Option HO->Option Nat
 | some (.lst xs)=>some xs.length
 | some (.tup xs)=>some xs.length
 | some (.frz _ (.lst xs))=>some xs.length
 | _=>none
noncomputable def seqO:Option HO->Option (List V)
 | some (.lst xs)=>some xs
 | some (.tup xs)=>some xs
 | some (.frz _ (.lst xs))=>some xs
 | _=>none
noncomputable def kindO:Option HO->Option Bool
 | some (.lst _)=>some true
 | some (.frz _ (.lst _))=>some true
 | some (.tup _)=>some false
 | _=>none
theorem zin {a:Addr} {H:Hp}:tyF (.ref a) H = tyO (H a):=rfl
theorem zis {i:Int} {H:Hp}:tyF (.int i) H = some "int":=rfl
theorem zi1 {i:Bool} {H:Hp}:tyF (.bl i) H = some "bool":=rfl
theorem zim {i:Str} {H:Hp}:tyF (.str i) H = some "str":=rfl
theorem zhV {H:Hp}:tyF .non H = some "NoneType":=rfl
theorem zcC {a:Addr} {H:Hp}:lenF (.ref a) H = lenO (H a):=rfl
theorem zil {a:Addr} {H:Hp}:seqV H a = seqO (H a):=rfl
theorem zha {a:Addr} {H:Hp}:zc1 H a = kindO (H a):=rfl
theorem zhQ {xs:List V}:tyO (some (.lst xs)) = some "list":=rfl
theorem zh1 {o:Obj} {xs:List V}:tyO (some (.frz o (.lst xs))) = some "list":=rfl
theorem zib {xs:List V}:tyO (some (.tup xs)) = some "tuple":=rfl
theorem ziC {xs}:tyO (some (.dK xs)) = some "dict":=rfl
theorem zgZ {xs:List V}:lenO (some (.lst xs)) = some xs.length:=rfl
theorem zgW {o:Obj} {xs:List V}:lenO (some (.frz o (.lst xs))) = some xs.length:=rfl
theorem zg5 {xs:List V}:lenO (some (.tup xs)) = some xs.length:=rfl
theorem zgS {xs:List V}:seqO (some (.lst xs)) = some xs:=rfl
theorem zgO {o:Obj} {xs:List V}:seqO (some (.frz o (.lst xs))) = some xs:=rfl
theorem zhj {xs:List V}:seqO (some (.tup xs)) = some xs:=rfl
theorem zgh {xs:List V}:kindO (some (.lst xs)) = some true:=rfl
theorem zfy {o:Obj} {xs:List V}:kindO (some (.frz o (.lst xs))) = some true:=rfl
theorem zfw {xs:List V}:kindO (some (.tup xs)) = some false:=rfl
theorem zaj {H:Hp} {p q:Addr} {o u:HO} (hq:H q = some o) (hp:H p = none):upd H p u q = some o:=by rw [zat (zaA hq hp)]; exact hq
theorem Same.laid {H:Hp} {p:Addr} {u:HO} (hp:H p = none):Same H (upd H p u):=fun _ _ h=>zaj h hp
theorem Same.step {H H1:Hp} {p:Addr} {u:HO} (s:Same H H1) (hp:H1 p = none):Same H (upd H1 p u):=s.trans (.laid hp)
theorem zaD {α:Type} {f:α->V} {l:List α} {i:Nat} {x:V} (h:(l.map f)[i]? = some x):∃ z,l[i]? = some z∧x = f z:=by
 rw [List.getElem?_map] at h
 cases e:l[i]? with
 | none=>rw [e] at h; cases h
 | some z=>rw [e] at h; exact ⟨z,rfl,(Option.some.inj h).symm⟩
end L2
set_option Elab.async false
set_option linter.all false
set_option maxRecDepth 100000
namespace L2
open PySem PySem.Spec PyProof.Rows
section
variable {prog:Program} {w:World} {A:Around} {E:Value->Shared->Prop} {s:Shared}
end
section
variable {X:Cx} {tg:Expr}
end
end L2
set_option Elab.async false
set_option linter.all false
set_option maxRecDepth 100000
namespace L2
open PySem PySem.Spec PyProof.Rows
noncomputable def Its (z:Str):It:=⟨fun i _=>i < z.cps.size,fun i H x H'=>H' = H∧∃ c,z.cps[i]? = some c∧x = .str ⟨#[c]⟩,fun i _=>z.cps.size ≤ i⟩
theorem zg7 {P:Program} {w:World} {K:PySem.W.Frag} {tg:Expr} (it:Addr) (z:Str) (t:Tok):Turn P w K tg (Its z) [it] it (fun i h=>h.IsStrIter it "str_ascii_iterator" z t i) where
 mem:=by simp
 obj:=fun i h st b hb=>by
  have e:b = it:=by simpa using hb
  subst e
  obtain ⟨o,e,c,d⟩:=st
  exact ⟨o,e,fun v z=>by rw [d] at z; cases z⟩
 keep:=fun i h h' st k=>let ⟨o,ho,r⟩:=st; ⟨o,k it (by simp) o ho,r⟩
 item:=by
  intro X hP hw hK hc i pins s σ H E I hf st hg
  subst hP hw hK
  obtain ⟨f0,f1,f2,f3,f4,f5⟩:=hf it (by simp)
  have hi:i < z.cps.size:=hg
  refine (Walks.strAscii (prog:=X.prog) (w:=X.w) (I.ok.hd hc) it z t).item i s _ _ hi st fun v h' tk hv st' kk=>?_
  obtain ⟨c,u,hcu,rfl⟩:=hv
  have I1:Inv X pins σ H { s with heap:=h',toks:=tk }:=I.turned (fun b o hb e=>kk b o (by simpa using hb) e) f0 f1 f3 f4 f5
  obtain ⟨o,e1,e2,e3⟩:=id st'
  exact ⟨_,rfl,zg6 (s:={ s with heap:=h',toks:=tk }) e1 e2 e3 (by decide) ⟨.str ⟨#[c]⟩,H,I1,⟨u,rfl⟩,⟨rfl,c,hcu,rfl⟩,st',fun b hb=>(hf b hb).1⟩⟩
 done:=by
  intro X hP hw hK hc i pins s σ H E I hf st hg
  subst hP hw hK
  obtain ⟨f0,f1,f2,f3,f4,f5⟩:=hf it (by simp)
  have hi:z.cps.size ≤ i:=hg
  exact wpAny_pyNext_ascii_end (I.ok.hd hc) st (by simp; omega) fun h' eb=>⟨rfl,I.turned (t':=s.toks) (fun b o hb e=>eb b o hb e) f0 f1 f3 f4 f5⟩
 self:=fun _ _ _ _ _ st h=>wpAny_pyIter_striter_ascii st h
section
variable {X:Cx} {tg:Expr}
noncomputable def iStr (tl:TE):TI:=fun σ H R=>tl σ H fun x H1=>∃ z,x = .str z∧z.cps.all (· < 128) = true∧R (Its z) H1
theorem zcT {l:Expr} {tl:TE} (hl:PE X l tl):PI X tg l (iStr tl):=by
 intro pins s σ H R I h
 refine thn (hl pins s σ H _ I h) fun v s1 zq_=>?_
 obtain ⟨x,H1,I1,r1,q1⟩:=zq_
 obtain ⟨z,e,ha,q⟩:=q1
 subst e
 obtain ⟨t,rfl⟩:=r1
 refine wpAny_pyIter_ascii ha ?_
 refine ⟨s1.heap.objs.size,[s1.heap.objs.size],_,_,H1,rfl,I1.kept (t':=s1.toks) fun b o e=>Heap.get?_push_of_some _ e,zg7 _ z t,⟨_,Heap.get?_push_size _ rfl,rfl,rfl⟩,fun b hb=>?_,q⟩
 have e:b = s1.heap.objs.size:=by simpa using hb
 subst e
 exact I1.fpOk (Nat.le_refl _) (I1.hok.fresh (Nat.le_refl _))
noncomputable def rSlS:V->Option Int->Option Int->Hp->VK->Prop:=fun x lo hi H Q=>∃ z,x = .str z∧z.length ≤ sizeLine∧Q (.str (Txt.slice z lo hi)) H
theorem sl_str:SlR X rSlS:=by
 intro pins s σ H x v vl vu lo hi sl Q I rx hs pl pu h
 obtain ⟨z,rfl,hz,q⟩:=h
 obtain ⟨t,rfl⟩:=rx
 refine ⟨"str",_,F.slot_str_getitem.lookup,typeIs_str _ _ _,?_⟩
 cases pl with
 | none =>
  cases pu with
  | none=>exact wpAny_getItem_str_slice (l:=none) (u:=none) (st:=none) hs rfl (post_val_or_str ⟨Nat.le_trans (Txt.slice_le z _ _) hz,fun t' k=>⟨.str _,H,I.tok _,⟨_,rfl⟩,q⟩⟩)
  | int j uj=>exact wpAny_getItem_str_slice (l:=none) (u:=some (j,uj)) (st:=none) hs rfl (post_val_or_str ⟨Nat.le_trans (Txt.slice_le z _ _) hz,fun t' k=>⟨.str _,H,I.tok _,⟨_,rfl⟩,q⟩⟩)
 | int i ui =>
  cases pu with
  | none=>exact wpAny_getItem_str_slice (l:=some (i,ui)) (u:=none) (st:=none) hs rfl (post_val_or_str ⟨Nat.le_trans (Txt.slice_le z _ _) hz,fun t' k=>⟨.str _,H,I.tok _,⟨_,rfl⟩,q⟩⟩)
  | int j uj=>exact wpAny_getItem_str_slice (l:=some (i,ui)) (u:=some (j,uj)) (st:=none) hs rfl (post_val_or_str ⟨Nat.le_trans (Txt.slice_le z _ _) hz,fun t' k=>⟨.str _,H,I.tok _,⟨_,rfl⟩,q⟩⟩)
theorem zfl {zs:List Str}:∀ {us:List Value},Vals (zs.map V.str) us->StrsAre us zs:=by
 induction zs with
 | nil=>intro us r; cases r; exact .nil
 | cons z zs ih =>
  intro us r
  cases r with
  | cons r1 r2 =>
   obtain ⟨t,e⟩:=r1
   subst e
   exact .cons z t (ih r2)
noncomputable def rJoin:V->List V->Hp->VK->Prop:=fun x xs H Q=>∃ sep l zs,x = .str sep∧xs = [.ref l]∧H l = some (.lst (zs.map V.str))∧(zs.map (·.length)).sum + zs.length * sep.length ≤ 16777216∧Q (.str (Txt.join sep zs)) H
theorem mt_join:MtR X "str.join" rJoin:=by
 intro pins s σ H x xs v us Q I rx rs h
 obtain ⟨sep,l,zs,rfl,rfl,hl,hz,q⟩:=h
 obtain ⟨t,rfl⟩:=rx
 obtain ⟨u,rfl,ru⟩:=rs.one
 cases ru
 obtain ⟨its,r,pl,_⟩:=I.list (.of hl)
 exact join_list pl.isList (by simpa using zfl r) hz fun t' k=>⟨.str _,H,I.tok _,⟨_,rfl⟩,q⟩
theorem zgd {P:Program} {w:World}:∀ {kvs:List (Key × V)} {vs:List (Key × Value)} {acc:List Value},KV kvs vs->acc.length = vs.length->(∀ (j:Nat) (v:Value),acc[j]? = some v->∃ (k:Key) (x:Value),vs[j]? = some (k,x)∧(zaJ P w).is k v = true)->Vals (kvs.map fun p=>kV p.1) acc:=by
 intro kvs vs acc r
 unfold KV at r
 induction r generalizing acc with
 | nil =>
  intro hl h
  cases acc with
  | nil=>exact .nil
  | cons _ _=>simp at hl
 | @cons p q kvs vs r t ih =>
  intro hl h
  cases acc with
  | nil=>simp at hl
  | cons u acc =>
   refine .cons ?_ (ih (by simpa using hl) fun j v e=>by simpa using h (j + 1) v (by simpa using e))
   obtain ⟨k,x,e,hk⟩:=h 0 u (by simp)
   simp at e
   have ek:q.1 = k:=by rw [e]
   show RelV (kV p.1) u
   rw [r.1,ek]
   rcases keyIs_shape (show keyIs k u = true from hk) with ⟨i,t',rfl,rfl⟩ | ⟨z,t',rfl,rfl⟩
   ·exact ⟨t',rfl⟩
   ·exact ⟨t',rfl⟩
theorem zbs (hc:X.calm = true):zb9 X (.type "list") (fun xs H Q=>∃ d kvs,xs = [.ref d]∧H d = some (.dK kvs)∧∀ l,H l = none->Q (.ref l) (upd H l (.lst (kvs.map fun p=>kV p.1)))):=by
 intro pins s σ H xs us Q I r h
 obtain ⟨d,kvs,rfl,hd,q⟩:=h
 obtain ⟨u,rfl,ru⟩:=zdE r
 cases ru
 obtain ⟨hz,hS,vs,rk,m⟩:kvs.length ≤ sizeLine∧(d == sysModules) = false∧∃ vs,KV kvs vs∧s.heap.DictOf (zaJ X.prog X.w) d vs:=I.hok d _ hd
 obtain ⟨ep,hat⟩:=m.dictAt
 have hlen:kvs.length = vs.length:=Paired.length rk
 refine PySem.W.kdl_call (PySem.W.kdl_dict (knd:=zaJ X.prog X.w) (kvs:=vs) (ep:=ep) hS) (I.ok.hd hc) hat (by omega) fun h' tk acc c hk hD hacc=>?_
 refine ⟨.ref s.heap.objs.size,_,I.laid (t':=tk) (o:=.lst (kvs.map fun p=>kV p.1)) hk (Nat.le_refl _) ?_,rfl,q _ (I.hok.fresh (Nat.le_refl _))⟩
 refine ⟨by rw [List.length_map]; exact hz,acc.toList,c,zgd (P:=X.prog) (w:=X.w) rk (by rw [Array.length_toList]; exact hacc.1) (fun j v e=>hacc.2 j v (by rw [← Array.getElem?_toList]; exact e)),?_⟩
 rw [Array.toArray_toList]
 exact hD
end
section
variable {prog:Program} {w:World} {A:Around} {E:Value->Shared->Prop} {s:Shared} {T:String} {r d:Addr} {n:Nat} {P:Nat->Value->Prop} {OK:Heap->Prop} {Q:Value->Shared->Prop}
end
section
variable {X:Cx}
end
end L2
set_option Elab.async false
set_option linter.all false
set_option maxRecDepth 100000
namespace L2
open PySem PySem.Spec PyProof.Rows
abbrev bmVE:List Value:=[.type "ValueError",.type "Exception",.type "BaseException",.type "object"]
noncomputable def XCls (K:PySem.W.Frag) (C:Addr):Prop:=PySem.W.excIn K C bmVE "ValueError.__new__" = true
theorem XCls.obj {K:PySem.W.Frag} {h:Heap} {C:Addr} (X:K.In h) (q:XCls K C):∃ bm N nm qn bs hdct sn sub ab col dd k0 k1 k2 k3 k5 mN,
  h.get? C = some (excClassObj nm qn C N bs bm hdct sn sub ab col dd k0 k1 k2 k3 k5 "ValueError.__new__")∧h.Ns N mN∧mN "__init__" = none∧OwnTail h bmVE bm:=by
 have q:PySem.W.excIn K C bmVE "ValueError.__new__" = true:=q
 unfold PySem.W.excIn at q
 split at q
 ·rename_i dct cdt sls found
  split at q
  ·rename_i own tailv s0 s1 s2 s3 ident s5 hmro hslots
   simp only [Bool.and_eq_true,beq_iff_eq,Bool.not_eq_true'] at q
   obtain ⟨⟨⟨⟨⟨e1,e2⟩,e3⟩,e4⟩,e5⟩,e6⟩:=q
   subst e1
   subst e2
   obtain ⟨c1,c2,c3,c4,c5,c6,c7,c8,c9,c10,c11⟩:=cdt
   dsimp only at hmro e3 e5 e6
   subst hmro
   subst e3
   have sl6:sls = #[s0,s1,s2,s3,some (.builtin "ValueError.__new__"),s5]:=by
    cases sls with
    | mk l=>simp only at hslots; rw [hslots]
   subst sl6
   exact ⟨tailv,c4,c1,c5,c2,c6,c7,c8,c9,c10,dct,s0,s1,s2,s3,s5,_,X _ _ found,.of_isNs (PySem.W.isNs_of_in X e5),PySem.W.nsMap_none_of_in X e5 e6,PySem.W.tail_of_in X e4⟩
  ·cases q
 ·cases q
theorem HOk.obj {P:Program} {w:World} {H:Hp} {h:Heap} {a:Addr} {u:HO} (x:HOk P w H h) (q:H a = some u):∃ ob,h.get? a = some ob:=by
 have x:=x a u q
 cases u with
 | lst xs=>obtain ⟨_,_,_,_,e⟩:=x; exact ⟨_,e⟩
 | tup xs=>obtain ⟨_,_,_,p⟩:=x; obtain ⟨_,e,_⟩:=p; exact ⟨_,e⟩
 | dK kvs=>obtain ⟨_,_,_,_,o,_,_,e,_⟩:=x; exact ⟨_,e⟩
 | dT kvs=>obtain ⟨_,_,_,_,o,_,_,e,_⟩:=x; exact ⟨_,e⟩
 | set S n=>obtain ⟨o,_,_,_,e,_⟩:=x; exact ⟨_,e⟩
 | ins C dx fs=>obtain ⟨_,_,_,e,_⟩:=x; exact ⟨_,e⟩
 | own y=>exact x
 | xd fs=>obtain ⟨_,⟨_,_,_,e,_⟩,_⟩:=x; exact ⟨_,e⟩
 | rng lo hi=>obtain ⟨_,_,_,e⟩:=x; exact ⟨_,e⟩
 | frz ob u=>obtain ⟨e,_⟩:=x; exact ⟨_,e⟩
 | tbl ps=>exact ⟨_,(show h.get? a = some _ from x)⟩
 | met f y=>exact ⟨_,(show h.get? a = some _ from x)⟩
 | ext φ=>obtain ⟨_,e,_⟩:=x; exact e
theorem Un.slide {fs:List Addr} {H H':Hp} {h0 h1 h2:Heap} (u:Un fs [] H H' h0 h1) (k:∀ b o,(∃ o',h0.get? b = some o')->h1.get? b = some o->b ∉ fs->h2.get? b = some o)
  (sl:∀ b o,h1.get? b = some o->b ∈ fs->∃ s,h2.get? b = some { o with slots:=s }):Un fs [] H H' h0 h2 where
 keep:=fun b o q n hb hx=>k b o ⟨o,q⟩ (u.keep b o q n hb hx) hb
 slot:=fun b o q n hb hx=>by
  obtain ⟨s1,e1⟩:=u.slot b o q n hb hx
  obtain ⟨s2,e2⟩:=sl b _ e1 hb
  exact ⟨s2,e2⟩
 free:=u.free
 there:=fun b o q hx=>by
  obtain ⟨o1,e1⟩:=u.there b o q hx
  by_cases hb:b ∈ fs
  ·obtain ⟨s2,e2⟩:=sl b _ e1 hb
   exact ⟨_,e2⟩
  ·exact ⟨o1,k b o1 ⟨o,q⟩ e1 hb⟩
 tups:=u.tups
 frzs:=u.frzs
 tbls:=u.tbls
noncomputable def CX1 (P:Program) (w:World):CXT:=fun outer H s E e s'=>∃ (ea t C:Addr) (B:Heap) (H':Hp),e = .ref ea∧s'.os = s.os∧AllBare s'.gens∧Un (frs outer) [] H H' s.heap s'.heap∧HOk P w H' s'.heap ∧
 Heap.FlyingW B outer ea (.ref C) (.ref t) s'.heap∧(∀ b o,s'.heap.get? b = some o->b ∉ frs outer->((∃ u,H' b = some u) ∨ ∃ o',s.heap.get? b = some o')->B.get? b = some o)∧E (.ref C) none H'
theorem zau {X:Cx} {P:Program} {w:World}:zbE (CX1 P w) X E0:=fun _ _ _ _ _ _ _ h=>by
 obtain ⟨_,_,_,_,_,_,_,_,_,_,_,_,z⟩:=h
 exact z.elim
section
variable {X:Cx} {pins:List (Addr × Obj)} {σ:St} {H H':Hp} {s s':Shared}
theorem Inv.frameData (I:Inv X pins σ H s) {b:Addr} (hb:b ∈ frs X.stack):∃ o,s.heap.get? b = some o∧∀ vs,o.data ≠ .fields vs:=(I.stack.mem hb).2
theorem Inv.flown (I:Inv X pins σ H s) {B h':Heap} (un:Un (frs X.stack) [] H H' s.heap s'.heap) (hok:HOk X.prog X.w H' s'.heap) (ho:s'.os = s.os) (hg:AllBare s'.gens)
  (hB:∀ b o,s'.heap.get? b = some o->b ∉ frs X.stack->((∃ u,H' b = some u) ∨ ∃ o',s.heap.get? b = some o')->B.get? b = some o) (st:B.StaysIn h') (up:s'.heap.UpToSlots h') :
  Inv X pins σ H' { s' with heap:=h' }∧HOk X.prog X.w H' h'∧Un (frs X.stack) [] H H' s.heap h':=by
 have I':Inv X pins σ H' s':=I.call' ho un hok hg (ch:=[]) (fun b z=>absurd z (by simp))
 have hok':HOk X.prog X.w H' h':=fun a u e=>by
  have nf:∀ c v,H' c = some v->c ∉ frs X.stack:=fun c v q z=>by rw [I'.stkFree c z] at q; cases q
  have kk:∀ c o,(∃ v,H' c = some v)->s'.heap.get? c = some o->h'.get? c = some o:=fun c o ⟨v,q⟩ g=>st c o (hB c o g (nf c v q) (.inl ⟨v,q⟩))
  refine (hok a u e).stay (fun c v hc g=>kk c v ?_ g) (fun _ q=>q) fun _ _ q=>q
  rcases hc with rfl | hc
  ·exact ⟨_,e⟩
  ·exact ⟨_,hc⟩
 have un':Un (frs X.stack) [] H H' s.heap h':=un.slide (fun b o z g hb=>st b o (hB b o g hb (.inr z))) fun b o g hb=>by
  obtain ⟨o1,e1,d1⟩:=I'.frameData hb
  rw [e1] at g
  cases g
  exact up b o e1 d1
 exact ⟨I.call' (s':={ s' with heap:=h' }) ho un' hok' hg (ch:=[]) (fun b z=>absurd z (by simp)),hok',un'⟩
end
noncomputable def ziV (X:Cx) (E:XK):Prop:=∀ (pins:List (Addr × Obj)) (σ:St) (H:Hp) (s:Shared) (e C:Addr) (h':Heap) (vs:List Value),Inv X pins σ H s->Heap.MadeExcOf s.heap h' e (.ref C) vs->E (.ref C) none H->X.xe (.ref e) { s with heap:=h' }
section
variable {P:Program} {w:World} {K:PySem.W.Frag} {mg:Str->Option Value} {base:Heap} {N:List Str} {qual:Str} {scope:Scope} {f:Addr} {cd:Value} {A:Around} {outer:List Env} {s₀:Shared} {H₀:Hp} {E:XK}
theorem zeq {pins:List (Addr × Obj)} {σ:St} {H:Hp} {s:Shared} {ea t C:Addr} {B h':Heap} (I:Inv (cxOf (CX1 P w) P w K mg base N qual scope f cd A outer s₀ H₀ E) pins σ H s)
  (hB:∀ b o,s.heap.get? b = some o->b ∉ frs (envOfC qual scope s₀.heap.objs.size f cd :: outer)->((∃ u,H b = some u) ∨ ∃ o',s₀.heap.get? b = some o')->B.get? b = some o)
  (fl:Heap.FlyingW B outer ea (.ref C) (.ref t) h') (up:s.heap.UpToSlots h') {s1:Shared} (ho:s1.os = s.os) (hg:s1.gens = s.gens) (hE:E (.ref C) none H) :
  CX1 P w outer H₀ s₀ E (.ref ea) { s1 with heap:=h' }:=by
 have nL:∀ b o,s₀.heap.get? b = some o->b ∉ frs outer->b ∉ frs (envOfC qual scope s₀.heap.objs.size f cd :: outer):=fun b o e hb z=>by
  rcases List.mem_cons.mp (I.stkSub b z) with q | q
  ·exact absurd (Heap.lt_size e) (by rw [q]; exact Nat.lt_irrefl _)
  ·exact hb q
 have hst:B.StaysIn h':=fl.1
 have nf:∀ c v,H c = some v->c ∉ frs (envOfC qual scope s₀.heap.objs.size f cd :: outer):=fun c v q z=>by
  have:=I.stkFree c z
  rw [this] at q; cases q
 have kk:∀ c o,(∃ v,H c = some v)->s.heap.get? c = some o->h'.get? c = some o:=fun c o ⟨v,q⟩ g=>hst c o (hB c o g (nf c v q) (.inl ⟨v,q⟩))
 have ub:Un (frs outer) [] H₀ H s₀.heap s.heap:=I.base
 refine ⟨ea,t,C,B,H,rfl,ho.trans I.os,by show AllBare s1.gens; rw [hg]; exact I.bare,ub.slide (fun b o ⟨o',z⟩ g hb=>hst b o (hB b o g (nL b o' z hb) (.inr ⟨o',z⟩))) (fun b o g hb=>?_),fun a u e=>?_,fl,fun b o g hb z=>?_,hE⟩
 ·have hb':b ∈ frs (envOfC qual scope s₀.heap.objs.size f cd :: outer):=by
   unfold frs
   rw [List.filterMap_cons]
   exact List.mem_cons_of_mem _ hb
  obtain ⟨o1,e1,d1⟩:=I.frameData hb'
  rw [e1] at g
  cases g
  exact up b o e1 d1
 ·refine (I.hok a u e).stay (fun c v hc g=>kk c v ?_ g) (fun _ q=>q) fun _ _ q=>q
  rcases hc with rfl | hc
  ·exact ⟨_,e⟩
  ·exact ⟨_,hc⟩
 ·rcases z with ⟨v,q⟩ | ⟨o',q⟩
  ·obtain ⟨o1,e1⟩:=HOk.obj I.hok q
   have b1:=hB b o1 e1 (nf b v q) (.inl ⟨v,q⟩)
   have:=hst b o1 b1
   rw [show h'.get? b = some o from g] at this
   cases this
   exact b1
  ·obtain ⟨o1,e1⟩:=ub.there b o' q (by simp)
   have b1:=hB b o1 e1 (nL b o' q hb) (.inr ⟨o',q⟩)
   have:=hst b o1 b1
   rw [show h'.get? b = some o from g] at this
   cases this
   exact b1
theorem flies_cx:ziV (cxOf (CX1 P w) P w K mg base N qual scope f cd A outer s₀ H₀ E) E:=by
 intro pins σ H s e C h' vs I hx hE
 have hin:∀ env ∈ (envOfC qual scope s₀.heap.objs.size f cd :: outer),∀ b,env.frame = some b->b ∈ frs (envOfC qual scope s₀.heap.objs.size f cd :: outer):=fun env he b hb=>List.mem_filterMap.mpr ⟨env,he,hb⟩
 show wpAny (model P w) (A.deeper (envOfC qual scope s₀.heap.objs.size f cd)) (leaving (envOfC qual scope s₀.heap.objs.size f cd) (.ref e)) (fun _ s''=>CX1 P w outer H₀ s₀ E (.ref e) s'') (fun e' s''=>CX1 P w outer H₀ s₀ E e' s'') { s with heap:=h' }
 refine wpAny_leaves_madeW (base:=PySem.W.hideAll s.heap (frs (envOfC qual scope s₀.heap.objs.size f cd :: outer))) I.ok.frames rfl (fun b o q=>PySem.W.of_hideAll _ q) (PySem.W.funFrames_hide I.stack hin) hx fun h2 t x1 x2 x3 x4=>?_
 exact zeq I (fun b o g hb _=>PySem.W.hideAll_get _ g hb) x1 (fun b o g d=>x4 b o (hx.keeps b o g) d) rfl rfl hE
theorem passes_cx:zbE (CX1 P w) (cxOf (CX1 P w) P w K mg base N qual scope f cd A outer s₀ H₀ E) E:=by
 intro pins σ H s e s' I hq
 obtain ⟨ea,t,C,B,H',rfl,os,bare,un,hok,fl,hB,hE⟩:=hq
 show wpAny (model P w) (A.deeper (envOfC qual scope s₀.heap.objs.size f cd)) (leaving (envOfC qual scope s₀.heap.objs.size f cd) (.ref ea)) (fun _ s''=>CX1 P w outer H₀ s₀ E (.ref ea) s'') (fun e' s''=>CX1 P w outer H₀ s₀ E e' s'') s'
 have I':Inv (cxOf (CX1 P w) P w K mg base N qual scope f cd A outer s₀ H₀ E) pins σ H' s':=I.call' os un hok bare (ch:=[]) (fun b z=>absurd z (by simp))
 refine wpAny_leaves_onW I.ok.frames rfl fl fun h2 x1 x2=>?_
 refine zeq I' (fun b o g hb z=>hB b o g hb ?_) x1 x2 rfl rfl hE
 rcases z with z | ⟨o',z⟩
 ·exact .inl z
 ·exact .inr ((show Un (frs outer) [] H₀ H s₀.heap s.heap from I.base).there b o' z (by simp))
end
section
variable {X:Cx}
noncomputable def zhJ (C:Addr) (E:XK) (t:TA):TS:=fun _ σ H=>t σ H fun vs H1=>vs.length ≤ sizeLine∧E (.ref C) none H1
theorem zbr {x:Str} {np cpos pos:Pos} {e0:Expr} {rest:List Expr} {C:Addr} {t:TA} {E:XK} (hc:X.calm = true) (q:XCls X.K C) (hg:Gl X x) (hm:X.mg x = some (.ref C)) (hf:ziV X E) (ha:PA X (e0 :: rest) t)
  (hdb:(x == ("__debug__":Str)) = false:=by decide) (he:starEach (e0 :: rest) X.env = (false,eval e0 X.env) :: starEach rest X.env:=by rfl) (hpl:(backTo cpos (starEach rest X.env)).any (·.1) = false:=by rfl) :
  PS X (.Raise (some (.Call (.Name x np) (e0 :: rest) [] cpos)) none pos) (zhJ C E t):=by
 intro pins s σ H D I h
 obtain ⟨bm,Nn,nm,qn,bs,hdct,sn,sub,ab,col,dd,k0,k1,k2,k3,k5,mN,hC,hN,hni,T⟩:=XCls.obj I.ok.mod.kin q
 refine wpAny_Raise_call_subU (C:=C) (nm:=nm) (q:=qn) (N:=Nn) (bs:=bs) (bm:=bm) (hdct:=hdct) (sn:=sn) (sub:=sub) (ab:=ab) (col:=col) (dd:=dd) (k0:=k0) (k1:=k1) (k2:=k2) (k3:=k3) (k5:=k5)
  PySem.F.excBase_ValueError (by decide) PySem.F.excBase_ValueError (mN:=mN) (T.hasType PySem.F.excBase_ValueError.hasBase) (I.ok.hd hc) ?_ hni (zbG I hg hm ⟨rfl,?_⟩ hdb)
 ·rw [he]
  show (false || (backTo cpos (starEach rest X.env)).any (·.1)) = false
  rw [hpl]; rfl
 ·have h1:=ha cpos pins s σ H _ I h
  rw [he] at h1 ⊢
  exact Calls.evalArgs_plain (thn h1 fun us s1 ⟨vs,H1,I1,r,z,hE⟩=>⟨rfl,by rw [← r.length]; exact z,I1.bk _ _ hC,hN.keeps I1.bk,T.keeps I1.bk,fun h' e hx=>hf pins σ H1 s1 e C h' us I1 hx hE⟩)
end
noncomputable abbrev Cx.tr (X:Cx) (pn:List (Addr × Obj)) (W:Value->Shared->Prop):Cx:={ X with pn:=pn,xe:=W }
noncomputable abbrev Cx.hdl (X:Cx) (e:Value):Cx:={ X with A:=X.A.mark (some e),calm:=false,xe:=fun _ _=>False }
noncomputable def zd7 (P:Program) (w:World) (X:Cx) (E:St->XK):Prop:=∀ (pins:List (Addr × Obj)) (σ:St) (H:Hp) (s:Shared) (e:Value) (s':Shared),Inv X pins σ H s->CX1 P w X.stack H s (E σ) e s'->X.xe e s'
noncomputable def EX (C:Addr) (R:St->Hp->Prop):St->XK:=fun σ cls _ H'=>cls = .ref C∧R σ H'
section
variable {X:Cx} {pins:List (Addr × Obj)} {σ:St} {H:Hp} {s:Shared}
theorem Inv.tr (I:Inv X pins σ H s) (W:Value->Shared->Prop):Inv (X.tr (X.pn ++ pins) W) [] σ H s :=
 ⟨⟨I.ok.mod,I.ok.kind,I.ok.glob,I.ok.blt,I.ok.above,I.ok.inj,I.ok.has,I.ok.cab,I.ok.hd,I.ok.frames,I.ok.stk,I.ok.exf,I.ok.bs,I.ok.bsz,I.ok.noex,I.ok.exfs,I.ok.funs,I.ok.frf⟩,
  I.os,I.bare,I.base,I.loc,I.cell,I.free,I.freeC,fun p hp=>I.pin p (by simpa using hp),I.hok,I.len⟩
theorem Inv.untr {W:Value->Shared->Prop} {pins':List (Addr × Obj)} (I:Inv (X.tr (X.pn ++ pins) W) pins' σ H s):Inv X pins σ H s :=
 ⟨⟨I.ok.mod,I.ok.kind,I.ok.glob,I.ok.blt,I.ok.above,I.ok.inj,I.ok.has,I.ok.cab,I.ok.hd,I.ok.frames,I.ok.stk,I.ok.exf,I.ok.bs,I.ok.bsz,I.ok.noex,I.ok.exfs,I.ok.funs,I.ok.frf⟩,
  I.os,I.bare,I.base,I.loc,I.cell,I.free,I.freeC,fun p hp=>I.pin p (List.mem_append_left _ hp),I.hok,I.len⟩
theorem Inv.hdl (I:Inv X pins σ H s) (e:Value):Inv (X.hdl e) pins σ H s :=
 ⟨⟨I.ok.mod,I.ok.kind,I.ok.glob,I.ok.blt,I.ok.above,I.ok.inj,I.ok.has,I.ok.cab,(fun z=>by cases z),I.ok.frames,I.ok.stk,I.ok.exf,I.ok.bs,I.ok.bsz,I.ok.noex,I.ok.exfs,I.ok.funs,I.ok.frf⟩,
  I.os,I.bare,I.base,I.loc,I.cell,I.free,I.freeC,I.pin,I.hok,I.len⟩
theorem Inv.unhdl {e:Value} (hd:X.calm = true->X.A.handled = none) (I:Inv (X.hdl e) pins σ H s):Inv X pins σ H s :=
 ⟨⟨I.ok.mod,I.ok.kind,I.ok.glob,I.ok.blt,I.ok.above,I.ok.inj,I.ok.has,I.ok.cab,hd,I.ok.frames,I.ok.stk,I.ok.exf,I.ok.bs,I.ok.bsz,I.ok.noex,I.ok.exfs,I.ok.funs,I.ok.frf⟩,
  I.os,I.bare,I.base,I.loc,I.cell,I.free,I.freeC,I.pin,I.hok,I.len⟩
end
section
variable {X:Cx} {k:Nat} {f C:Addr} {fd:FuncData} {ps:List Str} {sp:Sp} {dvs:List V} {ds:List Value} {E:St->XK} {x m:Str} {p pos apos:Pos} {e o:Expr} {es:List Expr} {ta:TE} {t:TA}
noncomputable def ziU (C:Addr) (m:Str) (sp:Sp) (dvs:List V) (E:St->XK) (ta:TE) (t:TA):TE:=fun σ H Q=>ta σ H fun x H1=>∃ a dx fs,x = .ref a∧H1 a = some (.ins C dx fs)∧fs.lookup m = none ∧
 t σ H1 fun vs H2=>sp (x :: (vs ++ dvs)) H2 Q (E σ)
theorem zhY {pins:List (Addr × Obj)} {σ:St} {H:Hp} {s:Shared} {Q:VK} {us:List Value} {vs:List V} (F:FnOk X.prog X.w X.K X.mg X.base (CX1 X.prog X.w) k f fd ps sp) (hr:Room k X.A) (hb:zaK X.K fd ps ds) (hd:Vals dvs ds) (hx:zd7 X.prog X.w X E)
  (I:Inv X pins σ H s) (r:Vals vs us) (h:sp (vs ++ dvs) H Q (E σ)):wpAny (model X.prog X.w) X.A (call (.ref f) us) (EP X pins σ Q) X.xe s:=by
 have r2:Vals (vs ++ dvs) (us ++ ds):=r.append hd
 have hl:(us ++ ds).length = ps.length:=by rw [← r2.length]; exact F.len _ _ _ _ h
 refine wpAny_call (codeAny_mono (F.run X.A X.stack s H ⟨us,[]⟩ (us ++ ds) (vs ++ dvs) Q (E σ) hr I.env0 (hb s us I.kIn hl) r2 h) fun r s' hq=>?_)
 cases r with
 | error e=>exact hx pins σ H s e s' I hq
 | ok fl =>
  cases fl with
  | ret u=>exact I.after hq
  | next=>exact False.elim hq
  | brk=>exact False.elim hq
  | cont=>exact False.elim hq
end
section
variable {X:Cx}
end
section
variable {P:Program} {w:World} {K:PySem.W.Frag} {mg:Str->Option Value} {base:Heap}
theorem Fun.okX {x qual:Str} {st:Stmt} {f:Addr} {fd:FuncData} {N ps:List Str} {k:Nat} {sp:Sp} (F:Fun K x qual st f fd) (S:FnScope N ps (zap st)) (len:∀ vs H Q E,sp vs H Q E->vs.length = ps.length)
  (hbody:∀ (cdv:Value) (A:Around) (outer:List Env) (s:Shared) (H:Hp) (vs:List V) (Q:VK) (E:XK),Room k (A.deeper (envOfC qual (zap st) s.heap.objs.size f cdv))->sp vs H Q E ->
   ∃ t,PSs (cxOf (CX1 P w) P w K mg base N qual (zap st) f cdv A outer s H E) (zbY st) t∧t { nx:=fun _ H'=>Q .non H',rt:=Q } (start N vs) H):FnOk P w K mg base (CX1 P w) (k + 1) f fd ps sp:=by
 obtain ⟨oc,od,kV,doc,pm,an,cdv,ct,osl,rfl,lk,hcd⟩:=F.ex
 exact ziS lk hcd S len fun A outer s H vs Q E hr hsp=>hbody cdv A outer s H vs Q E hr hsp
theorem Fun.okC {CX:CXT} {x qual:Str} {st:Stmt} {f:Addr} {fd:FuncData} {N ps:List Str} {k:Nat} {sp:Sp} (F:Fun K x qual st f fd) (S:FnScope N ps (zap st)) (len:∀ vs H Q E,sp vs H Q E->vs.length = ps.length)
  (hbody:∀ (cdv:Value) (A:Around) (outer:List Env) (s:Shared) (H:Hp) (vs:List V) (Q:VK) (E:XK),Room k (A.deeper (envOfC qual (zap st) s.heap.objs.size f cdv))->sp vs H Q E ->
   ∃ t,PSs (cxOf CX P w K mg base N qual (zap st) f cdv A outer s H E).nox (zbY st) t∧t { nx:=fun _ H'=>Q .non H',rt:=Q } (start N vs) H):FnOk P w K mg base CX (k + 1) f fd ps sp:=by
 obtain ⟨oc,od,kV,doc,pm,an,cdv,ct,osl,rfl,lk,hcd⟩:=F.ex
 refine ziS lk hcd S len fun A outer s H vs Q E hr hsp=>?_
 obtain ⟨t,h,q⟩:=hbody cdv A outer s H vs Q E hr hsp
 exact ⟨t,h.nox,q⟩
end
end L2
set_option Elab.async false
set_option linter.all false
set_option maxRecDepth 100000
namespace L2
open PySem PySem.Spec PyProof.Rows
section
variable {X:Cx}
noncomputable def tFstr (te:TE):TE:=fun σ H Q=>te σ H fun x H1=>∃ i,x = .int i∧i.natAbs.log2 < 1920∧∀ z,Q (.str z) H1
end
section
variable {X:Cx}
end
end L2
set_option Elab.async false
set_option linter.all false
set_option maxRecDepth 100000
namespace L2
open PySem PySem.Spec PyProof.Rows
noncomputable def keyOf:V->Option Key
 | .int i=>some (.inl i)
 | .str z=>some (.inr z)
 | _=>none
theorem zgb {i:Int}:keyOf (.int i) = some (.inl i):=rfl
theorem zd3 {i:Str}:keyOf (.str i) = some (.inr i):=rfl
theorem zeD {y:V} {k:Key} (h:keyOf y = some k):y = kV k:=by
 cases y <;> first | (cases h; rfl) | (cases h)
noncomputable def zhB (td ty:TE):TE:=fun σ H Q=>td σ H fun x H1=>ty σ H1 fun y H2=>∃ d k kvs v,x = .ref d∧keyOf y = some k∧H2 d = some (.dK kvs)∧valV kvs k = some v∧Q v H2
noncomputable def tDInF (ty td:TE):TE:=fun σ H Q=>ty σ H fun y H1=>td σ H1 fun x H2=>∃ d k kvs,x = .ref d∧keyOf y = some k∧H2 d = some (.dK kvs)∧Q (.bl (valV kvs k).isSome) H2
noncomputable def zgQ (ty td:TE):TE:=fun σ H Q=>ty σ H fun y H1=>td σ H1 fun x H2=>∃ d k kvs,x = .ref d∧keyOf y = some k∧H2 d = some (.dK kvs)∧Q (.bl (!(valV kvs k).isSome)) H2
noncomputable def ziM (td ty tv:TE):TS:=fun D σ H=>tv σ H fun v H1=>td σ H1 fun x H2=>ty σ H2 fun y H3=>∃ d k kvs,x = .ref d∧keyOf y = some k∧H3 d = some (.dK kvs)∧kvs.length < sizeLine∧D.nx σ (upd H3 d (.dK (putK kvs k v)))
section
variable {X:Cx} {o i e value:Expr} {pos pos' tpos:Pos} {td ty tv:TE}
theorem zeJ (hu:X.A.units + 1 < cLine) (ho:PE X o td) (hi:PE X i ty) (hs:NoSl i):PE X (.Subscript o i pos) (zhB td ty):=by
 intro pins s σ H Q I h
 refine zh2 PySem.F.slot_dict_getitem.lookup hs (thn (ho pins s σ H _ I h) fun u s1 ⟨x,H1,I1,rx,q1⟩=>thn (hi pins s1 σ H1 _ I1 q1) fun iv s2 zq_=>?_)
 obtain ⟨y,H2,I2,ry,d,k,kvs,v,ex,ek,hd,hv,q2⟩:=zq_
 subst ex
 cases zeD ek
 obtain rfl:u = Value.ref d:=rx
 have g:DGet H2 d (kV k) (some v):=by rw [← hv]; exact DGet.k hd
 exact ⟨zen I2 g,zgw hu I2 g ry fun w' s3 I3 rw'=>⟨v,H2,I3,rw',q2⟩⟩
end
end L2
set_option Elab.async false
set_option linter.all false
set_option maxRecDepth 100000
namespace L2
open PySem PySem.Spec PyProof.Rows
theorem zjr {CX:CXT} {P:Program} {w:World} {K:PySem.W.Frag} {mg:Str->Option Value} {base:Heap} {N:List Str} {qual:Str} {scope:Scope} {f:Addr} {cd:Value} {A:Around} {outer:List Env} {s₀:Shared} {H₀:Hp} {E:XK} :
  (cxOf CX P w K mg base N qual scope f cd A outer s₀ H₀ E).K = K:=rfl
structure Fr (M:Addr->Prop) (H H':Hp):Prop where
 keep:∀ q o,H q = some o->¬ M q->H' q = some o
 tups:∀ q xs,H q = some (.tup xs)->H' q = some (.tup xs)
theorem Fr.trans {M:Addr->Prop} {H H1 H2:Hp} (x:Fr M H H1) (y:Fr M H1 H2):Fr M H H2:=⟨fun q o h n=>y.keep q o (x.keep q o h n) n,fun q xs h=>y.tups q xs (x.tups q xs h)⟩
theorem Fr.of_same {M:Addr->Prop} {H H':Hp} (s:Same H H'):Fr M H H':=⟨fun q o h _=>s q o h,fun q xs h=>s q _ h⟩
theorem Fr.laid {M:Addr->Prop} {H:Hp} {p:Addr} {u:HO} (hp:H p = none):Fr M H (upd H p u):=.of_same (.laid hp)
theorem Fr.put {M:Addr->Prop} {H:Hp} {p:Addr} {u:HO} (hm:M p) (ht:∀ xs,H p ≠ some (.tup xs)):Fr M H (upd H p u) :=
 ⟨fun q o h n=>by rw [zat (fun e=>n (by rw [e]; exact hm))]; exact h,fun q xs h=>by rw [zat (fun e=>ht xs (by rw [← e]; exact h))]; exact h⟩
theorem for1 {ta:TA} {g:TG} {tb:TS} {D:Ends} {σ:St} {H H1:Hp} (n:Int) (hr:∀ Q,Q [.int n] H1->ta σ H Q) (n0:-(2 ^ 62) ≤ n) (n1:n < 2 ^ 62) (Pv:Nat->St->Hp->Prop) (h0:Pv 0 σ H1)
  (hs:∀ i σ H,i < n.toNat->Pv i σ H->g (.int (0 + i)) σ H fun σ2 H2=>tb { D with nx:=Pv (i + 1),ct:=Pv (i + 1),bk:=D.nx } σ2 H2) (hd:∀ σ H,Pv n.toNat σ H->D.nx σ H) :
  tFor (zdy ta) g tb D σ H:=hr _ ⟨n,rfl,n0,n1,zfz Pv h0 hs hd⟩
theorem forL {K:PySem.W.Frag} {tl:TE} {g:TG} {tb:TS} {D:Ends} {σ:St} {H H1:Hp} (a:Addr) (xs:List V) (hr:∀ Q,Q (.ref a) H1->tl σ H Q) (Pv:Nat->St->Hp->Prop) (h0:Pv 0 σ H1) (hl:∀ i σ H,i ≤ xs.length->Pv i σ H->SqL K H a xs)
  (hs:∀ i x σ H,xs[i]? = some x->Pv i σ H->g x σ H fun σ2 H2=>tb { D with nx:=Pv (i + 1),ct:=Pv (i + 1),bk:=D.nx } σ2 H2) (hd:∀ σ H,Pv xs.length σ H->D.nx σ H) :
  tFor (zdV K tl) g tb D σ H:=hr _ ⟨a,rfl,⟨xs,hl 0 σ H1 (Nat.zero_le _) h0⟩,zeU Pv h0 hl hs hd⟩
theorem forT {K:PySem.W.Frag} {tl:TE} {g:TG} {tb:TS} {D:Ends} {σ:St} {H H1:Hp} (a:Addr) (xs:List V) (hr:∀ Q,Q (.ref a) H1->tl σ H Q) (Pv:Nat->St->Hp->Prop) (h0:Pv 0 σ H1) (hl:∀ i σ H,i ≤ xs.length->Pv i σ H->SqT K H a xs)
  (hs:∀ i x σ H,xs[i]? = some x->Pv i σ H->g x σ H fun σ2 H2=>tb { D with nx:=Pv (i + 1),ct:=Pv (i + 1),bk:=D.nx } σ2 H2) (hd:∀ σ H,Pv xs.length σ H->D.nx σ H) :
  tFor (iTup K tl) g tb D σ H:=hr _ ⟨a,rfl,⟨xs,hl 0 σ H1 (Nat.zero_le _) h0⟩,zie Pv h0 hl hs hd⟩
theorem zeu {cap:List (Option Nat)} {ta:TA} {g:TG} {tt:TT} {te:TE} {σ:St} {H H1:Hp} {Q:VK} (n:Int) (hr:∀ Q,Q [.int n] H1->ta σ H Q) (n0:-(2 ^ 62) ≤ n) (n1:n < 2 ^ 62) (Pv:Addr->Nat->List V->Hp->Prop) (h0:∀ D,H1 D = none->Pv D 0 [] (upd H1 D (.lst [])))
  (hl:∀ D,H1 D = none->∀ i ys H,i ≤ n.toNat->Pv D i ys H->H D = some (.lst ys)∧ys.length ≤ i) (hz:n.toNat ≤ sizeLine)
  (hs:∀ D,H1 D = none->∀ i ys H,i < n.toNat->Pv D i ys H->g (.int (0 + i)) (zaE cap σ) H fun σ4 H4=>tt σ4 H4 fun b H5=>if b = true then te σ4 H5 fun y H6=>H6 D = some (.lst ys)∧Pv D (i + 1) (ys ++ [y]) (upd H6 D (.lst (ys ++ [y]))) else Pv D (i + 1) ys H5)
  (hd:∀ D,H1 D = none->∀ ys H,Pv D n.toNat ys H->Q (.ref D) H):zbw cap (zdy ta) g tt te σ H Q:=hr _ ⟨n,rfl,n0,n1,fun D hD=>zfm (R:=fun H=>Q (.ref D) H) (Pv D) (h0 D hD) (hl D hD) hz (hs D hD) (hd D hD)⟩
theorem zjk {K:PySem.W.Frag} {cap:List (Option Nat)} {tl:TE} {g:TG} {tt:TT} {te:TE} {σ:St} {H H1:Hp} {Q:VK} (a:Addr) (xs:List V) (hr:∀ Q,Q (.ref a) H1->tl σ H Q) (hq:SqL K H1 a xs) (Pv:Addr->Nat->List V->Hp->Prop) (h0:∀ D,H1 D = none->Pv D 0 [] (upd H1 D (.lst [])))
  (hl:∀ D,H1 D = none->∀ i ys H,i ≤ xs.length->Pv D i ys H->SqL K H a xs∧H D = some (.lst ys)∧ys.length ≤ i) (hz:xs.length ≤ sizeLine)
  (hs:∀ D,H1 D = none->∀ i x ys H,xs[i]? = some x->Pv D i ys H->g x (zaE cap σ) H fun σ4 H4=>tt σ4 H4 fun b H5=>if b = true then te σ4 H5 fun y H6=>H6 D = some (.lst ys)∧Pv D (i + 1) (ys ++ [y]) (upd H6 D (.lst (ys ++ [y]))) else Pv D (i + 1) ys H5)
  (hd:∀ D,H1 D = none->∀ ys H,Pv D xs.length ys H->Q (.ref D) H):zbw cap (zdV K tl) g tt te σ H Q:=hr _ ⟨a,rfl,⟨xs,hq⟩,fun D hD=>zd0 (R:=fun H=>Q (.ref D) H) (Pv D) (h0 D hD) (hl D hD) hz (hs D hD) (hd D hD)⟩
theorem compT {K:PySem.W.Frag} {cap:List (Option Nat)} {tl:TE} {g:TG} {tt:TT} {te:TE} {σ:St} {H H1:Hp} {Q:VK} (a:Addr) (xs:List V) (hr:∀ Q,Q (.ref a) H1->tl σ H Q) (hq:SqT K H1 a xs) (Pv:Addr->Nat->List V->Hp->Prop) (h0:∀ D,H1 D = none->Pv D 0 [] (upd H1 D (.lst [])))
  (hl:∀ D,H1 D = none->∀ i ys H,i ≤ xs.length->Pv D i ys H->SqT K H a xs∧H D = some (.lst ys)∧ys.length ≤ i) (hz:xs.length ≤ sizeLine)
  (hs:∀ D,H1 D = none->∀ i x ys H,xs[i]? = some x->Pv D i ys H->g x (zaE cap σ) H fun σ4 H4=>tt σ4 H4 fun b H5=>if b = true then te σ4 H5 fun y H6=>H6 D = some (.lst ys)∧Pv D (i + 1) (ys ++ [y]) (upd H6 D (.lst (ys ++ [y]))) else Pv D (i + 1) ys H5)
  (hd:∀ D,H1 D = none->∀ ys H,Pv D xs.length ys H->Q (.ref D) H):zbw cap (iTup K tl) g tt te σ H Q:=hr _ ⟨a,rfl,⟨xs,hq⟩,fun D hD=>zgF (R:=fun H=>Q (.ref D) H) (Pv D) (h0 D hD) (hl D hD) hz (hs D hD) (hd D hD)⟩
theorem zhz {K:PySem.W.Frag} {cap:List (Option Nat)} {tl:TE} {g:TG} {tt:TT} {te:TE} {σ:St} {H:Hp} {Q:VK} (Pre:Addr->Hp->Prop) (hr:∀ Q,(∀ a H1,Pre a H1->Q (.ref a) H1)->tl σ H Q)
  (h:∀ a H1,Pre a H1->zbw cap (zdV K (tC (.ref a))) g tt te σ H1 Q):zbw cap (zdV K tl) g tt te σ H Q:=hr _ fun a H1 p=>h a H1 p
theorem zic {K:PySem.W.Frag} {tl:TE} {g:TG} {tb:TS} {D:Ends} {σ:St} {H:Hp} (Pre:Addr->Hp->Prop) (hr:∀ Q,(∀ a H1,Pre a H1->Q (.ref a) H1)->tl σ H Q)
  (h:∀ a H1,Pre a H1->tFor (zdV K (tC (.ref a))) g tb D σ H1):tFor (zdV K tl) g tb D σ H:=hr _ fun a H1 p=>h a H1 p
theorem ziA {ta:TA} {g:TG} {tb:TS} {D:Ends} {σ:St} {H:Hp} (Pre:Int->Hp->Prop) (hr:∀ Q,(∀ n H1,Pre n H1->Q [.int n] H1)->ta σ H Q)
  (h:∀ n H1,Pre n H1->tFor (zdy (zch (tC (.int n)) tNil)) g tb D σ H1):tFor (zdy ta) g tb D σ H:=hr _ fun a H1 p=>h a H1 p
theorem ziZ {cap:List (Option Nat)} {ta:TA} {g:TG} {tt:TT} {te:TE} {σ:St} {H:Hp} {Q:VK} (Pre:Int->Hp->Prop) (hr:∀ Q,(∀ n H1,Pre n H1->Q [.int n] H1)->ta σ H Q)
  (h:∀ n H1,Pre n H1->zbw cap (zdy (zch (tC (.int n)) tNil)) g tt te σ H1 Q):zbw cap (zdy ta) g tt te σ H Q:=hr _ fun a H1 p=>h a H1 p
theorem zdv {K:PySem.W.Frag} {n:Nat} {t:TGs} {a:Addr} {xs:List V} {σ:St} {H:Hp} {Q:St->Hp->Prop} (h:H a = some (.tup xs)) (hl:xs.length = n) (q:t xs σ H Q):gTup K n t (.ref a) σ H Q:=⟨a,xs,rfl,.of h,hl,q⟩
abbrev Th:=Int × List Int × List Int
noncomputable def thW (t:Th):List Int:=(16 * (t.2.1.length:Int) + t.2.2.length) :: (t.2.1 ++ t.2.2)
noncomputable def thSz (t:Th):Int:=1 + t.2.1.length + t.2.2.length
noncomputable def ziL (t:Th) (z:Int):Option Int:=if z < t.1 then none else (thW t)[(z - t.1).toNat]?
noncomputable def wordAt (ts:List Th) (z:Int):Option Int:=ts.findSome? fun t=>ziL t z
noncomputable def Lay:Int->List Th->Int->Prop
 | s,[],f=>f = s
 | s,t :: r,f=>t.1 = s∧Lay (s + thSz t) r f
theorem zcg {H:Hp} {p:Addr} {ys:List V} (h:H p = some (.lst ys)):∀ xs,H p ≠ some (.tup xs):=fun xs e=>by rw [h] at e; cases e
end L2
set_option Elab.async false
set_option linter.all false
set_option maxRecDepth 100000
namespace L2
open PySem PySem.Spec PyProof.Rows
noncomputable def rEqE (neg:Bool):R2:=fun x y H Q=>∃ l b xs,x = .ref l∧y = .ref b∧seqV H l = some xs∧zc1 H l = some true∧seqV H b = some []∧zc1 H b = some true∧Q (.bl (if neg then !xs.isEmpty else xs.isEmpty)) H
theorem zd6 {A:Around} {s:Shared} {us:List Value} (h:us.length = 0) (ws:List Value) :
  ∀ j (h1:j < us.toArray.size) (h2:j < ws.toArray.size),SeqAt.EqAt A s us.toArray[j] ws.toArray[j] ((fun _=>true) j):=by
 intro j h1 h2
 simp only [List.size_toArray] at h1
 omega
section
variable {X:Cx}
theorem ziN (hu:X.A.units + 1 < cLine):OpR X (compareOp .Eq) (rEqE false):=by
 intro pins s σ H x y v u Q I rx ry h
 obtain ⟨l,b,xs,rfl,rfl,h1,k1,h2,k2,q⟩:=h
 cases rx
 cases ry
 obtain ⟨us,r1,p1,z1⟩:=I.list (zbV (K:=X.K) h1 k1)
 obtain ⟨ws,r2,p2,z2⟩:=I.list (zbV (K:=X.K) h2 k2)
 have l1:=r1.length
 have l2:=r2.length
 cases xs with
 | nil =>
  refine SeqAt.eq_listAt p1.isList p2.isList (by simp at l1 l2 ⊢; omega) (by omega) (zd6 (by simpa using l1.symm) ws) ⟨.bl _,H,I,rfl,?_⟩
  have e:(List.range us.toArray.size).all (fun _=>true) = true:=by simp
  rw [e]
  exact q
 | cons x xs =>
  refine SeqAt.eq_list_lengthsAt p1.isList p2.isList (by simp at l1 l2 ⊢; omega) (by omega) ⟨.bl _,H,I,rfl,?_⟩
  exact q
theorem zgf (hu:X.A.units + 1 < cLine):OpR X (compareOp .NotEq) (rEqE true):=by
 intro pins s σ H x y v u Q I rx ry h
 obtain ⟨l,b,xs,rfl,rfl,h1,k1,h2,k2,q⟩:=h
 cases rx
 cases ry
 obtain ⟨us,r1,p1,z1⟩:=I.list (zbV (K:=X.K) h1 k1)
 obtain ⟨ws,r2,p2,z2⟩:=I.list (zbV (K:=X.K) h2 k2)
 have l1:=r1.length
 have l2:=r2.length
 cases xs with
 | nil =>
  refine SeqAt.RcNeAt.lists p1.isList p2.isList (by simp at l1 l2 ⊢; omega) (by omega) (zd6 (by simpa using l1.symm) ws) _ _ _ _ ⟨.bl _,H,I,rfl,?_⟩
  have e:(List.range us.toArray.size).all (fun _=>true) = true:=by simp
  rw [e]
  exact q
 | cons x xs =>
  refine SeqAt.RcNeAt.lists_lengths p1.isList p2.isList (by simp at l1 l2 ⊢; omega) (by omega) _ _ _ _ ⟨.bl _,H,I,rfl,?_⟩
  exact q
end
end L2
set_option Elab.async false
set_option linter.all false
set_option maxRecDepth 100000
namespace L2
open PySem PySem.Spec PyProof.Rows
noncomputable def zcy (d:Addr) (pairs:List (Sem Value × Sem Value)):Sem PUnit :=
 forIn pairs PUnit.unit fun (x:Sem Value × Sem Value) (_:PUnit)=>(do
  let kv ← x.1
  let vv ← holding [kv] x.2
  holding [kv,vv] (dictSet d kv vv)
  pure (ForInStep.yield PUnit.unit):Sem (ForInStep PUnit))
theorem zdO {pairs:List (Sem Value × Sem Value)} (h:15 < pairs.length) :
  subDict pairs = (do
   let d ← alloc { cls:=.type "dict",data:=.dict #[] }
   holding [.ref d] (do rule "dict.display.long"; zcy d pairs; pure ())
   pure d):=by
 unfold subDict
 simp only [if_neg (Nat.not_le.mpr h)]
 rfl
abbrev zb2 (p:Sem Value × Sem Value):Option (Sem Value) × Sem Value:=(some p.1,p.2)
theorem zdk (f:(Option (Sem Value) × Sem Value)->(Option Addr × List (Sem Value × Sem Value))->Sem (ForInStep (Option Addr × List (Sem Value × Sem Value)))) (fl:List (Sem Value × Sem Value)->Sem (Option Addr)) (m:Option Addr)
  (hf:∀ (p:Sem Value × Sem Value) (run:List (Sem Value × Sem Value)),run.length + 1 < 17->f (zb2 p) (m,run) = pure (.yield (m,run ++ [p])))
  (hg:∀ (p:Sem Value × Sem Value) (run:List (Sem Value × Sem Value)),run.length + 1 = 17->f (zb2 p) (m,run) = (do let m' ← fl (run ++ [p]); pure (.yield (m',[])))) :
  ∀ (items run:List (Sem Value × Sem Value)) (rest:List (Option (Sem Value) × Sem Value)),items ≠ []->run.length + items.length = 17 ->
   forIn (items.map zb2 ++ rest) (m,run) f = (do let m' ← fl (run ++ items); forIn rest (m',[]) f)
 | [],run,rest,h0,_=>absurd rfl h0
 | [p],run,rest,_,h=>by
  rw [List.map_cons,List.map_nil,List.cons_append,List.nil_append,List.forIn_cons,hg p run (by simpa using h)]
  simp
 | p :: q :: l,run,rest,_,h=>by
  rw [List.map_cons,List.cons_append,List.forIn_cons,hf p run (by simp at h; omega),pure_bind]
  have:=zdk f fl m hf hg (q :: l) (run ++ [p]) rest (by simp) (by simp at h ⊢; omega)
  simpa using this
theorem zdc (f:(Option (Sem Value) × Sem Value)->(Option Addr × List (Sem Value × Sem Value))->Sem (ForInStep (Option Addr × List (Sem Value × Sem Value)))) (m:Option Addr)
  (hf:∀ (p:Sem Value × Sem Value) (run:List (Sem Value × Sem Value)),run.length + 1 < 17->f (zb2 p) (m,run) = pure (.yield (m,run ++ [p]))) :
  ∀ (items run:List (Sem Value × Sem Value)),run.length + items.length < 17->forIn (items.map zb2) (m,run) f = pure (m,run ++ items)
 | [],run,_=>by simp
 | p :: rest,run,h=>by
  rw [List.map_cons,List.forIn_cons,hf p run (by simp at h; omega),pure_bind]
  have:=zdc f m hf rest (run ++ [p]) (by simp at h ⊢; omega)
  simpa using this
noncomputable def zdq (d:Addr) (run:List (Sem Value × Sem Value)):Sem Value:=do
 let sub ← holding [.ref d] (subDict run)
 (holding [.ref d,.ref sub] (mergeMapping d (.ref sub) false)).onRaise fun x=>do let _ ← holding [.ref d,x] (runValue (.builtin "proto.let_go" {}))
 pure (.ref d)
theorem zcP (p1 p2:List (Sem Value × Sem Value)) (h1:p1.length = 17) (h0:p2 ≠ []) (h2:p2.length < 17) :
  dictDisplay ((p1 ++ p2).map zb2) = (do let d ← subDict p1; zdq d p2):=by
 have n1:p1 ≠ []:=by intro e; rw [e] at h1; cases h1
 unfold dictDisplay
 dsimp only
 rw [List.map_append,zdk _ (fun run=>do let d ← subDict run; pure (some d)) none (fun p run h=>by
   have hne:((run ++ [(p.1,p.2)]).length == 17) = false:=by simp; omega
   simp only [zb2,hne,Bool.false_eq_true,if_false]) (fun p run h=>by
   have hne:((run ++ [(p.1,p.2)]).length == 17) = true:=by simp; omega
   have hem:(run ++ [(p.1,p.2)]).isEmpty = false:=by simp
   simp [zb2,hne,hem]
   intro hh; omega) p1 [] _ n1 (by simpa using h1)]
 simp only [List.nil_append,bind_assoc,pure_bind]
 congr 1
 funext d
 rw [zdc _ (some d) (fun p run h=>by
   have hne:((run ++ [(p.1,p.2)]).length == 17) = false:=by simp; omega
   simp only [zb2,hne,Bool.false_eq_true,if_false]) p2 [] (by simpa using h2)]
 have hem:p2.isEmpty = false:=by cases p2 with | nil=>exact absurd rfl h0 | cons _ _=>rfl
 simp [h0,zdq]
section
variable {prog:Program} {w:World} {K:Type} [DecidableEq K] {knd:KeyKind prog w K} {A:Around} {E:Value->Shared->Prop} {s:Shared}
theorem zf9 {d:Addr} {kvs:List (K × Value)} {k:K} {key v:Value} {Q:Unit->Shared->Prop} (ik:knd.is k key = true) (D:s.heap.DictOf knd d kvs) (z:kvs.length ≤ sizeLine)
  (q:∀ h2,h2.DictOf knd d (stored kvs k v)->Heap.SameBut d s.heap h2->Q () { s with heap:=h2 }):wpAny (model prog w) A (dictPut d (knd.hash k) key v) Q E s:=by
 obtain ⟨ob,xs,n,g1,g2,g3,g4,g5,g6⟩:=D
 have zs:xs.size ≤ sizeLine:=by
  have l1:=g5.length
  simp at l1
  omega
 have same:(xs.findIdx? fun e=>knd.is k e.key) = kvs.findIdx? fun kv=>decide (kv.1 = k):=by
  have:=g5.findIdx k
  rw [← this]
  obtain ⟨l⟩:=xs
  simp
 unfold dictPut
 refine wpAny_bind (wpAny_dictFind_of ik g1 g3 g4 ?_)
 cases c:xs.findIdx? fun e=>knd.is k e.key with
 | some i =>
  have c':kvs.findIdx? (fun kv=>decide (kv.1 = k)) = some i:=by rw [← same]; exact c
  have al:=any_of_findIdx_some c'
  refine wpAny_updateDict g1 g3 (q _ ⟨_,_,n,Heap.get?_update_self _ g1 (Obj.isFreed_of_dict (Obj.data_mapDict g3 _)),g2.mapDict _,Obj.data_mapDict g3 _,g4.modify _ _,?_,?_⟩ (Heap.SameBut.update ..))
  ·rw [stored,if_pos al]
   have cl:(xs.toList.findIdx? fun e=>knd.is k e.key) = some i:=by
    rw [← c]
    obtain ⟨l⟩:=xs
    simp
   have m:=g5.modify g6 cl v
   obtain ⟨l⟩:=xs
   simpa using m
  ·rw [stored,if_pos al,keys_map_store]
   exact g6
 | none =>
  have c':kvs.findIdx? (fun kv=>decide (kv.1 = k)) = none:=by rw [← same]; exact c
  have nk:=not_mem_of_findIdx_none c'
  have al:¬ (kvs.any fun kv=>decide (kv.1 = k)) = true:=fun y=>by
   obtain ⟨kv,m,e⟩:=List.any_eq_true.mp y
   exact nk (List.mem_map.mpr ⟨kv,m,of_decide_eq_true e⟩)
  refine wpAny_updateDictKeys (hz:=zs) g1 g3 (q _ ⟨_,_,n + 1,Heap.get?_update_self _ g1 (Obj.isFreed_of_dict (Obj.data_mapDictKeys g3 _)),g2.mapDictKeys _,Obj.data_mapDictKeys g3 _,g4.push ik _,?_,?_⟩ (Heap.SameBut.update ..))
  ·rw [stored,if_neg al]
   have m:=g5.append ik (knd.hash k) v
   obtain ⟨l⟩:=xs
   simpa using m
  ·rw [stored,if_neg al,List.map_append,List.nodup_append]
   refine ⟨g6,by simp,fun x hx y hy e=>?_⟩
   simp only [List.map_cons,List.map_nil,List.mem_singleton] at hy
   rw [hy] at e
   exact nk (e ▸ hx)
theorem zc5 {d o:Addr} {kvs more:List (K × Value)} {Q:Unit->Shared->Prop} (ne:d ≠ o) (so:(o == sysModules) = false) (h0:kvs ≠ []) (D:s.heap.DictOf knd d kvs) (O:s.heap.DictOf knd o more) (z:kvs.length + more.length ≤ sizeLine)
  (q:∀ h2,h2.DictOf knd d (merged kvs more)->Heap.SameBut d s.heap h2->Q () { s with heap:=h2 }):wpAny (model prog w) A (mergeMapping d (.ref o) false) Q E s:=by
 obtain ⟨od,xd,nd,d1,d2,d3,d4,d5,d6⟩:=id D
 obtain ⟨oo,xo,no,o1,o2,o3,o4,o5,o6⟩:=id O
 have len:more.length = xo.size:=by rw [← o5.length]; simp
 unfold mergeMapping
 refine wpAny_bind (wpAny_isInstance O.typeIs isSubtype_dict_dict ?_)
 dsimp only
 rw [if_pos rfl]
 refine wpAny_bind (wpAny_specialOf O.typeIs F.slot_dict_iter.lookup ?_)
 have e1:(some (Value.builtin "dict.__iter__") == some (Value.builtin "dict.__iter__")) = true:=by simp
 rw [e1]
 rw [pure_bind]
 dsimp only
 rw [if_neg (by rw [so]; exact Bool.false_ne_true)]
 refine wpAny_bind (wpAny_dictEntries d1 d3 ?_)
 have ed:xd.isEmpty = false:=by
  cases hx:xd.isEmpty with
  | false=>rfl
  | true =>
   have:=d5.length
   rw [Array.isEmpty_iff.mp hx] at this
   exact absurd (List.length_eq_zero_iff.mp this.symm) h0
 rw [if_neg (by rw [ed]; exact Bool.false_ne_true)]
 refine wpAny_bind (wpAny_dictEntries o1 o3 ?_)
 refine wpAny_bind (wpAny_dictEpoch o1 o3 ?_)
 refine wpAny_bind ?_
 refine wpAny_forIn_list _ (fun rest _ s2=>∃ h2 i,s2 = { s with heap:=h2 }∧rest = List.range' i (xo.size - i)∧i ≤ xo.size∧h2.DictOf knd d (merged kvs (more.take i))∧h2.get? o = some oo∧Heap.SameBut d s.heap h2) _ ?_ ?_ _ _
  ⟨s.heap,0,rfl,by rw [List.range_eq_range']; simp,Nat.zero_le _,by simpa [merged] using D,o1,Heap.SameBut.refl _ _⟩
 ·rintro x rest b s2 ⟨h2,i,rfl,er,hi,D2,o12,S2⟩
  have hlt:i < xo.size:=by
   rcases Nat.lt_or_ge i xo.size with y | y
   ·exact y
   ·rw [Nat.sub_eq_zero_of_le y] at er
    cases er
  rw [show xo.size - i = (xo.size - (i + 1)) + 1 by omega,List.range'_succ] at er
  injection er with ex er
  subst ex
  refine wpAny_bind (wpAny_dictEntries o12 o3 ?_)
  rw [Array.getElem?_eq_getElem hlt]
  have hlt':x < more.length:=by omega
  obtain ⟨a1,a2⟩:=o5.get? (e:=xo[x]) (by simp [hlt]) (List.getElem?_eq_getElem hlt')
  obtain ⟨k2,b1,b2⟩:=o4 xo[x] (Array.getElem_mem hlt)
  have ek:=knd.inj _ _ _ b1 a1
  dsimp only
  rw [if_neg Bool.false_ne_true,b2,a2,ek]
  have zm:(merged kvs (more.take x)).length ≤ sizeLine:=by
   have:=merged_length_le kvs (more.take x)
   have:(more.take x).length ≤ more.length:=by rw [List.length_take]; omega
   omega
  refine wpAny_bind (wpAny_holding (zf9 a1 D2 zm fun h3 D3 S3=>?_))
  have o13:h3.get? o = some oo:=(S3.2 o (Ne.symm ne)).trans o12
  refine wpAny_bind (wpAny_dictEpoch o13 o3 ?_)
  rw [if_neg (by simp)]
  exact wpAny_pure ⟨h3,x + 1,rfl,er,hlt,by rw [merged_take_succ kvs more x _ (List.getElem?_eq_getElem hlt')]; exact D3,o13,S2.trans S3⟩
 ·rintro b s2 ⟨h2,i,rfl,er,hi,D2,o12,S2⟩
  have ei:i = xo.size:=by
   rcases Nat.lt_or_ge i xo.size with y | y
   ·rw [show xo.size - i = (xo.size - (i + 1)) + 1 by omega,List.range'_succ] at er
    cases er
   ·omega
  rw [ei,← len,List.take_length] at D2
  exact wpAny_pure (q _ D2 S2)
end
noncomputable def tPuts:List (TE × TE)->Addr->St->Hp->(Hp->Prop)->Prop
 | [],_,_,H,R=>R H
 | (tk,tv) :: r,p,σ,H,R=>tk σ H fun x H1=>tv σ H1 fun y H2=>∃ k kvs,keyOf x = some k∧H2 p = some (.dK kvs)∧kvs.length < sizeLine∧tPuts r p σ (upd H2 p (.dK (putK kvs k y))) R
noncomputable def PLs (X:Cx) (pos:Pos) (keys:List (Option Expr)) (values:List Expr) (trs:List (TE × TE)):Prop :=
 ∀ (pins:List (Addr × Obj)) (s:Shared) (σ:St) (H:Hp) (p:Addr) (R:Hp->Prop),Inv X pins σ H s->tPuts trs p σ H R ->
  wpAny (model X.prog X.w) X.A (zcy p (pairTrees keys values X.env pos)) (fun _ s2=>∃ H2,Inv X pins σ H2 s2∧R H2) X.xe s
theorem zf8 {X:Cx} {pos:Pos}:PLs X pos [] [] []:=fun pins s σ H p R I h=>by
 unfold zcy pairTrees
 rw [List.forIn_nil]
 exact wpAny_pure ⟨H,I,h⟩
theorem zgY {X:Cx} {pos:Pos} {k v:Expr} {ks:List (Option Expr)} {vs:List Expr} {tk tv:TE} {trs:List (TE × TE)} (hk:PE X k tk) (hv:PE X v tv) (hr:PLs X pos ks vs trs) :
  PLs X pos (some k :: ks) (v :: vs) ((tk,tv) :: trs):=fun pins s σ H p R I h=>by
 unfold zcy
 show wpAny _ _ (forIn ((eval k X.env,do let x ← eval v X.env; standAt pos; pure x) :: pairTrees ks vs X.env pos) PUnit.unit _) _ _ _
 rw [List.forIn_cons]
 refine wpAny_bind (wpAny_bind (thn (hk pins s σ H _ I h) fun u s1 zq_=>?_))
 obtain ⟨x,H1,I1,rx,q1⟩:=zq_
 refine wpAny_bind (wpAny_holding (wpAny_bind (thn (hv pins s1 σ H1 _ I1 q1) fun u2 s2 zq_=>?_)))
 obtain ⟨y,H2,I2,ry,k2,kvs,e1,e2,e3,q2⟩:=zq_
 refine wpAny_bind (wpAny_standAt (wpAny_pure ?_))
 obtain rfl:=zeD e1
 obtain ⟨z,hd,vs2,rel,dd⟩:=zhl I2.hok e2
 have zl:vs2.length ≤ sizeLine:=by rw [← rel.length]; exact z
 refine wpAny_bind (wpAny_holding (wpAny_dictSet_pairs (knd:=zaJ X.prog X.w) (hsz:=zl) (zf7 rx) dd fun h3 dd3 hs3=>wpAny_pure ?_))
 have hl:(putK kvs k2 y).length ≤ sizeLine:=by have:=zcJ kvs k2 y; omega
 have he:∃ q,h3.get? p = some q:=let ⟨q,_,_,hq,_⟩:=dd3; ⟨q,hq⟩
 exact hr pins _ σ _ p R (zea I2 (by rw [e2]; exact True.intro) hs3 he (zfs hl hd (rel.put k2 ry) dd3)) q2
theorem zb8 {env:Env} {pos:Pos}:∀ (n:Nat) (keys:List (Option Expr)) (values:List Expr),keys.all (·.isSome) = true->keys.length = values.length ->
  pairTrees keys values env pos = pairTrees (keys.take n) (values.take n) env pos ++ pairTrees (keys.drop n) (values.drop n) env pos
 | 0,keys,values,_,_=>rfl
 | n + 1,[],[],_,_=>rfl
 | n + 1,[],_ :: _,_,h=>by cases h
 | n + 1,_ :: _,[],_,h=>by cases h
 | n + 1,none :: _,_ :: _,h,_=>by simp at h
 | n + 1,some k :: ks,v :: vs,h,l=>by
  have:=zb8 (env:=env) (pos:=pos) n ks vs (by simpa using h) (by simpa using l)
  show (eval k env,_) :: pairTrees ks vs env pos = _
  rw [this]
  rfl
noncomputable def zht (t1 t2:List (TE × TE)):TE:=fun σ H Q=>∀ p,H p = none->tPuts t1 p σ (upd H p (.dK [])) fun H2=>∀ q,H2 q = none->tPairs t2 σ (upd H2 q (.dK [])) fun ps H3 =>
 ∃ kvs1 kvs2,H3 p = some (.dK kvs1)∧kvs1 ≠ []∧H3 q = some (.dK [])∧ps = kvs2.map (fun kv=>(kV kv.1,kv.2))∧kvs1.length ≤ 1000∧kvs2.length ≤ 15 ∧
  Q (.ref p) (upd (upd H3 q (.dK (zby [] kvs2))) p (.dK (zby kvs1 (zby [] kvs2))))
structure PLP (X:Cx) (pos:Pos) (n:Nat) (keys:List (Option Expr)) (values:List Expr) (t1 t2:List (TE × TE)):Prop where
 one:PLs X pos (keys.take n) (values.take n) t1
 two:PPs X pos (keys.drop n) (values.drop n) t2
 all:keys.all (·.isSome) = true
 len:keys.length = values.length
 cnt:keys.length = n + t2.length
theorem ziu {X:Cx} {pos:Pos}:PLP X pos 0 [] [] [] []:=⟨zf8,zio,rfl,rfl,rfl⟩
theorem zdt {X:Cx} {pos:Pos} {k v:Expr} {ks:List (Option Expr)} {vs:List Expr} {tk tv:TE} {t2:List (TE × TE)} (hk:PE X k tk) (hv:PE X v tv) (hr:PLP X pos 0 ks vs [] t2):PLP X pos 0 (some k :: ks) (v :: vs) [] ((tk,tv) :: t2) :=
 ⟨zf8,zhq hk hv hr.two,by rw [List.all_cons,hr.all]; rfl,by rw [List.length_cons,List.length_cons,hr.len],by have:=hr.cnt; rw [List.length_cons,List.length_cons]; omega⟩
theorem zaW {X:Cx} {pos:Pos} {n:Nat} {k v:Expr} {ks:List (Option Expr)} {vs:List Expr} {tk tv:TE} {t1 t2:List (TE × TE)} (hk:PE X k tk) (hv:PE X v tv) (hr:PLP X pos n ks vs t1 t2):PLP X pos (n + 1) (some k :: ks) (v :: vs) ((tk,tv) :: t1) t2 :=
 ⟨zgY hk hv hr.one,hr.two,by rw [List.all_cons,hr.all]; rfl,by rw [List.length_cons,List.length_cons,hr.len],by have:=hr.cnt; rw [List.length_cons]; omega⟩
theorem zhd {X:Cx} {pos:Pos} {keys:List (Option Expr)} {values:List Expr} {t1 t2:List (TE × TE)} (h:PLP X pos 17 keys values t1 t2) (l0:0 < t2.length) (l15:t2.length ≤ 15):PE X (.Dict keys values pos) (zht t1 t2):=by
 obtain ⟨h1,h2,hall,hl,cnt⟩:=h
 have lo:17 < keys.length:=by omega
 have hi:keys.length ≤ 32:=by omega
 intro pins s σ H Q I q
 have n1:(pairTrees (keys.take 17) (values.take 17) X.env pos).length = 17:=by
  rw [pairTrees_length _ _ _ _ (List.all_eq_true.mpr fun x hx=>List.all_eq_true.mp hall x (List.mem_of_mem_take hx)) (by rw [List.length_take,List.length_take,hl]),List.length_take]; omega
 have n2:(pairTrees (keys.drop 17) (values.drop 17) X.env pos).length = keys.length - 17:=by
  rw [pairTrees_length _ _ _ _ (List.all_eq_true.mpr fun x hx=>List.all_eq_true.mp hall x (List.mem_of_mem_drop hx)) (by rw [List.length_drop,List.length_drop,hl]),List.length_drop]
 rw [arm_eval_Dict,zip_pairTrees keys values X.env pos hall hl,zb8 17 keys values hall hl,zcP _ _ n1 (by intro e; rw [e] at n2; simp at n2; omega) (by omega),zdO (by omega)]
 refine wpAny_bind (wpAny_standAt (wpAny_bind (wpAny_bind (wpAny_alloc (wpAny_bind (wpAny_holding (wpAny_bind (wpAny_rule (wpAny_bind ?_)))))))))
 have hn:=I.hok.fresh (Nat.le_refl s.heap.objs.size)
 have I1:=I.laid (a:=s.heap.objs.size) (o:=.dK []) (h':=s.heap.push { cls:=.type "dict",data:=.dict #[] }) (t':=s.toks) (fun _ _ q=>Heap.get?_push_of_some _ q) (Nat.le_refl _) (zeI s.heap I.big)
 refine thn (h1 pins _ σ _ _ _ I1 (q _ hn)) fun _ s2 ⟨H2,I2,q2⟩=>wpAny_pure (wpAny_pure ?_)
 unfold zdq
 refine wpAny_bind (wpAny_holding ?_)
 have hn2:=I2.hok.fresh (Nat.le_refl s2.heap.objs.size)
 have I3:=I2.laid (a:=s2.heap.objs.size) (o:=.dK []) (h':=s2.heap.push { cls:=.type "dict",data:=.dict #[] }) (t':=s2.toks) (fun _ _ q=>Heap.get?_push_of_some _ q) (Nat.le_refl _) (zeI s2.heap I2.big)
 refine wpAny_subDict (knd:=zaJ X.prog X.w) (by omega) (thn (h2 pins _ σ _ _ I3 (q2 _ hn2)) fun ws s4 zq_=>?_)
 obtain ⟨ps,H4,I4,rel,kvs1,kvs2,e1,ne1,e2,ep,l1,l2,q4⟩:=zq_
 subst ep
 obtain ⟨rs,c,rk⟩:=zda (P:=X.prog) (w:=X.w) rel
 obtain ⟨z,hd,vs0,r0,dd⟩:=zhl I4.hok e2
 cases r0
 refine ⟨rs,c,dd,fun h5 dd5 hs5=>?_⟩
 have hz:(zby [] kvs2).length ≤ 15:=by
  have h1:=length_mergeK kvs2 []
  rw [List.length_nil] at h1
  omega
 have he:∃ q,h5.get? s2.heap.objs.size = some q:=let ⟨q,_,_,hq,_⟩:=dd5; ⟨q,hq⟩
 have rk2:=rk.merge .nil
 have I5:=zea (t':=s4.toks + ws.length) I4 (by rw [e2]; exact True.intro) hs5 he (zfs (by rw [sizeLine_eq]; omega) hd rk2 dd5)
 have npq:s.heap.objs.size ≠ s2.heap.objs.size:=fun e=>by
  rw [e,e2] at e1
  cases e1
  exact ne1 rfl
 have e1':upd H4 s2.heap.objs.size (.dK (zby [] kvs2)) s.heap.objs.size = some (.dK kvs1):=by rw [zat npq]; exact e1
 have e2':upd H4 s2.heap.objs.size (.dK (zby [] kvs2)) s2.heap.objs.size = some (.dK (zby [] kvs2)):=zad
 obtain ⟨z1,hd1,vs1,rel1,dd1⟩:=zhl I5.hok e1'
 obtain ⟨z2,hd2,vs2,rel2,dd2⟩:=zhl I5.hok e2'
 have ln1:=rel1.length
 have ln2:=rel2.length
 refine wpAny_bind (wpAny_onRaise (wpAny_holding (zc5 npq hd2 (fun e=>ne1 (List.length_eq_zero_iff.mp (by rw [ln1,e]; rfl))) dd1 dd2 (by rw [sizeLine_eq]; omega) fun h6 dd6 hs6=>wpAny_pure ?_)))
 have he6:∃ q,h6.get? s.heap.objs.size = some q:=let ⟨q,_,_,hq,_⟩:=dd6; ⟨q,hq⟩
 have hz6:(zby kvs1 (zby [] kvs2)).length ≤ sizeLine:=by
  have:=length_mergeK (zby [] kvs2) kvs1
  rw [sizeLine_eq]; omega
 exact ⟨.ref s.heap.objs.size,_,zea I5 (by rw [e1']; exact True.intro) hs6 he6 (zfs hz6 hd1 (rel2.merge rel1) dd6),rfl,q4⟩
theorem forS {tl:TE} {g:TG} {tb:TS} {D:Ends} {σ:St} {H H1:Hp} (z:Str) (hr:∀ Q,Q (.str z) H1->tl σ H Q) (ha:z.cps.all (· < 128) = true) (Pv:Nat->St->Hp->Prop) (h0:Pv 0 σ H1)
  (hs:∀ i c σ H,z.cps[i]? = some c->Pv i σ H->g (.str ⟨#[c]⟩) σ H fun σ2 H2=>tb { D with nx:=Pv (i + 1),ct:=Pv (i + 1),bk:=D.nx } σ2 H2) (hd:∀ σ H,Pv z.cps.size σ H->D.nx σ H):tFor (iStr tl) g tb D σ H:=by
 refine hr _ ⟨z,rfl,ha,fun i m σ H=>m = z.cps.size - i∧i ≤ z.cps.size∧Pv i σ H,⟨z.cps.size,by simp,Nat.zero_le _,h0⟩,?_⟩
 rintro i m σ H ⟨rfl,hi,p⟩
 by_cases c:i < z.cps.size
 ·refine .inr ⟨c,Pv (i + 1),fun σ' H' p'=>⟨z.cps.size - (i + 1),by omega,rfl,c,p'⟩,fun x H' y=>?_⟩
  obtain ⟨rfl,c',e,rfl⟩:=y
  exact hs i c' σ _ e p
 ·have e:i = z.cps.size:=by omega
  subst e
  exact .inl ⟨Nat.le_refl _,hd _ _ p⟩
theorem ziz {cap:List (Option Nat)} {tl:TE} {g:TG} {tt:TT} {te:TE} {σ:St} {H H1:Hp} {Q:VK} (z:Str) (hr:∀ Q,Q (.str z) H1->tl σ H Q) (ha:z.cps.all (· < 128) = true) (Pv:Addr->Nat->List V->Hp->Prop) (h0:∀ D,H1 D = none->Pv D 0 [] (upd H1 D (.lst [])))
  (hl:∀ D,H1 D = none->∀ i ys H,i ≤ z.cps.size->Pv D i ys H->H D = some (.lst ys)∧ys.length ≤ i) (hz:z.cps.size ≤ sizeLine)
  (hs:∀ D,H1 D = none->∀ i c ys H,z.cps[i]? = some c->Pv D i ys H->g (.str ⟨#[c]⟩) (zaE cap σ) H fun σ4 H4=>tt σ4 H4 fun b H5=>if b = true then te σ4 H5 fun y H6=>H6 D = some (.lst ys)∧Pv D (i + 1) (ys ++ [y]) (upd H6 D (.lst (ys ++ [y]))) else Pv D (i + 1) ys H5)
  (hd:∀ D,H1 D = none->∀ ys H,Pv D z.cps.size ys H->Q (.ref D) H):zbw cap (iStr tl) g tt te σ H Q:=by
 refine hr _ ⟨z,rfl,ha,fun D hD=>⟨fun i m ys H=>m = z.cps.size - i∧i ≤ z.cps.size∧Pv D i ys H,⟨z.cps.size,by simp,Nat.zero_le _,h0 D hD⟩,?_⟩⟩
 rintro i m ys H2 ⟨rfl,hi,p⟩
 obtain ⟨e1,e2⟩:=hl D hD i ys H2 hi p
 refine ⟨e1,?_⟩
 by_cases c:i < z.cps.size
 ·refine .inr ⟨c,by omega,Pv D (i + 1),fun ys' H' p'=>⟨z.cps.size - (i + 1),by omega,rfl,c,p'⟩,fun x H3 y=>?_⟩
  obtain ⟨rfl,c',e,rfl⟩:=y
  exact hs D hD i c' ys _ e p
 ·have e:i = z.cps.size:=by omega
  subst e
  exact .inl ⟨Nat.le_refl _,hd D hD ys H2 p⟩
theorem forS_ {tl:TE} {g:TG} {tb:TS} {D:Ends} {σ:St} {H:Hp} (Pre:Str->Hp->Prop) (hr:∀ Q,(∀ z H1,Pre z H1->Q (.str z) H1)->tl σ H Q) (h:∀ z H1,Pre z H1->tFor (iStr (tC (.str z))) g tb D σ H1):tFor (iStr tl) g tb D σ H:=hr _ fun z H1 p=>h z H1 p
theorem zjg {cap:List (Option Nat)} {tl:TE} {g:TG} {tt:TT} {te:TE} {σ:St} {H:Hp} {Q:VK} (Pre:Str->Hp->Prop) (hr:∀ Q,(∀ z H1,Pre z H1->Q (.str z) H1)->tl σ H Q) (h:∀ z H1,Pre z H1->zbw cap (iStr (tC (.str z))) g tt te σ H1 Q):zbw cap (iStr tl) g tt te σ H Q:=hr _ fun z H1 p=>h z H1 p
end L2
set_option Elab.async false
set_option linter.all false
set_option maxRecDepth 100000
namespace L2
open PySem PySem.Spec PyProof.Rows
section
variable {prog:Program} {w:World} {A:Around} {E:Value->Shared->Prop} {s:Shared} {a₀:Array Keyed}
end
section
variable {prog:Program} {w:World} {A:Around} {E:Value->Shared->Prop} {s:Shared} {T:String} {r d:Addr} {n:Nat} {P:Nat->Value->Prop} {OK:Heap->Prop} {Q:Value->Shared->Prop}
end
section
variable {X:Cx}
end
end L2
set_option Elab.async false
set_option linter.all false
set_option maxRecDepth 100000
namespace L2
open PySem PySem.Spec PyProof.Rows
noncomputable def stepO (ord:List Int) (h:Int):List Int:=if h = 0 ∨ h ∈ ord then ord else ord ++ [h]
noncomputable def layO (ord hs:List Int):List Int:=hs.foldl stepO ord
noncomputable def thAt (ts:List Th) (z:Int):Th:=(ts.find? fun t=>t.1 == z).getD (0,[],[])
noncomputable def zir (ts:List Th) (z:Int):List Int:=(thAt ts z).2.1
noncomputable def zhH (ts:List Th) (roots ord:List Int):List Int:=roots ++ ord.flatMap (zir ts)
structure Cart (ts:List Th) (roots ord:List Int):Prop where
 fix:layO [] (zhH ts roots ord) = ord
 led:∀ n,n < ord.length->ord.take (n + 1) <+: layO [] (zhH ts roots (ord.take n))
end L2
set_option Elab.async false
set_option linter.all false
set_option maxRecDepth 100000
namespace L2
open PySem PySem.Spec PyProof.Rows
section
variable {X:Cx}
end
end L2
set_option Elab.async false
set_option linter.all false
set_option maxRecDepth 100000
namespace PySem
namespace F
end F
structure SetWalked (w:World) (a:Addr) (es:Array (Int × Value)) (ep:Nat) (t:SetTable):Prop where
 fits:t.fits es.size = true
 plain:t.plain = true
 led:t.led = !w.params.followText "set-order"
 rise:∀ i j,i < j->j < es.size->t.place.getD i 0 < t.place.getD j 0
end PySem
namespace PySem
section
variable {prog:Program} {w:World} {A:Around} {E:Value->Shared->Prop} {s:Shared}
end
end PySem
namespace PySem
end PySem
namespace PySem
section
variable {prog:Program} {w:World} {A:Around} {E:Value->Shared->Prop} {s:Shared}
end
end PySem
namespace PySem
section
variable {prog:Program} {w:World} {A:Around} {R:Result->Shared->Prop} {I:Addr} {fp wr:List Addr} {G:Array GenState->Array GenState->Prop} {n:Nat} {P:Nat->Value->Prop} {St:Nat->Shared->Prop}
end
section
variable {prog:Program} {w:World} {A:Around} {E:Value->Shared->Prop} {s:Shared}
end
end PySem
namespace PySem.W
section
variable {prog:Program} {w:World} {A:Around} {E:Value->Shared->Prop} {s:Shared} {r:Addr} {Q:Bool->Shared->Prop}
end
end PySem.W
set_option Elab.async false
set_option linter.all false
set_option maxRecDepth 100000
namespace L2
open PySem PySem.Spec PyProof.Rows
noncomputable def SetO (w:World) (a:Addr) (ns:List Int):HO:=.ext fun h=>∃ es ep t ms,h.get? a = some { cls:=.type "set",data:=.set es ep t }∧SetWalked w a es ep t∧IntsAre (es.toList.map (·.2)) ms∧ms.Perm ns
section
variable {X:Cx}
end
end L2
set_option Elab.async false
set_option linter.all false
set_option maxRecDepth 100000
namespace L2
open PySem PySem.Spec PyProof.Rows
section
variable {X:Cx}
end
section
variable {X:Cx} {K:PySem.W.Frag}
theorem zfi (hk:X.K = K):OpR X (compareOp .In) (rIn K false):=by subst hk; exact op_in_seq
end
end L2
set_option Elab.async false
set_option linter.all false
set_option maxRecDepth 100000
namespace L2
open PySem PySem.Spec PyProof.Rows
structure KDct (K:PySem.W.Frag) (a:Addr) (D:List (Str × V)):Prop where
 lo:(a == sysModules) = false
 at_:∃ o es ep,K.lookup a = some o∧o.ExactDict∧o.data = .dict es ep∧KTD.Rows RelV es.toList D
inductive KRp (K:PySem.W.Frag):V->PyData->Prop
 | non:KRp K .non .none
 | bl (b:Bool):KRp K (.bl b) (.bool b)
 | int (i:Int):KRp K (.int i) (.int i)
 | str (x:Str):KRp K (.str x) (.str x)
 | tup {a:Addr} {xs:List V} {ds:List PyData}:(∀ H,SqT K H a xs)->xs.length = ds.length->(∀ (i:Nat) (x:V) (d:PyData),xs[i]? = some x->ds[i]? = some d->KRp K x d)->KRp K (.ref a) (.tuple ds)
 | dct {a:Addr} {D:List (Str × V)} {ds:List (PyData × PyData)}:KDct K a D->D.length = ds.length->(∀ (i:Nat) (p:Str × V) (q:PyData × PyData),D[i]? = some p->ds[i]? = some q->q.1 = .str p.1)->(∀ (i:Nat) (p:Str × V) (q:PyData × PyData),D[i]? = some p->ds[i]? = some q->KRp K p.2 q.2)->KRp K (.ref a) (.dict ds)
noncomputable def zfK (f:Value->Option PyData):List Value->Option (List PyData)
 | []=>some []
 | v :: r=>match f v,zfK f r with
  | some d,some ds=>some (d :: ds)
  | _,_=>none
noncomputable def rdEs (f:Value->Option PyData):List DictEntry->Option (List (PyData × PyData))
 | []=>some []
 | e :: r=>match e.key,f e.val,rdEs f r with
  | .str x _,some d,some ds=>some ((.str x,d) :: ds)
  | _,_,_=>none
noncomputable def rdK (K:PySem.W.Frag):Nat->Value->Option PyData
 | 0,_=>none
 | n + 1,.none=>some .none
 | n + 1,.bool b=>some (.bool b)
 | n + 1,.int i _=>some (.int i)
 | n + 1,.str x _=>some (.str x)
 | n + 1,.ref a=>match K.lookup a with
  | some ⟨.type "tuple",_,.seq its _,_⟩=>if its.size ≤ 1000 then (zfK (rdK K n) its.toList).map .tuple else none
  | some ⟨.type "dict",none,.dict es _,sl⟩=>if (a == sysModules) = false∧sl.size = 0 then (rdEs (rdK K n) es.toList).map .dict else none
  | _=>none
 | _,_=>none
theorem zfN {K:PySem.W.Frag} {n:Nat} (ih:∀ {v:Value} {d:PyData},rdK K n v = some d->∃ x,RelV x v∧KRp K x d):∀ {vs:List Value} {ds:List PyData},zfK (rdK K n) vs = some ds->∃ xs,Vals xs vs∧xs.length = ds.length∧∀ (i:Nat) (x:V) (d:PyData),xs[i]? = some x->ds[i]? = some d->KRp K x d
 | [],ds,h=>by cases h; exact ⟨[],.nil,rfl,fun i x d e=>by simp at e⟩
 | v :: r,ds,h=>by
  unfold zfK at h
  split at h
  ·rename_i d ds' h1 h2
   cases h
   obtain ⟨x,r1,k1⟩:=ih h1
   obtain ⟨xs,r2,l2,k2⟩:=zfN ih h2
   refine ⟨x :: xs,.cons r1 r2,by rw [List.length_cons,List.length_cons,l2],fun i x' d' e1 e2=>?_⟩
   cases i with
   | zero=>cases e1; cases e2; exact k1
   | succ i=>exact k2 i x' d' (by simpa using e1) (by simpa using e2)
  ·cases h
theorem zf6 {K:PySem.W.Frag} {n:Nat} (ih:∀ {v:Value} {d:PyData},rdK K n v = some d->∃ x,RelV x v∧KRp K x d):∀ {es:List DictEntry} {ds:List (PyData × PyData)},rdEs (rdK K n) es = some ds->∃ D:List (Str × V),KTD.Rows RelV es D∧D.length = ds.length∧∀ (i:Nat) (p:Str × V) (q:PyData × PyData),D[i]? = some p->ds[i]? = some q->q.1 = .str p.1∧KRp K p.2 q.2
 | [],ds,h=>by cases h; exact ⟨[],.nil,rfl,fun i x d e=>by simp at e⟩
 | e :: r,ds,h=>by
  unfold rdEs at h
  split at h
  ·rename_i x t d ds' hk h1 h2
   cases h
   obtain ⟨y,r1,k1⟩:=ih h1
   obtain ⟨D,r2,l2,k2⟩:=zf6 ih h2
   refine ⟨(x,y) :: D,.cons hk r1 r2,by rw [List.length_cons,List.length_cons,l2],fun i p q e1 e2=>?_⟩
   cases i with
   | zero=>cases e1; cases e2; exact ⟨rfl,k1⟩
   | succ i=>exact k2 i p q (by simpa using e1) (by simpa using e2)
  ·cases h
theorem zfO {K:PySem.W.Frag}:∀ {n:Nat} {v:Value} {d:PyData},rdK K n v = some d->∃ x,RelV x v∧KRp K x d
 | 0,_,_,h=>by unfold rdK at h; cases h
 | n + 1,v,d,h=>by
  unfold rdK at h
  split at h
  ·rename_i e; cases e
  ·cases h; exact ⟨.non,rfl,.non⟩
  ·cases h; exact ⟨.bl _,rfl,.bl _⟩
  ·cases h; exact ⟨.int _,⟨_,rfl⟩,.int _⟩
  ·cases h; exact ⟨.str _,⟨_,rfl⟩,.str _⟩
  ·rename_i m a e
   cases e
   refine ⟨.ref a,rfl,?_⟩
   split at h
   ·rename_i dd its nn sl hk
    split at h
    ·rename_i hz
     cases hh:zfK (rdK K n) its.toList with
     | none=>rw [hh] at h; cases h
     | some ds =>
      rw [hh] at h
      cases h
      obtain ⟨xs,r,l,k⟩:=zfN (fun h=>zfO h) hh
      exact .tup (fun H=>.inr ⟨_,its,nn,hk,rfl,rfl,by rw [sizeLine_eq]; omega,r⟩) l k
    ·cases h
   ·rename_i es ep sl hk
    split at h
    ·rename_i hc
     cases hh:rdEs (rdK K n) es.toList with
     | none=>rw [hh] at h; cases h
     | some ds =>
      rw [hh] at h
      cases h
      obtain ⟨D,r,l,k⟩:=zf6 (fun h=>zfO h) hh
      exact .dct ⟨hc.1,_,es,ep,hk,⟨rfl,rfl,by simpa using hc.2⟩,rfl,r⟩ l (fun i p q h1 h2=>(k i p q h1 h2).1) fun i p q h1 h2=>(k i p q h1 h2).2
    ·cases h
   ·cases h
  ·cases h
theorem zhL {K:PySem.W.Frag} {n:Nat} {a:Addr} {d:PyData} (h:rdK K n (.ref a) = some d):KRp K (.ref a) d:=by
 obtain ⟨x,r,k⟩:=zfO h
 cases x with
 | ref b=>cases (show Value.ref a = Value.ref b from r); exact k
 | int i=>obtain ⟨t,e⟩:=r; cases e
 | str i=>obtain ⟨t,e⟩:=r; cases e
 | byt i=>obtain ⟨t,e⟩:=r; cases e
 | flt i=>obtain ⟨t,e⟩:=r; cases e
 | non=>cases r
 | bl b=>cases r
 | ty n=>cases r
section
variable {prog:Program} {w:World} {A:Around} {E:Value->Shared->Prop} {s:Shared} {a:Addr} {D:List (Str × V)} {k:Str} {tk:Tok}
noncomputable def zfb (h:Heap) (a:Addr) (D:List (Str × V)):Prop:=KTD.TabOf RelV h a D
theorem zfb.typeIs (T:zfb s.heap a D):s.TypeIs (.ref a) "dict":=let ⟨_,o,_,_,ho,hc,_⟩:=T; ⟨o,ho,hc.1⟩
theorem zfb.noDict {h:Heap} (T:zfb h a D):∀ b,Value.ref a = .ref b->∃ ob,h.get? b = some ob∧ob.dict = none :=
 fun b e=>by injection e with e; subst e; exact let ⟨_,o,_,_,ho,hc,_⟩:=T; ⟨o,ho,hc.2.1⟩
theorem zhn {Q:Option Value->Shared->Prop} (T:zfb s.heap a D) (h1:∀ x v,KTD.datumAt k D = some x->RelV x v->Q (some v) { s with toks:=s.toks + 1 }) (h2:KTD.datumAt k D = none->Q none { s with toks:=s.toks + 1 }) :
  wpAny (model prog w) A (dictGet a (.str k tk)) Q E s:=by
 obtain ⟨_,o,es,ep,ho,hc,hd,hr⟩:=T
 unfold dictGet
 try with_reducible refine wpAny_holding ?_
 refine wpAny_bind (wpAny_pyHash_str (wpAny_bind (KTD.kt_dictFind_strs (s:={ s with toks:=s.toks + 1 }) ho hd (by obtain ⟨l⟩:=es; simpa using hr.exact) ?_)))
 have hq:Q (findBy (fun k v=>v.isStr k) es k) { s with toks:=s.toks + 1 }:=by
  have hf:findBy (fun k v=>v.isStr k) es k = (es.toList.find? fun e=>e.key.isStr k).map (·.val):=by
   obtain ⟨l⟩:=es
   simp [findBy]
  rw [hf]
  cases hat:KTD.datumAt k D with
  | some d=>obtain ⟨v,hv,hfl⟩:=hr.find_some hat; rw [hv]; exact h1 d v hat hfl
  | none=>rw [hr.find_none hat]; exact h2 hat
 rw [findBy_of_findIdx?] at hq
 cases hi:es.findIdx? fun e=>e.key.isStr k with
 | none=>rw [hi] at hq; exact wpAny_pure hq
 | some i=>rw [hi] at hq; exact wpAny_bind (wpAny_dictEntries (s:={ s with toks:=s.toks + 1 }) ho hd (wpAny_pure hq))
end
theorem KDct.here {X:Cx} {pins:List (Addr × Obj)} {σ:St} {H:Hp} {s:Shared} {a:Addr} {D:List (Str × V)} (I:Inv X pins σ H s) (g:KDct X.K a D):zfb s.heap a D:=by
 obtain ⟨lo,o,es,ep,hk,hc,hd,hr⟩:=g
 exact ⟨lo,o,es,ep,I.kIn a o hk,hc,hd,hr⟩
noncomputable def zhs (K:PySem.W.Frag) (td ty:TE):TE:=fun σ H Q=>td σ H fun x H1=>∃ a D,x = .ref a∧KDct K a D∧ty σ H1 fun y H2=>∃ k,y = .str k∧Q ((KTD.datumAt k D).getD .non) H2
section
variable {X:Cx} {o i e:Expr} {pos apos cpos:Pos} {td ty:TE} {K:PySem.W.Frag}
theorem zhe (hk:X.K = K) (ho:PE X o td) (he:PE X e ty) (m:M1 X o "get" apos e cpos):PE X (.Call (.Attribute o "get" apos) [e] [] cpos) (zhs K td ty):=by
 subst hk
 intro pins s σ H Q I h
 refine wpAny_Call_method m.base m.few m.line PySem.F.plainAttrs_dict PySem.F.slot_dict_get PySem.F.type_dict_get (thn (ho pins s σ H _ I h) fun u s1 zq_=>?_)
 obtain ⟨x,H1,I1,rx,a,D,ex,g,q1⟩:=zq_
 subst ex
 obtain rfl:u = Value.ref a:=rx
 have T:=g.here I1
 refine ⟨T.typeIs,T.noDict,?_⟩
 rw [m.trees]
 refine Calls.callWith_builtin rfl (Calls.evalArgs_plain (Calls.spliced_cons (thn (he pins s1 σ H1 _ I1 q1) fun iv s2 ⟨y,H2,I2,ry,k,ey,q2⟩=>Calls.spliced_nil ?_)))
 subst ey
 obtain ⟨tk,rfl⟩:=ry
 have T2:=g.here I2
 refine wpAny_call_entry PySem.F.slot_dict_get T2.typeIs PySem.F.entry_dict_get ?_ (PySem.F.args_dict_get_2 _ _)
 show wpAny _ _ (dictGet a (.str k tk) >>= _) _ _ _
 refine wpAny_bind (zhn T2 (fun x v ha hv=>?_) fun hn=>?_)
 ·rw [ha] at q2
  exact wpAny_pure ⟨v,rfl,⟨x,H2,I2.tok _,hv,q2⟩⟩
 ·rw [hn] at q2
  show wpAny _ _ (Builtin.Dict.missed a (.str k tk) >>= _) _ _ _
  exact wpAny_bind (wpAny_missed_other T2.1 (wpAny_pure ⟨.none,rfl,⟨.non,H2,I2.tok _,rfl,q2⟩⟩))
end
end L2
set_option Elab.async false
set_option linter.all false
set_option maxRecDepth 100000
namespace L2
open PySem PySem.Spec PyProof.Rows
section
variable {X:Cx}
theorem ziw {bs:List Bool}:∀ {us:List Value} {i:Nat} {v:Value},Vals (bs.map V.bl) us->us[i]? = some v->v = .bool (bs.getD i false):=by
 intro us i v r e
 have hl:i < us.length:=by
  rcases Nat.lt_or_ge i us.length with h | h
  ·exact h
  ·rw [List.getElem?_eq_none h] at e; cases e
 have hl2:i < (bs.map V.bl).length:=by rw [r.length]; exact hl
 have e2:(bs.map V.bl)[i]? = some (.bl (bs.getD i false)):=by
  rw [List.length_map] at hl2
  rw [List.getElem?_map,List.getElem?_eq_getElem hl2,List.getD_eq_getElem?_getD,List.getElem?_eq_getElem hl2]
  rfl
 obtain ⟨u,h1,h2⟩:=Vals.get r e2
 rw [e] at h1
 cases h1
 exact h2
theorem zc2 (bs:List Bool):((List.range bs.length).all fun i=>bs.getD i false) = bs.all id:=by
 rw [Bool.eq_iff_iff,List.all_eq_true,List.all_eq_true]
 constructor
 ·intro h x hx
  obtain ⟨i,hi,rfl⟩:=List.mem_iff_getElem.mp hx
  have:=h i (List.mem_range.mpr hi)
  rw [List.getD_eq_getElem?_getD,List.getElem?_eq_getElem hi] at this
  exact this
 ·intro h i hi
  have hi:=List.mem_range.mp hi
  have:=h _ (List.getElem_mem hi)
  rw [List.getD_eq_getElem?_getD,List.getElem?_eq_getElem hi]
  exact this
theorem zeF (hc:X.calm = true):zb9 X (.builtin "all") (fun xs H Q=>∃ (l:Addr) (bs:List Bool),xs = [.ref l]∧seqV H l = some (bs.map V.bl)∧zc1 H l = some true∧Q (.bl (bs.all id)) H):=by
 intro pins s σ H xs us Q I r h
 obtain ⟨l,bs,rfl,hl,hk,q⟩:=h
 obtain ⟨u,rfl,ru⟩:=zdE r
 cases ru
 obtain ⟨its,rv,pl,hz⟩:=I.list (zbV hl hk)
 have hlt:l < s.heap.objs.size:=by obtain ⟨o,e,_⟩:=pl.isList; exact Heap.lt_size e
 refine call_all_walkS (wpAny_pyIter_list pl.isList ?_)
 have hlen:its.toArray.size = bs.length:=by rw [List.size_toArray,← rv.length,List.length_map]
 refine ⟨s.heap.objs.size,_,_,_,_,_,_,fun i=>bs.getD i false,rfl,(Walks.list (A:=X.A.in1) (show X.A.in1.handled = none from I.ok.hd hc) s.heap.objs.size l (Nat.ne_of_lt hlt) its.toArray).toS,?_,?_,?_⟩
 ·exact ⟨⟨_,Heap.get?_push_size _ rfl,rfl,rfl⟩,pl.isList.push _⟩
 ·intro i v s2 Q2 E2 hv hQ
  have e:=ziw rv (i:=i) (v:=v) (by simpa using hv)
  subst e
  exact wpAny_truthy_bool hQ
 ·intro s' hm
  obtain ⟨h',g',d',k',o'⟩:=s'
  obtain rfl:g' = s.gens:=hm.gens
  obtain rfl:d' = s.drawn:=hm.drawn
  obtain rfl:o' = s.os:=hm.os
  have kk:∀ b o,s.heap.get? b = some o->h'.get? b = some o:=fun b o e=>hm.heap b o (fun z=>absurd (Heap.lt_size e) (by rw [List.mem_singleton.mp z]; exact Nat.lt_irrefl _)) (Heap.get?_push_of_some _ e)
  refine ⟨.bl (bs.all id),H,I.kept (t':=k') kk,?_,q⟩
  show _ = _
  rw [hlen,zc2]
theorem zaM {H1 H:Hp} {D:Addr} {u:HO} (S:Same H1 H) (hD:H1 D = none):Same H1 (upd H D u):=fun q o h=>by
 rw [zat (fun e=>by rw [e,hD] at h; cases h)]
 exact S q o h
theorem zcl {α β:Type} (f:α->Option β) (xs:List α) (i:Nat) (x:α) (h:xs[i]? = some x):(xs.take (i + 1)).filterMap f = (xs.take i).filterMap f ++ (f x).toList:=by
 rw [List.take_succ,h,List.filterMap_append]
 cases e:f x <;> simp [e]
theorem zjl {K:PySem.W.Frag} {cap:List (Option Nat)} {tl:TE} {g:TG} {tt:TT} {te:TE} {σ:St} {H H1:Hp} {Q:VK} (a:Addr) (xs:List V) (f:V->Option V) (hr:∀ Q,Q (.ref a) H1->tl σ H Q) (hq:SqL K H1 a xs) (hz:xs.length ≤ sizeLine)
  (hs:∀ x H (R:V->Hp->Prop) (N:Hp->Prop),x ∈ xs->Same H1 H->(∀ y H',f x = some y->Same H H'->R y H')->(f x = none->∀ H',Same H H'->N H')->g x (zaE cap σ) H fun σ4 H4=>tt σ4 H4 fun b H5=>if b = true then te σ4 H5 R else N H5)
  (hd:∀ D H',H1 D = none->Same H1 H'->H' D = some (.lst (xs.filterMap f))->Q (.ref D) H'):zbw cap (zdV K tl) g tt te σ H Q:=by
 refine zjk a xs hr hq (fun D i ys H2=>Same H1 H2∧H2 D = some (.lst ys)∧ys = (xs.take i).filterMap f) (fun D hD=>⟨zaM (fun _ _ h=>h) hD,zad,rfl⟩) ?_ hz ?_ ?_
 ·rintro D hD i ys H2 hi ⟨S,h2,e⟩
  refine ⟨S.seq hq,h2,?_⟩
  rw [e]
  exact Nat.le_trans (List.length_filterMap_le _ _) (by rw [List.length_take]; omega)
 ·rintro D hD i x ys H2 hx ⟨S,h2,e⟩
  refine hs x H2 _ _ (List.mem_of_getElem? hx) S (fun y H' ey S2=>⟨S2 _ _ h2,zaM (fun q o h=>S2 _ _ (S _ _ h)) hD,zad,?_⟩) (fun ey H' S2=>⟨fun q o h=>S2 _ _ (S _ _ h),S2 _ _ h2,?_⟩)
  ·rw [zcl f xs i x hx,ey,e]; rfl
  ·rw [zcl f xs i x hx,ey,e]; simp
 ·rintro D hD ys H2 ⟨S,h2,e⟩
  refine hd D H2 hD S ?_
  rw [h2,e,List.take_length]
theorem zeA {β:Type} (f:Nat->Option β) (i:Nat):(List.range (i + 1)).filterMap f = (List.range i).filterMap f ++ (f i).toList:=by
 rw [List.range_succ,List.filterMap_append]
 cases e:f i <;> simp [e]
theorem zi5 {cap:List (Option Nat)} {ta:TA} {g:TG} {tt:TT} {te:TE} {σ:St} {H H1:Hp} {Q:VK} (n:Int) (f:Nat->Option V) (hr:∀ Q,Q [.int n] H1->ta σ H Q) (n0:-(2 ^ 62) ≤ n) (n1:n < 2 ^ 62) (hz:n.toNat ≤ sizeLine)
  (hs:∀ i H (R:V->Hp->Prop) (N:Hp->Prop),i < n.toNat->Same H1 H->(∀ y H',f i = some y->Same H H'->R y H')->(f i = none->∀ H',Same H H'->N H')->g (.int (0 + i)) (zaE cap σ) H fun σ4 H4=>tt σ4 H4 fun b H5=>if b = true then te σ4 H5 R else N H5)
  (hd:∀ D H',H1 D = none->Same H1 H'->H' D = some (.lst ((List.range n.toNat).filterMap f))->Q (.ref D) H'):zbw cap (zdy ta) g tt te σ H Q:=by
 refine zeu n hr n0 n1 (fun D i ys H2=>Same H1 H2∧H2 D = some (.lst ys)∧ys = (List.range i).filterMap f) (fun D hD=>⟨zaM (fun _ _ h=>h) hD,zad,rfl⟩) ?_ hz ?_ ?_
 ·rintro D hD i ys H2 hi ⟨S,h2,e⟩
  refine ⟨h2,?_⟩
  rw [e]
  exact Nat.le_trans (List.length_filterMap_le _ _) (by rw [List.length_range]; omega)
 ·rintro D hD i ys H2 hi ⟨S,h2,e⟩
  refine hs i H2 _ _ hi S (fun y H' ey S2=>⟨S2 _ _ h2,zaM (fun q o h=>S2 _ _ (S _ _ h)) hD,zad,?_⟩) (fun ey H' S2=>⟨fun q o h=>S2 _ _ (S _ _ h),S2 _ _ h2,?_⟩)
  ·rw [zeA f i,ey,e]; rfl
  ·rw [zeA f i,ey,e]; simp
 ·rintro D hD ys H2 ⟨S,h2,e⟩
  refine hd D H2 hD S ?_
  rw [h2,e]
end
end L2
set_option Elab.async false
set_option linter.all false
set_option maxRecDepth 100000
namespace L2
open PySem PySem.Spec PyProof.Rows
section
variable {X:Cx}
end
end L2
set_option Elab.async false
set_option linter.all false
set_option maxRecDepth 100000
namespace L2
open PySem PySem.Spec PyProof.Rows
section
variable {X:Cx} {es:List Expr} {t te:TA} {s:Str} {i:Int} {j:Nat} {p:Pos}
theorem zaV (h:PA X es t):PA X (.Constant (.str s) j p :: es) (zch (tC (.str s)) t):=zaa zaf h rfl
theorem zfQ (h:PA X es t):PA X (.Constant (.int i) j p :: es) (zch (tC (.int i)) t):=zaa zac h rfl
theorem zaX {x:Str} {te:TE} (h1:PE X (.Name x p) te) (h:PA X es t):PA X (.Name x p :: es) (zch te t):=zaa h1 h rfl
end
theorem zhN {X:Cx} {i:Nat} {x:Str} {es:List Expr} {t:TA} {pos pos' p:Pos} (hN:X.N.Nodup) (hi:X.N[i]? = some x) (hx:Loc X.env.scope x) (he:PA X es t) (hf:X.fn x = true ∨ X.env.scope.names.lookup x = some .local:=by first | exact .inl rfl | exact .inr rfl | assumption) :
  PS X (.Assign [.Name x pos'] (.List es p) pos) (tAsg (tLst t) (zbn i)):=zal hN hi hx (zaC he) rfl hf
section
variable {X:Cx} {e:Expr} {te:TE} {p p1 p2 pos cpos:Pos} {j:Nat} {K:PySem.W.Frag}
end
end L2
set_option Elab.async false
set_option linter.all false
set_option maxRecDepth 100000
namespace L2
open PySem PySem.Spec PyProof.Rows
section
variable {prog:Program} {w:World} {A:Around}
end
section
variable {X:Cx} {e:Expr} {te:TE} {p p1 p2 p3 p4 pos:Pos} {j:Nat} {K:PySem.W.Frag}
end
section
variable {X:Cx}
end
end L2
set_option Elab.async false
set_option linter.all false
set_option maxRecDepth 100000
namespace L2
open PySem PySem.Spec PyProof.Rows
section
variable {prog:Program} {w:World} {A:Around}
end
end L2
set_option Elab.async false
set_option linter.all false
set_option maxRecDepth 100000
namespace L2
open PySem PySem.Spec PyProof.Rows
section
variable {X:Cx} {e1 e2:Expr} {ta:TA} {p p1 pos pos1:Pos} {K:PySem.W.Frag}
end
end L2
set_option Elab.async false
set_option linter.all false
namespace L2
open PySem
section
variable {X:Cx}
end
end L2
set_option Elab.async false
set_option linter.all false
set_option maxRecDepth 100000
namespace L2
open PySem PySem.Spec PyProof.Rows
section
variable {prog:Program} {w:World} {A:Around}
end
section
variable {X:Cx}
end
end L2
set_option Elab.async false
set_option linter.all false
set_option maxRecDepth 100000
namespace HT
open PySem PySem.Spec PyProof.Rows
section
variable {prog:Program} {w:World} {A:Around} {E:Value->Shared->Prop} {s:Shared}
end
end HT
namespace L2
open PySem PySem.Spec PyProof.Rows
section
variable {X:Cx}
end
theorem zi7 {K:PySem.W.Frag} {cap:List (Option Nat)} {tl:TE} {g:TG} {tt:TT} {te:TE} {σ:St} {H H1:Hp} {Q:VK} (a:Addr) (xs:List V) (f:V->Option V) (hr:∀ Q,Q (.ref a) H1->tl σ H Q) (hq:H1 a = some (.tup xs)) (hz:xs.length ≤ sizeLine)
  (hs:∀ x H (R:V->Hp->Prop) (N:Hp->Prop),x ∈ xs->Same H1 H->(∀ y H',f x = some y->Same H H'->R y H')->(f x = none->∀ H',Same H H'->N H')->g x (zaE cap σ) H fun σ4 H4=>tt σ4 H4 fun b H5=>if b = true then te σ4 H5 R else N H5)
  (hd:∀ D H',H1 D = none->Same H1 H'->H' D = some (.lst (xs.filterMap f))->Q (.ref D) H'):zbw cap (iTup K tl) g tt te σ H Q:=by
 refine compT a xs hr (.of hq) (fun D i ys H2=>Same H1 H2∧H2 D = some (.lst ys)∧ys = (xs.take i).filterMap f) (fun D hD=>⟨zaM (fun _ _ h=>h) hD,zad,rfl⟩) ?_ hz ?_ ?_
 ·rintro D hD i ys H2 hi ⟨S,h2,e⟩
  refine ⟨.of (S _ _ hq),h2,?_⟩
  rw [e]
  exact Nat.le_trans (List.length_filterMap_le _ _) (by rw [List.length_take]; omega)
 ·rintro D hD i x ys H2 hx ⟨S,h2,e⟩
  refine hs x H2 _ _ (List.mem_of_getElem? hx) S (fun y H' ey S2=>⟨S2 _ _ h2,zaM (fun q o h=>S2 _ _ (S _ _ h)) hD,zad,?_⟩) (fun ey H' S2=>⟨fun q o h=>S2 _ _ (S _ _ h),S2 _ _ h2,?_⟩)
  ·rw [zcl f xs i x hx,ey,e]; rfl
  ·rw [zcl f xs i x hx,ey,e]; simp
 ·rintro D hD ys H2 ⟨S,h2,e⟩
  refine hd D H2 hD S ?_
  rw [h2,e,List.take_length]
theorem zeN {cap:List (Option Nat)} {tl:TE} {g:TG} {tt:TT} {te:TE} {σ:St} {H H1:Hp} {Q:VK} (z:Str) (f:Nat->Option V) (hr:∀ Q,Q (.str z) H1->tl σ H Q) (ha:z.cps.all (· < 128) = true) (hz:z.cps.size ≤ sizeLine)
  (hs:∀ c H (R:V->Hp->Prop) (N:Hp->Prop),c ∈ z.cps.toList->Same H1 H->(∀ y H',f c = some y->Same H H'->R y H')->(f c = none->∀ H',Same H H'->N H')->g (.str ⟨#[c]⟩) (zaE cap σ) H fun σ4 H4=>tt σ4 H4 fun b H5=>if b = true then te σ4 H5 R else N H5)
  (hd:∀ D H',H1 D = none->Same H1 H'->H' D = some (.lst (z.cps.toList.filterMap f))->Q (.ref D) H'):zbw cap (iStr tl) g tt te σ H Q:=by
 refine ziz z hr ha (fun D i ys H2=>Same H1 H2∧H2 D = some (.lst ys)∧ys = (z.cps.toList.take i).filterMap f) (fun D hD=>⟨zaM (fun _ _ h=>h) hD,zad,rfl⟩) ?_ hz ?_ ?_
 ·rintro D hD i ys H2 hi ⟨S,h2,e⟩
  refine ⟨h2,?_⟩
  rw [e]
  exact Nat.le_trans (List.length_filterMap_le _ _) (by rw [List.length_take]; omega)
 ·rintro D hD i x ys H2 hx ⟨S,h2,e⟩
  have hx':z.cps.toList[i]? = some x:=by rw [Array.getElem?_toList]; exact hx
  refine hs x H2 _ _ (List.mem_of_getElem? hx') S (fun y H' ey S2=>⟨S2 _ _ h2,zaM (fun q o h=>S2 _ _ (S _ _ h)) hD,zad,?_⟩) (fun ey H' S2=>⟨fun q o h=>S2 _ _ (S _ _ h),S2 _ _ h2,?_⟩)
  ·rw [zcl f _ i x hx',ey,e]; rfl
  ·rw [zcl f _ i x hx',ey,e]; simp
 ·rintro D hD ys H2 ⟨S,h2,e⟩
  refine hd D H2 hD S ?_
  rw [h2,e,← Array.length_toList,List.take_length]
inductive All2 {α β:Type} (R:α->β->Prop):List α->List β->Prop
 | nil:All2 R [] []
 | cons {a b as bs} (h:R a b) (t:All2 R as bs):All2 R (a :: as) (b :: bs)
namespace All2
variable {α β:Type} {R S:α->β->Prop}
theorem len {as:List α} {bs:List β} (h:All2 R as bs):as.length = bs.length:=by
 induction h with
 | nil=>rfl
 | cons _ _ ih=>simp [ih]
theorem imp (f:∀ a b,R a b->S a b) {as:List α} {bs:List β} (h:All2 R as bs):All2 S as bs:=by
 induction h with
 | nil=>exact .nil
 | cons h _ ih=>exact .cons (f _ _ h) ih
theorem append {as as':List α} {bs bs':List β} (h:All2 R as bs) (h':All2 R as' bs'):All2 R (as ++ as') (bs ++ bs'):=by
 induction h with
 | nil=>exact h'
 | cons h _ ih=>exact .cons h ih
theorem take {as:List α} {bs:List β} (h:All2 R as bs):∀ n,All2 R (as.take n) (bs.take n):=by
 induction h with
 | nil=>intro n; simp; exact .nil
 | cons h _ ih =>
  intro n
  cases n with
  | zero=>exact .nil
  | succ n=>exact .cons h (ih n)
theorem drop {as:List α} {bs:List β} (h:All2 R as bs):∀ n,All2 R (as.drop n) (bs.drop n):=by
 induction h with
 | nil=>intro n; simp; exact .nil
 | cons h t ih =>
  intro n
  cases n with
  | zero=>exact .cons h t
  | succ n=>exact ih n
theorem get {as:List α} {bs:List β} (h:All2 R as bs):∀ (i:Nat) (a:α) (b:β),as[i]? = some a->bs[i]? = some b->R a b:=by
 induction h with
 | nil=>intro i a b e; simp at e
 | cons h _ ih =>
  intro i a b e1 e2
  cases i with
  | zero=>cases e1; cases e2; exact h
  | succ i=>exact ih i a b e1 e2
theorem rep {a:α} {b:β} (h:R a b):∀ n,All2 R (List.replicate n a) (List.replicate n b)
 | 0=>.nil
 | n + 1=>.cons h (rep h n)
theorem mem {as:List α} {bs:List β} (h:All2 R as bs) {a:α} (m:a ∈ as):∃ b ∈ bs,R a b:=by
 induction h with
 | nil=>cases m
 | cons h _ ih =>
  rcases List.mem_cons.mp m with rfl | m
  ·exact ⟨_,List.mem_cons_self,h⟩
  ·obtain ⟨b,mb,r⟩:=ih m
   exact ⟨b,List.mem_cons_of_mem _ mb,r⟩
end All2
end L2
set_option Elab.async false
set_option linter.all false
set_option maxRecDepth 100000
namespace L2
open PySem PySem.Spec PyProof.Rows
section
variable {X:Cx} {CX:CXT} {k:Nat} {E:XK} {p pos spos:Pos} {e i o:Expr} {es:List Expr} {tk:TE} {t:TA} {g:Addr}
end
end L2
set_option Elab.async false
set_option linter.all false
set_option maxRecDepth 100000
namespace HT
open PySem PySem.Spec PyProof.Rows
end HT
namespace L2
open PySem PySem.Spec PyProof.Rows
section
variable {X:Cx}
end
end L2
set_option Elab.async false
set_option linter.all false
set_option maxRecDepth 100000
namespace HT
open PySem PySem.Spec PyProof.Rows PySem.W
section
variable {prog:Program} {w:World} {A:Around} {E:Value->Shared->Prop} {h:Heap} {g:Array GenState} {d:Drawn} {t:Nat} {os:OsState} {a C:Addr} {o:Obj} {K:Frag}
noncomputable def xcOk (K:Frag) (C:Addr):Bool:=findIn K (.ref C) "__getattribute__" == some (some (.builtin "BaseException.__getattribute__")) && findIn K (.ref C) "__getattr__" == some none && findIn K (.ref C) "__class__" == some (some (.builtin "object.__class__")) &&
 mroIn K C (.type "object") == some true && mroIn K C (.type "BaseException") == some true && (clsIn K C).isSome && typeIn K (.ref C) == some (.type "type") && instIn K (.ref C) (.type "type") == some true
structure XcOk (K:Frag) (C:Addr):Prop where
 ga:findIn K (.ref C) "__getattribute__" = some (some (.builtin "BaseException.__getattribute__"))
 gn:findIn K (.ref C) "__getattr__" = some none
 cl:findIn K (.ref C) "__class__" = some (some (.builtin "object.__class__"))
 ob:mroIn K C (.type "object") = some true
 be:mroIn K C (.type "BaseException") = some true
 cd:(clsIn K C).isSome = true
 ty:typeIn K (.ref C) = some (.type "type")
 tt:instIn K (.ref C) (.type "type") = some true
theorem zij (e:xcOk K C = true):XcOk K C:=by
 unfold xcOk at e
 simp only [Bool.and_eq_true,beq_iff_eq] at e
 obtain ⟨⟨⟨⟨⟨⟨⟨e1,e2⟩,e3⟩,e4⟩,e5⟩,e6⟩,e7⟩,e8⟩:=e
 exact ⟨e1,e2,e3,e4,e5,e6,e7,e8⟩
theorem exc_type {M:Model} (hx:h.get? a = some o) (hc:o.cls = .ref C):Looks M h (typeOf (.ref a)) (.ref C):=hc ▸ (Looks.ld hx).andThen .now
theorem zfk {R:Result->Shared->Prop} {tp:Value} (X:K.In h) (k:XcOk K C) (hx:h.get? a = some o) (hc:o.cls = .ref C) (hq:R (.ok (.ret (.ref C))) ⟨h,g,d,t,os⟩) :
  codeAny (model prog w) A (.call (.builtin "getset_descriptor.__get__") ⟨[.builtin "object.__class__",.ref a,tp],[]⟩) R ⟨h,g,d,t,os⟩:=by
 have L0:=exc_type (M:=model prog w) hx hc
 have L1:Looks (model prog w) h (isSubtype (.ref C) (.type (".".intercalate ("object.__class__".cutAt '.').dropLast))) true:=by rw [F.owner_object_class]; exact looks_mroIn (M:=model prog w) X k.ob
 have hT5:(⟨h,g,d,t,os⟩:Shared).TypeIs (.builtin "object.__class__") "getset_descriptor":=F.typeOf_object_class
 refine codeAny_call_builtin F.slot_gs_get.plain F.entry_gs_get (F.slot_gs_get.check _ _ _ _ _ _ _ _ hT5 (F.args_gs_get _ _ _) ?_)
 repeat (any_goals (first | assumption | (with_reducible refine L0.at ?_) | (with_reducible refine L1.at ?_) | (with_reducible refine wpAny_loadPart_at hx ?_; rw [hc]) | wp_step))
 refine ⟨Code.quiet_builtin _ (by decide +kernel),codeAny_builtin F.entry_object_class ?_⟩
 repeat (any_goals (first | assumption | (with_reducible refine L0.at ?_) | (with_reducible refine wpAny_loadPart_at hx ?_; rw [hc]) | wp_step))
theorem zdI {tk:Tok} {Q:Fin->Shared->Prop} (X:K.In h) (k:XcOk K C) (hx:h.get? a = some o) (hc:o.cls = .ref C) (hq:Q (.done (.ret (.ref C))) ⟨h,g,d,t,os⟩) :
  wpAny (model prog w) A (Builtin.«object.__getattribute__» ⟨[.ref a,.str "__class__" tk],[]⟩) Q E ⟨h,g,d,t,os⟩:=by
 have L0:=exc_type (M:=model prog w) hx hc
 have L1:=looks_findIn (M:=model prog w) X k.cl
 have f5:=F.typeOf_object_class
 have f6:=F.slot_gs_get.lookup
 have f7:=F.slot_gs_set.lookup
 repeat (any_goals (first | assumption | (with_reducible refine L0.at ?_) | (with_reducible refine L1.at ?_) | (with_reducible refine wpAny_loadPart_at hx ?_; rw [hc]) | wp_step))
 refine zfk X k hx hc ?_
 repeat (any_goals (first | assumption | wp_step))
theorem zek {tk:Tok} {R:Result->Shared->Prop} (X:K.In h) (k:XcOk K C) (hx:h.get? a = some o) (hc:o.cls = .ref C) (hq:R (.ok (.ret (.ref C))) ⟨h,g,d,t,os⟩) :
  codeAny (model prog w) A (.call (.builtin "BaseException.__getattribute__") ⟨[.ref a,.str "__class__" tk],[]⟩) R ⟨h,g,d,t,os⟩:=by
 have hk:builtinKind "BaseException.__getattribute__" = some .slot:=by decide +kernel
 have hsplit:splitId "BaseException.__getattribute__" = some ("BaseException","__getattribute__"):=by decide +kernel
 have ha:=F.args_bexc_ga (.ref a) (.str "__class__" tk)
 have L0:=exc_type (M:=model prog w) hx hc
 have L1:=looks_mroIn (M:=model prog w) X k.be
 refine codeAny_call_builtin (by decide +kernel) F.entry_bexc_ga ?_
 simp only [checkBuiltinCall,hk,hsplit]
 refine wpAny_bind ?_
 unfold isInstance
 repeat (any_goals (first | (with_reducible exact zdI X k hx hc hq) | (with_reducible refine L0.at ?_) | (with_reducible refine L1.at ?_) | (with_reducible refine wpAny_loadPart_at hx ?_; rw [hc]) | wp_step))
theorem zgI (self:Value):bindSpecial (.builtin "BaseException.__getattribute__") self = pure (.builtin "BaseException.__getattribute__",[self]):=by
 have hop:withoutEnding? "BaseException.__getattribute__" "#opaque" = none:=by decide +kernel
 have hdat:withoutEnding? "BaseException.__getattribute__" "#data" = none:=by decide +kernel
 have hk:builtinKind "BaseException.__getattribute__" = some .slot:=by decide +kernel
 simp only [bindSpecial,typeOf,builtinType,hop,hdat,hk]; rfl
theorem zgj {tk:Tok} {Q:Value->Shared->Prop} (X:K.In h) (k:XcOk K C) (hx:h.get? a = some o) (hc:o.cls = .ref C) (hq:Q (.ref C) ⟨h,g,d,t,os⟩) :
  wpAny (model prog w) A (getAttrBy (.ref a) (.str "__class__" tk) false) Q E ⟨h,g,d,t,os⟩:=by
 have L0:=exc_type (M:=model prog w) hx hc
 have L1:=looks_findIn (M:=model prog w) X k.ga
 have L2:=looks_findIn (M:=model prog w) X k.gn
 have hx2:(Value.builtin "BaseException.__getattribute__" == Value.builtin "object.__getattribute__") = false:=by decide +kernel
 have hx1:(onTheHeap (Value.ref C) && Value.builtin "BaseException.__getattribute__" == Value.builtin "object.__getattribute__") = false:=by rw [hx2]; rfl
 have f3:=zgI (.ref a)
 have hx0:(false && onTheHeap (Value.builtin "BaseException.__getattribute__")) = false:=rfl
 repeat (any_goals (first | assumption | (with_reducible refine L0.at ?_) | (with_reducible refine L1.at ?_) | (with_reducible refine L2.at ?_) | (with_reducible refine wpAny_loadPart_at hx ?_; rw [hc]) | wp_step))
 refine zek X k hx hc ?_
 repeat (any_goals (first | assumption | wp_step))
theorem zet {Q:Option Value->Shared->Prop} (X:K.In h) (k:XcOk K C) (hx:h.get? a = some o) (hc:o.cls = .ref C) (hq:Q (some (.ref C)) ⟨h,g,d,t + 1,os⟩):wpAny (model prog w) A (getAttr? (.ref a) "__class__") Q E ⟨h,g,d,t,os⟩:=by
 unfold getAttr? getAttrBy?
 repeat (any_goals (first | assumption | with_reducible apply zgj X k hx hc | wp_step))
theorem kitx_exc (k:XcOk K C):KitX K (.ref a) (.ref C) (fun h=>∃ o,h.get? a = some o∧o.cls = .ref C) where
 ty:=fun _ _ _ ⟨_,h1,h2⟩=>exc_type h1 h2
 it:=fun _ _ X _=>by
  have:=k.cd
  unfold clsIn at this
  split at this
  ·rename_i c' d' cd' sl' ho
   intro A' Q' E' s' k q
   unfold isType loadHead
   exact wpAny_bind (wpAny_loadPart (k _ _ (X _ _ ho)) (wpAny_pure q))
  ·cases this
 ne:=fun h tp dd its n sl X htp=>by
  refine Bool.eq_false_iff.mpr fun q=>?_
  have e:C = tp:=Value.ref.inj (beq_iff_eq.mp q)
  subst e
  have:=k.cd
  unfold clsIn at this
  split at this
  ·rename_i ho
   have:=X _ _ ho
   rw [htp] at this
   cases this
  ·cases this
 ca:=fun {prog w A E Q s} X p q=>by
  obtain ⟨h,g,d,t,os⟩:=s
  obtain ⟨o,h1,h2⟩:=p
  exact zet X k h1 h2 q
noncomputable def xTab (K:Frag) (root:Addr) (cs:List Addr):Bool:=decide cs.Nodup && cs.all fun c=>xcOk K c && kitOne K (.ref c) (.type "ValueError") == some true && exmOne K (.ref c) (.ref root) == some true && cs.all fun d=>kitOne K (.ref c) (.ref d) == some (decide (c = d ∨ d = root))
structure XTab (K:Frag) (root:Addr) (cs:List Addr):Prop where
 nd:cs.Nodup
 ok:∀ c ∈ cs,XcOk K c
 ve:∀ c ∈ cs,kitOne K (.ref c) (.type "ValueError") = some true
 mt:∀ c ∈ cs,exmOne K (.ref c) (.ref root) = some true
 is:∀ c ∈ cs,∀ d ∈ cs,kitOne K (.ref c) (.ref d) = some (decide (c = d ∨ d = root))
theorem xTab_of {root:Addr} {cs:List Addr} (e:xTab K root cs = true):XTab K root cs:=by
 unfold xTab at e
 rw [Bool.and_eq_true] at e
 obtain ⟨e1,e2⟩:=e
 rw [List.all_eq_true] at e2
 have key:∀ c ∈ cs,xcOk K c = true∧kitOne K (.ref c) (.type "ValueError") = some true∧exmOne K (.ref c) (.ref root) = some true∧∀ d ∈ cs,kitOne K (.ref c) (.ref d) = some (decide (c = d ∨ d = root)):=fun c hc=>by
  have:=e2 c hc
  rw [Bool.and_eq_true,Bool.and_eq_true,Bool.and_eq_true] at this
  obtain ⟨⟨⟨a1,a2⟩,a3⟩,a4⟩:=this
  rw [List.all_eq_true] at a4
  exact ⟨a1,beq_iff_eq.mp a2,beq_iff_eq.mp a3,fun d hd=>beq_iff_eq.mp (a4 d hd)⟩
 exact ⟨of_decide_eq_true e1,fun c hc=>zij (key c hc).1,fun c hc=>(key c hc).2.1,fun c hc=>(key c hc).2.2.1,fun c hc=>(key c hc).2.2.2⟩
end
end HT
namespace L2
open PySem PySem.Spec PyProof.Rows
noncomputable def excO (C ea:Addr):HO:=.ext fun h=>∃ o,h.get? ea = some o∧o.cls = .ref C
section
variable {X:Cx} {pins:List (Addr × Obj)} {σ:St} {H:Hp} {s:Shared}
theorem Inv.exc {ea C:Addr} {oe:Obj} {vs:Array Value} (I:Inv X pins σ H s) (he:s.heap.get? ea = some oe) (hc:oe.cls = .ref C) (hd:oe.data = .fields vs) (n0:X.s₀.heap.get? ea = none) (hn:H ea = none) (np:∀ p ∈ X.pn ++ pins,p.1 ≠ ea):Inv X pins σ (upd H ea (excO C ea)) s:=by
 have ne:∀ b o,H b = some o->b ≠ ea:=fun b o e z=>by rw [z,hn] at e; cases e
 refine ⟨I.ok,I.os,I.bare,⟨I.base.keep,I.base.slot,fun b o e n hx=>?_,I.base.there,fun b xs e=>?_,fun b o u e=>?_,fun b ps e=>?_⟩,I.loc,I.cell,?_,fun x c e=>?_,fun p hp=>?_,fun b u e=>?_,I.len⟩
 ·rw [zat (fun z=>by rw [z,n0] at e; cases e)]
  exact I.base.free b o e n hx
 ·have:=I.base.tups b xs e
  rw [zat (ne _ _ this)]; exact this
 ·have:=I.base.frzs b o u e
  rw [zat (ne _ _ this)]; exact this
 ·obtain ⟨more,this⟩:=I.base.tbls b ps e
  exact ⟨more,by rw [zat (ne _ _ this)]; exact this⟩
 ·rw [zat (fun z=>?_)]
  ·exact I.free
  ·obtain ⟨m,⟨o,es,ep,e1,e2,_⟩,_⟩:=I.loc
   rw [z,he] at e1
   cases e1
   rw [hd] at e2; cases e2
 ·rw [zat (fun z=>?_)]
  ·exact I.freeC x c e
  ·obtain ⟨v,o,e1,e2⟩:=I.cell x c e
   rw [z,he] at e1
   cases e1
   rw [hd] at e2; cases e2
 ·obtain ⟨p1,p2,p3⟩:=I.pin p hp
  exact ⟨p1,by rw [zat (np p hp)]; exact p2,p3⟩
 ·by_cases hb:b = ea
  ·subst hb
   rw [zad] at e
   cases e
   exact ⟨⟨oe,he,hc⟩,⟨oe,he⟩,fun h1 h2 ⟨o,z1,z2⟩ k=>⟨o,k o z1,z2⟩⟩
  ·rw [zat hb] at e
   exact (I.hok b u e).stay (fun c v _ q=>q) (fun c q=>by rw [zat (ne _ _ q)]; exact q) fun c xs q=>by rw [zat (ne _ _ q)]; exact q
theorem zdG {M:Model} {A:Around} {E:Value->Shared->Prop} {i:Nat} {x:Str} {pos:Pos} {Q:Unit->Shared->Prop} (I:Inv X pins σ H s) (hN:X.N.Nodup) (hi:X.N[i]? = some x) (hk:X.env.scope.names.lookup x = some .local)
  (h:∀ s',Inv X pins (σ.set i none) H s'->Q () s'):wpAny M A (do bindName X.env x .none; unbindBehindTheSuite X.env x pos) Q E s:=by
 obtain ⟨m,hn,hl⟩:=id I.loc
 have hcls:(X.env.scope.kind == .class || (X.env.scope.kind == .module && X.env.locals != X.env.globals)) = false:=by rw [I.ok.kind]; rfl
 have hiσ:i < σ.length:=by rw [I.len]; exact (List.getElem?_eq_some_iff.mp hi).1
 have cne:=I.cne
 have tracked:∀ {a:Addr} {h':Heap},(∃ o,s.heap.get? a = some o∧H a = none)->Heap.SameBut a s.heap h'->HOk X.prog X.w H h':=fun {a h'} ha hs b ob e=>by
  obtain ⟨_,_,hfree⟩:=ha
  refine (I.hok b ob e).stay (fun c w' hc q=>(hs.2 c ?_).trans q) (fun _ q=>q) fun _ _ q=>q
  rintro rfl
  rcases hc with rfl | hc
  ·rw [hfree] at e; cases e
  ·rw [hfree] at hc; cases hc
 refine wpAny_nameGoes_keeps hk hn hcls fun h' v hn' hs=>?_
 obtain ⟨oL,_,_,hoL,_⟩:=id hn
 refine h _ ⟨I.ok,I.os,I.bare,⟨fun b o e n hb hx=>?_,fun b o e n hb hx=>?_,I.base.free,fun b o e hx=>?_,I.base.tups,I.base.frzs,I.base.tbls⟩,⟨_,hn',fun j y v' e1 e2 e3=>?_⟩,fun y c e=>?_,I.free,I.freeC,fun p hp=>?_,tracked ⟨oL,hoL,I.free⟩ hs,by simpa using I.len⟩
 ·exact (hs.2 b (Nat.ne_of_lt (Nat.lt_of_lt_of_le (Heap.lt_size e) I.ok.above))).trans (I.base.keep b o e n hb hx)
 ·obtain ⟨sl,e1⟩:=I.base.slot b o e n hb hx
  exact ⟨sl,(hs.2 b (Nat.ne_of_lt (Nat.lt_of_lt_of_le (Heap.lt_size e) I.ok.above))).trans e1⟩
 ·obtain ⟨o',e1⟩:=I.base.there b o e hx
  exact ⟨o',(hs.2 b (Nat.ne_of_lt (Nat.lt_of_lt_of_le (Heap.lt_size e) I.ok.above))).trans e1⟩
 ·by_cases hj:j = i
  ·subst hj
   rw [List.getElem?_set_self hiσ] at e2
   cases e2
  ·rw [List.getElem?_set_ne (Ne.symm hj)] at e2
   obtain ⟨u',r',q⟩:=hl j y v' e1 e2 e3
   refine ⟨u',r',?_⟩
   rcases q with ⟨k,e⟩ | ⟨k,c,e,z⟩
   ·refine .inl ⟨k,?_⟩
    have:y ≠ x:=fun e=>hj (zdH hN e1 (e ▸ hi))
    simp [this,e]
   ·exact .inr ⟨k,c,e,z.sameBut hs (cne y c e)⟩
 ·obtain ⟨w',z⟩:=I.cell y c e
  exact ⟨w',z.sameBut hs (cne y c e)⟩
 ·obtain ⟨e,n,ne,nf,d⟩:=I.pin p hp
  exact ⟨(hs.2 p.1 ne).trans e,n,ne,nf,d⟩
end
section
variable {X:Cx}
noncomputable def EXs (cs:List Addr) (R:Addr->St->Hp->Prop):St->XK:=fun σ cls _ H'=>∃ C ∈ cs,cls = .ref C∧R C σ H'
noncomputable def zhk (i:Nat) (D:Ends):Ends:={ nx:=fun σ H=>D.nx (σ.set i none) H,rt:=D.rt,bk:=fun σ H=>D.bk (σ.set i none) H,ct:=fun σ H=>D.ct (σ.set i none) H }
theorem zgT {body:List Stmt} {x n:Str} {np pos pos':Pos} {b0:Stmt} {suite:List Stmt} {Dr:Addr} {cs:List Addr} {i:Nat} {tb:(Addr->St->Hp->Prop)->TS} {th:TS} (xt:HT.XTab X.K Dr cs) (hg:Gl X x) (hm:X.mg x = some (.ref Dr)) (hstk:X.stack = X.env :: X.outer) (hfr:X.env.frame = some X.env.locals)
  (hN:X.N.Nodup) (hi:X.N[i]? = some n) (hk:X.env.scope.names.lookup n = some .local)
  (hb:∀ (pn:List (Addr × Obj)) (W:Value->Shared->Prop) (R:Addr->St->Hp->Prop),zd7 X.prog X.w (X.tr pn W) (EXs cs R)->PSs (X.tr pn W) body (tb R)) (hs:∀ e,PSs (X.hdl e) (b0 :: suite) th) (hdb:(x == ("__debug__":Str)) = false:=by decide) (hex:X.ex = []:=by rfl) :
  PS X (.Try body [.ExceptHandler (some (.Name x np)) (some n) (b0 :: suite) pos] [] [] pos') (fun D σ H=>tb (fun C σ' H'=>∀ ea,H' ea = none->th (zhk i D) (σ'.set i (some (.ref ea))) (upd H' ea (excO C ea))) D σ H):=by
 intro pins s σ H D I h
 refine wpAny_Try_except ?_
 have key:=hb (X.pn ++ pins) (fun e s1=>wpAny (model X.prog X.w) X.A (noteFrame e X.env) (fun _ s2=>wpAny (model X.prog X.w) X.A (setFlight e none) (fun _ s3 =>
  wpAny (model X.prog X.w) X.A (handleBy e X.env [.ExceptHandler (some (.Name x np)) (some n) (b0 :: suite) pos]) (SP X pins D) X.xe s3) X.xe s2) X.xe s1) (fun C σ' H'=>∀ ea,H' ea = none->th (zhk i D) (σ'.set i (some (.ref ea))) (upd H' ea (excO C ea))) ?_
 ·refine wpAny_mono (key [] s σ H D (I.tr _) h) (fun f s1 z=>?_) fun _ _ z=>z
  cases f with
  | next =>
   obtain ⟨σ1,H1,I1,q1⟩:=z
   exact wpAny_execs_nil ⟨σ1,H1,I1.untr,q1⟩
  | ret u =>
   obtain ⟨v,σ1,H1,I1,r1,q1⟩:=z
   exact ⟨v,σ1,H1,I1.untr,r1,q1⟩
  | brk =>
   obtain ⟨σ1,H1,I1,q1⟩:=z
   exact ⟨σ1,H1,I1.untr,q1⟩
  | cont =>
   obtain ⟨σ1,H1,I1,q1⟩:=z
   exact ⟨σ1,H1,I1.untr,q1⟩
 ·intro pins' σ1 H1 s1 e s2 J hq
  obtain ⟨ea,t,C',B,H',rfl,os,bare,un,hok,fl,hB,C,hC,hC',hR⟩:=hq
  obtain rfl:C' = C:=Value.ref.inj hC'
  have J:Inv X pins σ1 H1 s1:=J.untr
  have un:Un (frs X.stack) [] H1 H' s1.heap s2.heap:=un
  have hok:HOk X.prog X.w H' s2.heap:=hok
  have fl:Heap.FlyingW B (X.env :: X.outer) ea (.ref C') (.ref t) s2.heap:=by rw [← hstk]; exact fl
  have frm:X.A.frames = some (X.env :: X.outer):=by rw [← hstk]; exact J.ok.frames
  refine wpAny_looks_onW frm hfr fl fun h4 held4 sm4=>?_
  refine wpAny_landsW held4 fun h5 fl5 sm5=>?_
  have up5:=sm4.trans sm5
  obtain ⟨J5,hok5,un5⟩:=J.flown (s':=s2) un hok os bare hB fl5.1 up5
  refine wpAny_handleBy_cons (codeAny_handlers_test ?_) (by intro z; cases z)
  have G5:Inv (X.hdl (.ref ea)) pins σ1 H' { s2 with heap:=h5 }:=J5.hdl _
  refine zbG (X:=X.hdl (.ref ea)) G5 hg hm ?_ hdb
  obtain ⟨ob,hob,hobc⟩:=fl5.there
  have LM:=PySem.W.exm_one (M:=model X.prog X.w) J5.kIn (HT.exc_type hob hobc) (xt.mt C' hC)
  refine LM.at ?_
  refine codeAny_handlers_suite_as ?_
  refine lands_againW fl5 fun h6 fl6 sm6=>?_
  obtain ⟨J6,hok6,un6⟩:=J.flown (s':=s2) un hok os bare hB fl6.1 (up5.trans sm6)
  have nB:=fl6.2.1
  obtain ⟨oe,vs,_,_,_,he,hce,hd,_⟩:=fl6.2.2.2
  have nfr:ea ∉ frs X.stack:=fun z=>by
   obtain ⟨o1,e1,d1⟩:=J6.frameData z
   rw [he] at e1
   cases e1
   exact d1 _ hd
  have new:∀ o',s1.heap.get? ea = some o'->False:=fun o' z=>by
   obtain ⟨o2,e2⟩:=un.there ea o' z (by simp)
   have:=hB ea o2 e2 nfr (.inr ⟨o',z⟩)
   rw [nB] at this; cases this
  have nH:H' ea = none:=by
   cases z:H' ea with
   | none=>rfl
   | some u =>
    obtain ⟨o2,e2⟩:=HOk.obj hok z
    have:=hB ea o2 e2 nfr (.inl ⟨u,z⟩)
    rw [nB] at this; cases this
  have n0:X.s₀.heap.get? ea = none:=by
   cases z:X.s₀.heap.get? ea with
   | none=>rfl
   | some o' =>
    obtain ⟨o2,e2⟩:=J.base.there ea o' z (by rw [hex]; simp)
    exact (new _ e2).elim
  have np:∀ p ∈ X.pn ++ pins,p.1 ≠ ea:=fun p hp z=>by
   obtain ⟨e1,_⟩:=J.pin p hp
   rw [z] at e1
   exact (new _ e1).elim
  have K6:=(J6.exc he hce.1 hd n0 nH np).hdl (.ref ea)
  refine zcG (X:=X.hdl (.ref ea)) K6 hN hi (.inl hk) (v:=.ref ea) rfl (fun s7 I7=>?_) (.inr hk)
  refine wpAny_mono (hs (.ref ea) pins s7 _ _ (zhk i D) I7 (hR ea nH)) (fun f s8 z=>?_) fun _ _ z=>False.elim z
  cases f with
  | next =>
   obtain ⟨σ8,H8,I8,q8⟩:=z
   exact zdG (I8.unhdl I.ok.hd) hN hi hk fun s9 I9=>⟨_,H8,I9,q8⟩
  | ret u =>
   obtain ⟨v,σ8,H8,I8,r8,q8⟩:=z
   exact zdG (I8.unhdl I.ok.hd) hN hi hk fun s9 I9=>⟨v,_,H8,I9,r8,q8⟩
  | brk =>
   obtain ⟨σ8,H8,I8,q8⟩:=z
   exact zdG (I8.unhdl I.ok.hd) hN hi hk fun s9 I9=>⟨_,H8,I9,q8⟩
  | cont =>
   obtain ⟨σ8,H8,I8,q8⟩:=z
   exact zdG (I8.unhdl I.ok.hd) hN hi hk fun s9 I9=>⟨_,H8,I9,q8⟩
noncomputable def zgc (sp:Sp) (dvs:List V) (E:St->XK) (t:TA):TE:=fun σ H Q=>t σ H fun vs H1=>sp (vs ++ dvs) H1 Q (E σ)
theorem zgN {k:Nat} {f:Addr} {fd:FuncData} {ps:List Str} {sp:Sp} {dvs:List V} {ds:List Value} {E:St->XK} {x:Str} {p pos:Pos} {e:Expr} {es:List Expr} {t:TA} (F:FnOk X.prog X.w X.K X.mg X.base (CX1 X.prog X.w) k f fd ps sp) (hr:Room k X.A) (hg:Gl X x) (hm:X.mg x = some (.ref f)) (hk:PySem.W.keepIn X.K (.ref f) = true) (hb:zaK X.K fd ps ds) (hd:Vals dvs ds) (hx:zd7 X.prog X.w X E)
  (ha:PA X (e :: es) t) (hdb:(x == ("__debug__":Str)) = false:=by decide) (he:starEach (e :: es) X.env = (false,eval e X.env) :: starEach es X.env:=by rfl) (hpl:(backTo pos (starEach es X.env)).any (·.1) = false:=by rfl) :
  PE X (.Call (.Name x p) (e :: es) [] pos) (zgc sp dvs E t):=by
 intro pins s σ H Q I h
 refine wpAny_Call_Name_kw (zbG I hg hm ?_ hdb)
 refine PySem.W.callWith_K (h₀:=X.base) I.ok.mod.kin hk (thn (ha pos pins s σ H _ I h) fun us s1 ⟨vs,H1,I1,r,q⟩=>⟨I1.kIn,?_⟩) he hpl
 exact zhY F hr hb hd hx I1 r q
theorem vals_refsX:∀ {ds:List Addr} {its:List Value},Vals (ds.map V.ref) its->its = ds.map Value.ref
 | [],its,r=>by cases r; rfl
 | d :: ds,its,r=>by
  cases r with
  | cons r1 r2=>rw [vals_refsX r2,show _ = Value.ref d from r1]; rfl
theorem zbD {Dr:Addr} {cs:List Addr} (xt:HT.XTab X.K Dr cs):zb9 X (.builtin "isinstance") (fun xs H Q=>∃ ea C,H ea = some (excO C ea)∧C ∈ cs ∧
  ((∃ D,xs = [.ref ea,.ref D]∧D ∈ cs∧Q (.bl (decide (C = D ∨ D = Dr))) H) ∨ (xs = [.ref ea,.ty "ValueError"]∧Q (.bl true) H) ∨ ∃ (p:Addr) (ds:List Addr),xs = [.ref ea,.ref p]∧H p = some (.tup (ds.map V.ref))∧(∀ d ∈ ds,d ∈ cs)∧Q (.bl (ds.any fun d=>decide (C = d ∨ d = Dr))) H)):=by
 intro pins s σ H xs us Q I r h
 obtain ⟨ea,C,hea,hC,h⟩:=h
 obtain ⟨hφ,_,_⟩:=(show za5 X.prog X.w H s.heap ea (excO C ea) from I.hok ea _ hea)
 have Z:=HT.kitx_exc (a:=ea) (xt.ok C hC)
 rcases h with ⟨D,rfl,hD,q⟩ | ⟨rfl,q⟩ | ⟨p,ds,rfl,hp,hds,q⟩
 ·obtain ⟨u,v,rfl,ru,rv⟩:=Vals.two r
  cases (show u = Value.ref ea from ru)
  cases (show v = Value.ref D from rv)
  exact PySem.W.kia_one Z I.kIn hφ (xt.is C hC D hD) (fun z=>nomatch z) fun tk=>⟨.bl _,H,I.tok _,rfl,q⟩
 ·obtain ⟨u,v,rfl,ru,rv⟩:=Vals.two r
  cases (show u = Value.ref ea from ru)
  cases (show v = Value.type "ValueError" from rv)
  exact PySem.W.kia_one Z I.kIn hφ (xt.ve C hC) (fun z=>nomatch z) fun tk=>⟨.bl _,H,I.tok _,rfl,q⟩
 ·obtain ⟨u,v,rfl,ru,rv⟩:=Vals.two r
  cases (show u = Value.ref ea from ru)
  cases (show v = Value.ref p from rv)
  obtain ⟨lz,its,rvs,tA⟩:=(show za5 X.prog X.w H s.heap p (.tup _) from I.hok p _ hp)
  have ei:=vals_refsX rvs
  subst ei
  have ka:PySem.W.kitAny X.K (.ref C) (ds.map Value.ref) = some (ds.any fun d=>decide (C = d ∨ d = Dr)):=by
   clear q hp rvs tA lz
   induction ds with
   | nil=>rfl
   | cons d ds ih =>
    rw [List.map_cons,List.any_cons]
    unfold PySem.W.kitAny
    rw [xt.is C hC d (hds d List.mem_cons_self)]
    cases e:decide (C = d ∨ d = Dr) with
    | true=>rfl
    | false =>
     rw [Bool.false_or]
     exact ih fun y hy=>hds y (List.mem_cons_of_mem _ hy)
  obtain ⟨⟨oc,od,da,sl⟩,g1,g2,n,g3⟩:=tA
  cases (show oc = _ from g2)
  cases (show da = _ from g3)
  exact PySem.W.kia_tup Z I.kIn hφ g1 ka (fun z=>nomatch z) fun tk=>⟨.bl _,H,I.tok _,rfl,q⟩
end
end L2
set_option Elab.async false
set_option linter.all false
set_option maxRecDepth 100000
namespace L2
open PySem PySem.Spec PyProof.Rows
section
variable {X:Cx} {tg:Expr}
end
end L2
set_option Elab.async false
set_option linter.all false
set_option maxRecDepth 100000
namespace L2
open PySem PySem.Spec PyProof.Rows
section
variable {prog:Program} {w:World} {A:Around} {E:Value->Shared->Prop} {s:Shared}
end
end L2
set_option Elab.async false
set_option linter.all false
set_option maxRecDepth 100000
namespace L2
open PySem PySem.Spec PyProof.Rows
section
variable {X:Cx} {pins:List (Addr × Obj)} {σ:St} {H:Hp} {s:Shared}
end
section
variable {X:Cx} {tg:Expr}
end
end L2
set_option Elab.async false
set_option linter.all false
set_option maxRecDepth 100000
namespace L2
open PySem PySem.Spec PyProof.Rows
theorem hex_small:∀ c:Nat,c < 128->(Nat.toDigits 16 c).length ≤ 2:=by decide +kernel
theorem zev (q c:Nat) (h:c < 128):(Builtin.Str.reprChar q c).length ≤ 4:=by
 have hx:=hex_small c h
 unfold Builtin.Str.reprChar
 simp only
 split
 ·simp
 ·split
  ·simp
  ·split
   ·simp
   ·split
    ·simp
    ·split
     ·simp
     ·rw [if_pos (by omega)]
      simp
      omega
theorem zf1 {q:Nat}:∀ (cs:List Nat) (out:Array Nat),(∀ c ∈ cs,c < 128)->(cs.foldl (fun out c=>out ++ (Builtin.Str.reprChar q c).toArray) out).size ≤ out.size + 4 * cs.length
 | [],out,_=>by simp
 | c :: r,out,h=>by
  have ih:=zf1 (q:=q) r (out ++ (Builtin.Str.reprChar q c).toArray) fun x hx=>h x (List.mem_cons_of_mem _ hx)
  have:=zev q c (h c List.mem_cons_self)
  rw [List.foldl_cons,List.length_cons]
  have e1:(out ++ (Builtin.Str.reprChar q c).toArray).size = out.size + (Builtin.Str.reprChar q c).length:=by simp
  rw [e1] at ih
  omega
theorem zcI {x:Str} (h:x.cps.all (· < 128) = true):(reprText x).length ≤ 4 * x.length + 2:=by
 have:=zf1 (q:=reprQuote x) x.cps.toList #[reprQuote x] fun c hc=>by
  have:=Array.all_eq_true'.mp h c (Array.mem_toList_iff.mp hc)
  simpa using this
 unfold reprText
 show (Array.push (Array.foldl _ _ x.cps) _).size ≤ _
 rw [Array.size_push,← Array.foldl_toList]
 show _ ≤ 4 * x.cps.size + 2
 rw [Array.length_toList] at this
 have e:(#[reprQuote x]:Array Nat).size = 1:=rfl
 omega
theorem zez (a:Array Nat):∀ (k:Nat) (out:Array Nat),((List.replicate k a).foldl (fun x1 x2=>x1 ++ x2) out).size = out.size + k * a.size
 | 0,out=>by simp
 | k + 1,out=>by
  rw [List.replicate_succ,List.foldl_cons,zez a k,Array.size_append,Nat.succ_mul]
  omega
theorem zfM (a:Array Nat) (k:Nat):((List.replicate k a).foldl (fun x1 x2=>x1 ++ x2) #[]).size = k * a.size:=by
 rw [zez]; simp
section
variable {X:Cx}
theorem mt_starts:MtR X "str.startswith" (fun x xs H Q=>∃ z y,x = .str z∧xs = [.str y]∧Q (.bl (Txt.startswith z y)) H):=by
 intro pins s σ H x xs v us Q I rx rs h
 obtain ⟨z,y,rfl,rfl,q⟩:=h
 obtain ⟨t,rfl⟩:=rx
 obtain ⟨u,rfl,t',rfl⟩:=rs.one
 exact SC.startswith ⟨.bl _,H,I,rfl,q⟩
theorem call_strI:zb9 X (.type "str") (fun xs H Q=>∃ i,xs = [.int i]∧i.natAbs.log2 < 1920∧Q (.str (Str.ofString (toString i))) H):=by
 intro pins s σ H xs us Q I r h
 obtain ⟨i,rfl,hl,q⟩:=h
 obtain ⟨u,rfl,t,rfl⟩:=zdE r
 exact P.str_of_int hl ⟨.str _,H,I.tok _,⟨_,rfl⟩,q⟩
theorem call_intT:zb9 X (.type "int") (fun xs H Q=>∃ z n,xs = [.str z]∧intText? z = some n∧z.length ≤ 640∧Q (.int n) H):=by
 intro pins s σ H xs us Q I r h
 obtain ⟨z,n,rfl,hn,hl,q⟩:=h
 obtain ⟨u,rfl,t,rfl⟩:=zdE r
 exact W.KIN.call_text hn hl ⟨.int n,H,I.tok _,⟨_,rfl⟩,q⟩
noncomputable def rMulS:V->V->Hp->VK->Prop:=fun x y H Q=>∃ z n,x = .str z∧y = .int n∧n < 2 ^ 62∧-(2 ^ 62) ≤ n∧z.length * n.toNat ≤ sizeLine∧Q (.str (Txt.mul z n)) H
theorem op_mulS:OpR X (binaryOp .Mult) rMulS:=by
 intro pins s σ H x y v u Q I rx ry h
 obtain ⟨z,n,rfl,rfl,h1,h2,hz,q⟩:=h
 obtain ⟨t,rfl⟩:=rx
 obtain ⟨t',rfl⟩:=ry
 have sz:(sizeLine:Nat) = 16777216:=sizeLine_eq
 refine P.mul_str (by simp; omega) (fun a b=>?_) (fun a b=>?_) ?_
 ·have n1:1 ≤ n:=by omega
  have e:((z.length * n.toNat:Nat):Int) = (z.length:Int) * n:=by
   rw [Int.natCast_mul,Int.toNat_of_nonneg (by omega)]
  have:(z.length:Int) * n ≤ 2 ^ 63 - 1:=by rw [← e]; omega
  have:=(Int.le_ediv_iff_mul_le (by omega:0 < n)).mpr this
  omega
 ·unfold Builtin.Str.tooLong
  simp
  omega
 ·unfold Txt.mul at q
  split
  ·rename_i c
   rw [if_pos c] at q
   exact ⟨by decide,⟨.str _,H,I.tok _,⟨_,rfl⟩,q⟩⟩
  ·rename_i c
   rw [if_neg c] at q
   split
   ·rename_i d
    rw [if_pos d] at q
    exact ⟨.str _,H,I,⟨_,rfl⟩,q⟩
   ·rename_i d
    rw [if_neg d] at q
    exact ⟨by rw [show Str.length _ = _ from zfM z.cps n.toNat,Nat.mul_comm]; exact hz,⟨.str _,H,I.tok _,⟨_,rfl⟩,q⟩⟩
end
end L2
set_option Elab.async false
set_option linter.all false
set_option maxRecDepth 100000
namespace L2
open PySem PySem.Spec PyProof.Rows
section
variable {X:Cx}
end
section
variable {prog:Program} {w:World} {A:Around} {E:Value->Shared->Prop} {s:Shared}
end
section
variable {X:Cx}
end
end L2
set_option Elab.async false
set_option linter.all false
set_option maxRecDepth 100000
namespace L2
namespace STb
open PySem
noncomputable def f5 (N i:Nat):Nat:=(i * 5 + 1) % N
noncomputable def pos (t:SetTable):Nat->SetTable.Probe->SetTable.Probe
 | 0,p=>p
 | a + 1,p=>pos t a (t.advance p)
structure POk (t:SetTable) (p:SetTable.Probe):Prop where
 i:p.i ≤ t.mask
 j:p.j + p.more ≤ t.mask
 d:p.dummy = none
 m:p.more ≤ 9
section
variable {prog:Program} {w:World} {A:Around} {E:Value->Shared->Prop} {s:Shared}
end
section
variable {prog:Program} {w:World} {A:Around} {R:Result->Shared->Prop} {I:Addr} {fp wr:List Addr} {G:Array GenState->Array GenState->Prop} {n:Nat} {P:Nat->Value->Prop} {St:Nat->Shared->Prop}
end
section
variable {prog:Program} {w:World} {A:Around} {E:Value->Shared->Prop} {s:Shared}
end
end STb
open PySem PySem.Spec PyProof.Rows STb
section
variable {X:Cx}
end
end L2
set_option Elab.async false
set_option linter.all false
set_option maxRecDepth 100000
namespace L2
open PySem PySem.Spec PyProof.Rows
end L2
set_option Elab.async false
set_option linter.all false
set_option maxRecDepth 100000
namespace L2
open PySem PySem.Spec PyProof.Rows
theorem vals_strsFrom:∀ (tk:Nat) (zs:List Str),Vals (zs.map V.str) (strsFrom tk zs)
 | _,[]=>.nil
 | tk,z :: zs=>.cons ⟨tk,rfl⟩ (vals_strsFrom (tk + 1) zs)
section
variable {X:Cx}
noncomputable def rSplit:V->List V->Hp->VK->Prop:=fun x xs H Q=>∃ z y,x = .str z∧xs = [.str y]∧(y.length == 0) = false∧z.length + 2 ≤ sizeLine∧(Txt.split z y).length ≤ sizeLine∧∀ l:Addr,H l = none->Q (.ref l) (upd H l (.lst ((Txt.split z y).map V.str)))
theorem mt_split:MtR X "str.split" rSplit:=by
 intro pins s σ H x xs v us Q I rx rs h
 obtain ⟨z,y,rfl,rfl,hy,hz,hn,q⟩:=h
 obtain ⟨t,rfl⟩:=rx
 obtain ⟨u,rfl,t',rfl⟩:=rs.one
 have fin:∀ (tk:Nat) (its:List Value),Vals ((Txt.split z y).map V.str) its->wants (EP X pins σ Q) X.xe (.ok (.ret (.ref s.heap.objs.size))) { s with toks:=tk,heap:=s.heap.push { cls:=.type "list",data:=.seq its.toArray } }:=by
  intro tk its r
  have zl:((Txt.split z y).map V.str).length ≤ sizeLine:=by rw [List.length_map]; exact hn
  exact ⟨.ref s.heap.objs.size,_,I.laid (t':=tk) (o:=.lst ((Txt.split z y).map V.str)) (h':=s.heap.push { cls:=.type "list",data:=.seq its.toArray }) (fun _ _ e=>Heap.get?_push_of_some _ e) (Nat.le_refl _) ⟨zl,its,0,r,Heap.get?_push_size _ rfl⟩,rfl,q _ (I.hok.fresh (Nat.le_refl _))⟩
 by_cases h1:(decide (z.length < y.length) || decide (Builtin.Str.strKind z < Builtin.Str.strKind y)) = true
 ·have e:Txt.split z y = [z]:=by unfold Txt.split; rw [if_pos h1]
  refine call_meets PySem.F.slot_str_split (typeIs_str _ _ _) PySem.F.entry_str_split (PySem.F.args_str_split_2 _ _) (meets_str_split_cannot_occur z y t t' h1) ?_
  refine fin s.toks [.str z t] ?_
  rw [e]; exact .cons ⟨t,rfl⟩ .nil
 ·rw [Bool.not_eq_true] at h1
  by_cases h2:(Builtin.Str.occurrences z y 0 z.length (z.length + 1)).isEmpty = true
  ·have e:Txt.split z y = [z]:=by unfold Txt.split; rw [if_neg (by rw [h1]; simp),if_pos h2]
   refine call_meets PySem.F.slot_str_split (typeIs_str _ _ _) PySem.F.entry_str_split (PySem.F.args_str_split_2 _ _) (meets_str_split_not_found z y t t' h1 hy h2) ?_
   refine fin s.toks [.str z t] ?_
   rw [e]; exact .cons ⟨t,rfl⟩ .nil
  ·have e:Txt.split z y = Builtin.Str.partsBetween z (Builtin.Str.occurrences z y 0 z.length (z.length + 1)) y.length:=by unfold Txt.split; rw [if_neg (by rw [h1]; simp),if_neg h2]
   rw [Bool.not_eq_true] at h2
   refine call_meets PySem.F.slot_str_split (typeIs_str _ _ _) PySem.F.entry_str_split (PySem.F.args_str_split_2 _ _) (meets_str_split_sep z y t t' h1 hy h2 (by omega) (by rw [← e]; exact hn)) ?_
   refine fin _ _ ?_
   rw [← e]; exact vals_strsFrom _ _
end
theorem join_list (c:Nat):∀ (x:Str) (zs:List Str),(Str.join ⟨#[c]⟩ (x :: zs)).cps.toList = x.cps.toList ++ zs.flatMap fun z=>c :: z.cps.toList
 | x,[]=>by simp [Str.join]
 | x,y :: zs=>by
  show (x ++ ⟨#[c]⟩ ++ Str.join ⟨#[c]⟩ (y :: zs)).cps.toList = _
  have e:(x ++ ⟨#[c]⟩ ++ Str.join ⟨#[c]⟩ (y :: zs)).cps.toList = x.cps.toList ++ [c] ++ (Str.join ⟨#[c]⟩ (y :: zs)).cps.toList:=by
   show ((x.cps ++ #[c]) ++ (Str.join ⟨#[c]⟩ (y :: zs)).cps).toList = _
   simp
  rw [e,join_list c y zs]
  simp
theorem zcX {c:Nat}:∀ {a b r s:List Nat},c ∉ a->c ∉ b->a ++ r = b ++ s->(r = [] ∨ r.head? = some c)->(s = [] ∨ s.head? = some c)->a = b∧r = s
 | [],[],r,s,_,_,e,_,_=>⟨rfl,e⟩
 | [],y :: b,r,s,_,nb,e,hr,_=>by
  rw [List.nil_append] at e
  subst e
  rcases hr with h | h
  ·cases h
  ·simp at h; exact absurd (by simp [h]) nb
 | x :: a,[],r,s,na,_,e,_,hs=>by
  rw [List.nil_append] at e
  subst e
  rcases hs with h | h
  ·cases h
  ·simp at h; exact absurd (by simp [h]) na
 | x :: a,y :: b,r,s,na,nb,e,hr,hs=>by
  rw [List.cons_append,List.cons_append] at e
  injection e with e1 e2
  obtain ⟨h1,h2⟩:=zcX (fun h=>na (List.mem_cons_of_mem _ h)) (fun h=>nb (List.mem_cons_of_mem _ h)) e2 hr hs
  exact ⟨by rw [e1,h1],h2⟩
theorem str_eq_of {x y:Str} (h:x.cps.toList = y.cps.toList):x = y:=by
 obtain ⟨x⟩:=x
 obtain ⟨y⟩:=y
 congr 1
 exact Array.toList_inj.mp h
theorem zeH {c:Nat}:∀ {as bs:List Str},(∀ a ∈ as,c ∉ a.cps.toList)->(∀ b ∈ bs,c ∉ b.cps.toList)->(as.flatMap fun z=>c :: z.cps.toList) = (bs.flatMap fun z=>c :: z.cps.toList)->as = bs
 | [],[],_,_,_=>rfl
 | [],b :: bs,_,_,e=>by simp at e
 | a :: as,[],_,_,e=>by simp at e
 | a :: as,b :: bs,ha,hb,e=>by
  simp only [List.flatMap_cons,List.cons_append] at e
  injection e with _ e
  have hd:∀ l:List Str,((l.flatMap fun z=>c :: z.cps.toList) = [] ∨ (l.flatMap fun z=>c :: z.cps.toList).head? = some c):=fun l=>by cases l <;> simp
  obtain ⟨h1,h2⟩:=zcX (ha a (by simp)) (hb b (by simp)) e (hd _) (hd _)
  rw [str_eq_of h1,zeH (fun x hx=>ha x (by simp [hx])) (fun x hx=>hb x (by simp [hx])) h2]
theorem split_join {c:Nat} {zs:List Str} (h0:zs ≠ []) (h:∀ z ∈ zs,c ∉ z.cps.toList):Txt.split (Str.join ⟨#[c]⟩ zs) ⟨#[c]⟩ = zs:=by
 have e:=StrLaws.join_split (Str.join ⟨#[c]⟩ zs) ⟨#[c]⟩
 have f:=StrLaws.split_free (Str.join ⟨#[c]⟩ zs) c
 generalize hs:Txt.split (Str.join ⟨#[c]⟩ zs) ⟨#[c]⟩ = ss at e f
 obtain ⟨z,zs,rfl⟩:∃ z r,zs = z :: r:=by cases zs with | nil=>exact absurd rfl h0 | cons z r=>exact ⟨z,r,rfl⟩
 have hd:∀ l:List Str,((l.flatMap fun z=>c :: z.cps.toList) = [] ∨ (l.flatMap fun z=>c :: z.cps.toList).head? = some c):=fun l=>by cases l <;> simp
 cases ss with
 | nil =>
  unfold Txt.split at hs
  split at hs
  ·cases hs
  ·split at hs
   ·cases hs
   ·rw [StrLaws.partsBetween_eq] at hs
    cases ho:Builtin.Str.occurrences (Str.join ⟨#[c]⟩ (z :: zs)) ⟨#[c]⟩ 0 (Str.join ⟨#[c]⟩ (z :: zs)).length ((Str.join ⟨#[c]⟩ (z :: zs)).length + 1) <;> rw [ho] at hs <;> cases hs
 | cons s ss =>
  have e2:(Str.join ⟨#[c]⟩ (s :: ss)).cps.toList = (Str.join ⟨#[c]⟩ (z :: zs)).cps.toList:=by rw [e]
  rw [join_list,join_list] at e2
  obtain ⟨h1,h2⟩:=zcX (f s (by simp)) (h z (by simp)) e2 (hd _) (hd _)
  rw [str_eq_of h1,zeH (fun x hx=>f x (by simp [hx])) (fun x hx=>h x (by simp [hx])) h2]
end L2
set_option Elab.async false
set_option linter.all false
set_option maxRecDepth 100000
namespace L2
open PySem PySem.Spec PyProof.Rows
section
variable {X:Cx}
noncomputable def zbW (te:TE):TE:=fun σ H Q=>te σ H fun x H1=>∃ z,x = .str z∧z.cps.all (· < 128) = true∧z.length ≤ 2000000∧∀ y,Q (.str y) H1
theorem zb0 {a:Str} {j:Nat} {p1 p2 pos:Pos} {e:Expr} {te:TE} (ha:a.length ≤ 1000) (he:PE X e te):PE X (.JoinedStr [.Constant (.str a) j p1,.FormattedValue e 114 none p2] pos) (zbW te):=by
 intro pins s σ H Q I h
 refine JoinedStr_many (joinParts_cons (Calls.Constant_str ⟨?_,joinParts_cons (wpAny_FormattedValue_repr ?_)⟩))
 ·rw [strLen_append,sizeLine_eq]
  show Str.empty.length + a.length ≤ _
  have:Str.empty.length = 0:=rfl
  omega
 ·refine thn (he pins _ σ H _ (I.tok _) h) fun v s1 ⟨x,H1,I1,r1,z,e1,ha',hl,q⟩=>?_
  subst e1
  obtain ⟨t,rfl⟩:=r1
  have hrl:=zcI ha'
  have h0:Str.empty.length = 0:=rfl
  refine wpAny_pyReprObj_str ?_ (by rw [sizeLine_eq]; omega)
  refine formatField_str (fun t' tk=>?_) (by rw [sizeLine_eq]; omega)
  refine ⟨?_,joinParts_nil ⟨.str _,H1,(I1.tok _).tok _,⟨_,rfl⟩,q _⟩ ?_⟩
  ·rw [strLen_append,strLen_append,sizeLine_eq]
   omega
  ·rw [strLen_append,strLen_append,sizeLine_eq]
   omega
noncomputable def zdu (ti te:TE):TE:=fun σ H Q=>ti σ H fun x H1=>∃ i,x = .int i∧i.natAbs.log2 < 1920∧te σ H1 fun y H2=>∃ z,y = .str z∧z.cps.all (· < 128) = true∧z.length ≤ 2000000∧∀ y,Q (.str y) H2
theorem ze3 {a b:Str} {j j2:Nat} {p1 p2 p3 p4 pos:Pos} {e1 e2:Expr} {ti te:TE} (ha:a.length ≤ 1000) (hb:b.length ≤ 1000) (h1:PE X e1 ti) (h2:PE X e2 te) :
  PE X (.JoinedStr [.Constant (.str a) j p1,.FormattedValue e1 (-1) none p2,.Constant (.str b) j2 p3,.FormattedValue e2 114 none p4] pos) (zdu ti te):=by
 intro pins s σ H Q I h
 have h0:Str.empty.length = 0:=rfl
 refine JoinedStr_many (joinParts_cons (Calls.Constant_str ⟨?_,joinParts_cons (FormattedValue_plain ?_)⟩))
 ·rw [strLen_append,sizeLine_eq]
  omega
 ·refine thn (h1 pins _ σ H _ (I.tok _) h) fun v s1 ⟨x,H1,I1,r1,i,ex,hl,q⟩=>?_
  subst ex
  obtain ⟨t,rfl⟩:=r1
  refine formatField_int_small hl ?_
  have hi:=int_text_len_1921 hl
  refine ⟨?_,?_⟩
  ·rw [strLen_append,strLen_append,sizeLine_eq]
   show _ + (Str.ofString (toString i)).length ≤ _
   omega
  show wpAny _ _ (joinParts _ (eval (.Constant (.str b) j2 p3) X.env :: eval (.FormattedValue e2 114 none p4) X.env :: [])) _ _ _
  refine joinParts_cons (Calls.Constant_str ⟨?_,joinParts_cons (wpAny_FormattedValue_repr ?_)⟩)
  ·rw [strLen_append,strLen_append,strLen_append,sizeLine_eq]
   show _ + (Str.ofString (toString i)).length + _ ≤ _
   omega
  ·refine thn (h2 pins _ σ H1 _ (((I1.tok _).tok _).tok _) q) fun v s2 ⟨y,H2,I2,r2,z,ey,ha',hz,q2⟩=>?_
   subst ey
   obtain ⟨t2,rfl⟩:=r2
   have hrl:=zcI ha'
   refine wpAny_pyReprObj_str ?_ (by rw [sizeLine_eq]; omega)
   refine formatField_str (fun t' tk=>?_) (by rw [sizeLine_eq]; omega)
   refine ⟨?_,joinParts_nil ⟨.str _,H2,(I2.tok _).tok _,⟨_,rfl⟩,q2 _⟩ ?_⟩
   ·rw [strLen_append,strLen_append,strLen_append,strLen_append,sizeLine_eq]
    show _ + (Str.ofString (toString i)).length + _ + _ ≤ _
    omega
   ·rw [strLen_append,strLen_append,strLen_append,strLen_append,sizeLine_eq]
    show _ + (Str.ofString (toString i)).length + _ + _ ≤ _
    omega
noncomputable def zec (te:TE):TE:=fun σ H Q=>te σ H fun x H1=>∃ z,x = .str z∧z.length ≤ 2000000∧∀ y,Q (.str y) H1
theorem zfF {a c:Str} {j1 j2:Nat} {p1 p2 p3 pos:Pos} {e1:Expr} {t1:TE} (ha:a.length ≤ 1000) (hc:c.length ≤ 1000) (h1:PE X e1 t1) :
  PE X (.JoinedStr [.Constant (.str a) j1 p1,.FormattedValue e1 (-1) none p2,.Constant (.str c) j2 p3] pos) (zec t1):=by
 intro pins s σ H Q I h
 have h0:Str.empty.length = 0:=rfl
 refine JoinedStr_many (joinParts_cons (Calls.Constant_str ⟨?_,joinParts_cons (FormattedValue_plain ?_)⟩))
 ·rw [strLen_append,sizeLine_eq]
  omega
 ·refine thn (h1 pins _ σ H _ (I.tok _) h) fun v s1 ⟨x,H1,I1,r1,z1,ex,l1,q1⟩=>?_
  subst ex
  obtain ⟨t,rfl⟩:=r1
  refine formatField_str (fun t' tk=>?_) (by rw [sizeLine_eq]; omega)
  refine ⟨by rw [strLen_append,strLen_append,sizeLine_eq]; omega,?_⟩
  refine joinParts_cons (Calls.Constant_str ⟨?_,joinParts_nil ⟨.str _,H1,((I1.tok _).tok _).tok _,⟨_,rfl⟩,q1 _⟩ ?_⟩)
  ·rw [strLen_append,strLen_append,strLen_append,sizeLine_eq]; omega
  ·rw [strLen_append,strLen_append,strLen_append,sizeLine_eq]; omega
end
end L2
set_option Elab.async false
set_option linter.all false
set_option maxRecDepth 100000
namespace L2
open PySem PySem.Spec PyProof.Rows
section
variable {M:Model} {A:Around} {E:Value->Shared->Prop} {s:Shared}
theorem zfh {base:Heap} {env:Env} {outer:List Env} {L e:Addr} {cls a0 fl:Value} {Q:Unit->Shared->Prop}
  (hfr:A.frames = some (env :: outer)) (hf:env.frame = some L) (k1:base.StaysIn s.heap) (k2:base.get? e = none) (k3:s.heap.FunFrames base (env :: outer)) (k4:s.heap.TracedAtW base e cls a0 fl)
  (hQ:∀ h',Heap.FlyingW base outer e cls a0 h'->s.heap.UpToSlots h'->Q () { s with heap:=h' }):wpAny M A (leaving env (.ref e)) Q E s:=by
 by_cases c:fl = rawInt L
 ·subst c
  unfold leaving
  refine wpAny_bind (wpAny_noteFrame_againW hf k4 ?_)
  refine wpAny_landsW ⟨k1,k2,k3,k4⟩ fun h' hfl up=>?_
  obtain ⟨j1,j2,⟨_,_,j3⟩,j4⟩:=hfl
  exact hQ h' ⟨j1,j2,j3,j4⟩ up
 ·obtain ⟨oe,vs,T,oT,ts,he,⟨hcls,h0⟩,hd,h1,hnT,hTe,hT,hdT,h3⟩:=k4
  subst hcls
  have keep:∀ (b:Addr) (o:Obj),s.heap.get? b = some o->b ≠ T->(s.heap.update T (Obj.mapFields (·.setIfInBounds 3 Value.none))).get? b = some o:=fun b o g n=>(Heap.get?_update_other _ _ (Ne.symm n)).trans g
  have nT:∀ (b:Addr) (o:Obj),s.heap.get? b = some o->(∀ vs,o.data ≠ .fields vs)->b ≠ T:=fun b o g n z=>by
   rw [z,hT] at g
   cases g
   exact n ts hdT
  unfold leaving noteFrame
  simp only [hf]
  refine wpAny_bind (wpAny_bind (wpAny_field he hd h1 ?_))
  rw [if_pos (show (Value.ref T != Value.none) = true by simp)]
  refine wpAny_bind (wpAny_field hT hdT h3 ?_)
  rw [if_neg (show ¬ ((fl == rawInt L) = true) by simpa using c)]
  refine wpAny_bind (wpAny_setField hT hdT (Array.getElem?_eq_some_iff.mp h3).1 ?_)
  refine wpAny_newEntryW hfr (k3.of_keeps fun b o g n=>⟨o,keep b o g (nT b o g n),rfl⟩) hf (keep e _ he (Ne.symm hTe)) (fun b o g=>keep b o (k1 b o g) fun z=>by rw [z,hnT] at g; cases g) k2 hd (Array.getElem?_eq_some_iff.mp h1).1 h0 fun h' hL=>?_
  obtain ⟨x1,⟨_,_,x2⟩,x3,x4⟩:=hL
  exact hQ h' ⟨x1,k2,x2,x3⟩ fun b o g n=>x4 b o (keep b o g (nT b o g n)) n
end
noncomputable def zdB (X:Cx) (E:XK):Prop:=∀ (pins:List (Addr × Obj)) (σ:St) (H:Hp) (s:Shared) (ea t C:Addr) (B:Heap) (fl:Value),Inv X pins σ H s->B.StaysIn s.heap->B.get? ea = none->s.heap.FunFrames B X.stack ->
 s.heap.TracedAtW B ea (.ref C) (.ref t) fl->(∀ b o,s.heap.get? b = some o->b ∉ frs X.stack->((∃ u,H b = some u) ∨ ∃ o',X.s₀.heap.get? b = some o')->B.get? b = some o)->E (.ref C) none H->X.xe (.ref ea) s
section
variable {P:Program} {w:World} {K:PySem.W.Frag} {mg:Str->Option Value} {base:Heap} {N:List Str} {qual:Str} {scope:Scope} {f:Addr} {cd:Value} {A:Around} {outer:List Env} {s₀:Shared} {H₀:Hp} {E:XK}
theorem passesT_cx:zdB (cxOf (CX1 P w) P w K mg base N qual scope f cd A outer s₀ H₀ E) E:=by
 intro pins σ H s ea t C B fl I k1 k2 k3 k4 hB hE
 show wpAny (model P w) (A.deeper (envOfC qual scope s₀.heap.objs.size f cd)) (leaving (envOfC qual scope s₀.heap.objs.size f cd) (.ref ea)) (fun _ s''=>CX1 P w outer H₀ s₀ E (.ref ea) s'') (fun e' s''=>CX1 P w outer H₀ s₀ E e' s'') s
 refine zfh I.ok.frames rfl k1 k2 k3 k4 fun h2 x1 x2=>?_
 exact zeq I hB x1 x2 rfl rfl hE
end
theorem zbS {h h' base:Heap}:∀ {l:List Env},(∀ L ∈ frs l,∀ o,h.get? L = some o->(∀ vs,o.data ≠ .fields vs)->∃ o',h'.get? L = some o'∧o'.data = o.data)->h.FunFrames base l->h'.FunFrames base l
 | [],_,_=>trivial
 | env :: l,k,⟨hk,⟨L,o,hf,hn,ho,hd⟩,hr⟩=>by
  have m:L ∈ frs (env :: l):=List.mem_filterMap.mpr ⟨env,by simp,hf⟩
  obtain ⟨o',ho',hd'⟩:=k L m o ho hd
  exact ⟨hk,⟨L,o',hf,hn,ho',by rw [hd']; exact hd⟩,zbS (fun L' m'=>k L' (by obtain ⟨e,he,q⟩:=List.mem_filterMap.mp m'; exact List.mem_filterMap.mpr ⟨e,by simp [he],q⟩)) hr⟩
theorem Un.slideX {fs ex:List Addr} {H H':Hp} {h0 h1 h2:Heap} (u:Un fs ex H H' h0 h1) (k:∀ b o,(∃ o',h0.get? b = some o')->h1.get? b = some o->b ∉ fs->b ∉ ex->h2.get? b = some o)
  (sl:∀ b o,h1.get? b = some o->b ∈ fs->∃ s,h2.get? b = some { o with slots:=s }):Un fs ex H H' h0 h2 where
 keep:=fun b o q n hb hx=>k b o ⟨o,q⟩ (u.keep b o q n hb hx) hb hx
 slot:=fun b o q n hb hx=>by
  obtain ⟨s1,e1⟩:=u.slot b o q n hb hx
  obtain ⟨s2,e2⟩:=sl b _ e1 hb
  exact ⟨s2,e2⟩
 free:=u.free
 there:=fun b o q hx=>by
  obtain ⟨o1,e1⟩:=u.there b o q hx
  by_cases hb:b ∈ fs
  ·obtain ⟨s2,e2⟩:=sl b _ e1 hb
   exact ⟨_,e2⟩
  ·exact ⟨o1,k b o1 ⟨o,q⟩ e1 hb hx⟩
 tups:=u.tups
 frzs:=u.frzs
 tbls:=u.tbls
noncomputable def za9 (X:Cx) (scope:Scope) (N':List Str) (C:Addr) (ex:List Addr) (s:Shared) (H:Hp) (W:Value->Shared->Prop):Cx:={ zbb X scope N' C ex s H with xe:=W }
theorem Inv.wx {X:Cx} {pins:List (Addr × Obj)} {σ:St} {H:Hp} {s:Shared} (I:Inv X pins σ H s) (W:Value->Shared->Prop):Inv { X with xe:=W } pins σ H s :=
 ⟨⟨I.ok.mod,I.ok.kind,I.ok.glob,I.ok.blt,I.ok.above,I.ok.inj,I.ok.has,I.ok.cab,I.ok.hd,I.ok.frames,I.ok.stk,I.ok.exf,I.ok.bs,I.ok.bsz,I.ok.noex,I.ok.exfs,I.ok.funs,I.ok.frf⟩,
  I.os,I.bare,I.base,I.loc,I.cell,I.free,I.freeC,I.pin,I.hok,I.len⟩
section
variable {X:Cx} {pins:List (Addr × Obj)} {σ:St} {H:Hp} {s:Shared} {scope:Scope} {N':List Str} {cap:List (Option Nat)}
theorem zia {E0:XK} (hX:zdB X E0) (hstk:X.stack = X.env :: X.outer) (hfr:X.env.frame = some X.env.locals) (hex:X.ex = []) {c:CompOk X scope N' cap} (I1:Inv X pins σ H s) {fp:List Addr} (hf:∀ b ∈ fp,FpOk X pins H b) (ho:∀ b ∈ fp,∃ o,s.heap.get? b = some o)
  {W:Value->Shared->Prop} {RE:Value->Shared->Prop}
  (hRX:∀ e s',(∃ m,s'.heap.Ns s.heap.objs.size m∧∀ h',Heap.SameBut s.heap.objs.size s'.heap h'->∀ cenv:Env,cenv.locals = s.heap.objs.size->wpAny (model X.prog X.w) X.A (PySem.passOn "comprehension.variables-let-go" e cenv:Sem Value) (fun _ _=>False) X.xe { s' with heap:=h' })->RE e s')
  (hW:W = notedBy (model X.prog X.w) X.A (compEnvC scope (clOf X.env scope.names []) s.heap.objs.size X.env) RE) :
  zbE (CX1 X.prog X.w) (za9 X scope N' s.heap.objs.size fp s H W) E0:=by
 intro pins' σ' H8 s8 e s2 J hq
 obtain ⟨ea,t,C',B,H',rfl,os,bare,un,hok,fl,hB,hE⟩:=hq
 have un:Un (frs X.stack) [] H8 H' s8.heap s2.heap:=un
 have hok:HOk X.prog X.w H' s2.heap:=hok
 have hB:∀ b o,s2.heap.get? b = some o->b ∉ frs X.stack->((∃ u,H' b = some u) ∨ ∃ o',s8.heap.get? b = some o')->B.get? b = some o:=hB
 have J2:Inv (za9 X scope N' s.heap.objs.size fp s H W) pins' σ' H' s2:=J.call' os un hok bare (ch:=[]) (fun b z=>absurd z (by simp))
 have fl:Heap.FlyingW B (X.env :: X.outer) ea (.ref C') (.ref t) s2.heap:=by rw [← hstk]; exact fl
 have frm:X.A.frames = some (X.env :: X.outer):=by rw [← hstk]; exact I1.ok.frames
 show W (.ref ea) s2
 rw [hW]
 show wpAny (model X.prog X.w) X.A (noteFrame (.ref ea) X.env) (fun _ s''=>RE (.ref ea) s'') RE s2
 refine wpAny_looks_onW frm hfr fl fun h4 held4 sm4=>?_
 have J4:=(J.flown (s':=s2) un hok os bare hB held4.1 sm4).1
 obtain ⟨m,hn,_⟩:=J4.loc
 have hn:h4.Ns s.heap.objs.size m:=hn
 refine hRX _ _ ⟨m,hn,fun h' sb cenv hcv=>?_⟩
 obtain ⟨k1,k2,k3,oe,vs,T,oT,ts,he,hcls,hd,h1,hnT,hTe,hT,hdT,h3⟩:=held4
 obtain ⟨oC,es,ep,hoC,hdC,_⟩:=hn
 have eC:ea ≠ s.heap.objs.size:=fun z=>by
  rw [z,hoC] at he
  cases he
  rw [hdC] at hd; cases hd
 have TC:T ≠ s.heap.objs.size:=fun z=>by
  rw [z,hoC] at hT
  cases hT
  rw [hdC] at hdT; cases hdT
 have he':=sb.extBut ea oe eC he
 have hT':=sb.extBut T oT TC hT
 have lt3:=(Array.getElem?_eq_some_iff.mp h3).1
 have fC:s.heap.objs.size ∉ frs X.stack:=fun z=>by
  obtain ⟨_,o,g,_⟩:=I1.stack.mem z
  exact absurd (Heap.lt_size g) (Nat.lt_irrefl _)
 unfold PySem.passOn
 refine wpAny_bind (wpAny_field he' hd h1 ?_)
 rw [if_neg (show ¬ ((Value.ref T == Value.none) = true) by simp)]
 refine wpAny_bind ?_
 unfold setFlight
 refine wpAny_bind (wpAny_field he' hd h1 ?_)
 rw [if_pos (show (Value.ref T != Value.none) = true by simp)]
 refine wpAny_setField hT' hdT lt3 ?_
 refine wpAny_throw ?_
 generalize hv:(cenv.frame.elim Value.none fun f=>rawInt f) = v
 have get_:∀ (b:Addr) (o:Obj),h'.get? b = some o->b ≠ T->(h'.update T (Obj.mapFields (·.setIfInBounds 3 v))).get? b = some o:=fun b o g n=>(Heap.get?_update_other _ _ (Ne.symm n)).trans g
 have self_:=Heap.get?_update_self (h:=h') (Obj.mapFields (·.setIfInBounds 3 v)) hT' (Obj.isFreed_of_fields (Obj.data_mapFields hdT _))
 revert get_ self_
 generalize h'.update T (Obj.mapFields (·.setIfInBounds 3 v)) = h5
 intro get_ self_
 have up:∀ (b:Addr) (o:Obj),s2.heap.get? b = some o->(∀ vs,o.data ≠ .fields vs)->b ≠ s.heap.objs.size->∃ sl,h5.get? b = some { o with slots:=sl }:=fun b o g n nc=>by
  obtain ⟨sl,e4⟩:=sm4 b o g n
  refine ⟨sl,get_ b _ (sb.extBut b _ nc e4) fun z=>?_⟩
  rw [z,hT] at e4
  cases e4
  exact n ts hdT
 have st:(PySem.W.hideAll B [s.heap.objs.size]).StaysIn h5:=fun b o g=>by
  have gB:=PySem.W.of_hideAll _ g
  have nc:b ≠ s.heap.objs.size:=fun z=>by
   rw [PySem.W.hideAll_none _ (by rw [z]; simp)] at g
   cases g
  exact get_ b o (sb.extBut b o nc (k1 b o gB)) fun z=>by rw [z,hnT] at gB; cases gB
 have inB:(PySem.W.hideAll B [s.heap.objs.size]).StaysIn B:=fun b o g=>PySem.W.of_hideAll _ g
 have toB:∀ (b:Addr) (o:Obj),B.get? b = some o->b ≠ s.heap.objs.size->(PySem.W.hideAll B [s.heap.objs.size]).get? b = some o:=fun b o g nc=>PySem.W.hideAll_get _ g (by simpa using nc)
 have H'C:H' s.heap.objs.size = none:=J2.free
 have nC:∀ c v,H' c = some v->c ≠ s.heap.objs.size:=fun c v q z=>by rw [z,H'C] at q; cases q
 have nf:∀ c v,H' c = some v->c ∉ frs X.stack:=fun c v q z=>by
  have:=J2.stkFree c z
  rw [this] at q; cases q
 have lt:∀ (b:Addr) (o:Obj),s.heap.get? b = some o->b ≠ s.heap.objs.size:=fun b o g=>Nat.ne_of_lt (Heap.lt_size g)
 have there8:∀ (b:Addr) (o:Obj),s.heap.get? b = some o->b ∉ fp->∃ o',s8.heap.get? b = some o':=fun b o g n=>J.base.there b o g n
 have un5:Un (frs X.stack) fp H H' s.heap h5:=Un.slideX (h1:=s2.heap) J2.base (fun b o ⟨o',q⟩ g hb hx=>st b o (toB b o (hB b o g hb (.inr (there8 b o' q hx))) (lt b o' q))) fun b o g hb=>by
  obtain ⟨_,o1,g1,d1⟩:=J2.stack.mem hb
  rw [g1] at g
  cases g
  exact up b o g1 d1 fun z=>fC (z ▸ hb)
 have kk:∀ c o,(∃ v,H' c = some v)->s2.heap.get? c = some o->h5.get? c = some o:=fun c o ⟨v,q⟩ g=>st c o (toB c o (hB c o g (nf c v q) (.inl ⟨v,q⟩)) (nC c v q))
 have hok5:HOk X.prog X.w H' h5:=fun a u e=>by
  refine (hok a u e).stay (fun c v hc g=>kk c v ?_ g) (fun _ q=>q) fun _ _ q=>q
  rcases hc with rfl | hc
  ·exact ⟨_,e⟩
  ·exact ⟨_,hc⟩
 have I5:Inv X pins σ H' { s2 with heap:=h5 }:=I1.call' (s':={ s2 with heap:=h5 }) (ch:=fp) J2.os un5 hok5 bare fun b hb=>by
  obtain ⟨_,f1,f2,f3,f4,f5⟩:=hf b hb
  exact ⟨f3,f1,f4,f5⟩
 refine hX pins σ H' { s2 with heap:=h5 } ea t C' (PySem.W.hideAll B [s.heap.objs.size]) v I5 st (PySem.W.fresh_of_stays inB k2) ?_ ⟨oe,vs,T,_,_,get_ ea _ he' (Ne.symm hTe),hcls,hd,h1,PySem.W.fresh_of_stays inB hnT,hTe,self_,Obj.data_mapFields hdT _,by simp [lt3]⟩ (fun b o g hb z=>?_) hE
 ·rw [hstk]
  refine zbS (fun L m o g n=>?_) (PySem.W.funFrames_base inB k3)
  have nc:L ≠ s.heap.objs.size:=fun z=>fC (by rw [hstk,← z]; exact m)
  exact ⟨o,get_ L o (sb.extBut L o nc g) (fun z=>by rw [z,hT] at g; cases g; exact n ts hdT),rfl⟩
 ·have fin:∀ o1,s2.heap.get? b = some o1->((∃ u,H' b = some u) ∨ ∃ o',s8.heap.get? b = some o')->b ≠ s.heap.objs.size->(PySem.W.hideAll B [s.heap.objs.size]).get? b = some o:=fun o1 g1 z1 nc=>by
   have b1:=toB b o1 (hB b o1 g1 hb z1) nc
   have:=st b o1 b1
   rw [show h5.get? b = some o from g] at this
   cases this
   exact b1
  rcases z with ⟨u,q⟩ | ⟨o',q⟩
  ·obtain ⟨o1,g1⟩:=HOk.obj hok q
   exact fin o1 g1 (.inl ⟨u,q⟩) (nC b u q)
  ·obtain ⟨o1,g1⟩:=I1.base.there b o' q (by rw [hex]; simp)
   have nfp:b ∉ fp:=fun m=>by
    rcases (hf b m).2.2.2.1 with y | y
    ·rw [hex] at y; cases y
    ·exact absurd (Heap.lt_size q) (Nat.not_lt.mpr y)
   obtain ⟨o8,g8⟩:=there8 b o1 g1 nfp
   obtain ⟨o2,g2⟩:=J2.base.there b o1 g1 nfp
   exact fin o2 g2 (.inr ⟨o8,g8⟩) (lt b o1 g1)
theorem ze6 {E0:XK} {tg elt iter:Expr} {ifs:List Expr} {pos:Pos} {g:TG} {tt:TT} {te:TE} {it:Addr} {fp:List Addr} {tn:Nat->Heap->Prop} {J:It} {RR:Value->Addr->Result->Shared->Prop} {Q:VK} {E:Value->Shared->Prop}
  (hX:zdB X E0) (hstk:X.stack = X.env :: X.outer) (hfr:X.env.frame = some X.env.locals) (hex:X.ex = []) (c:CompOk X scope N' cap) (hc:X.calm = true) (I:Inv X pins σ H s) (T:Turn X.prog X.w X.K tg J fp it tn) (st:tn 0 s.heap) (hf:∀ b ∈ fp,FpOk X pins H b)
  (hg:∀ C ex s H W,PG (za9 X scope N' C ex s H W) tg g) (hk:GKp (zee cap) g) (hi:∀ C ex s H W,PIfs (za9 X scope N' C ex s H W) ifs tt) (he:∀ C ex s H W,zbE (CX1 X.prog X.w) (za9 X scope N' C ex s H W) E0->PE (za9 X scope N' C ex s H W) elt te)
  (h:∀ D,H D = none ->
   ∃ W:Nat->Nat->List V->Hp->Prop,(∃ m,W 0 m [] (upd H D (.lst [])))∧∀ i m ys H2,W i m ys H2->H2 D = some (.lst ys) ∧
    ((J.stop i H2∧Q (.ref D) H2) ∨ (J.go i H2∧ys.length < sizeLine∧∃ N:List V->Hp->Prop,(∀ ys' H',N ys' H'->∃ m',m' < m∧W (i + 1) m' ys' H')∧∀ x H3,J.yld i H2 x H3->g x (zaE cap σ) H3 fun σ4 H4=>tt σ4 H4 fun b H5 =>
     if b = true then te σ4 H5 fun y H6=>H6 D = some (.lst ys)∧N (ys ++ [y]) (upd H6 D (.lst (ys ++ [y]))) else N ys H5)))
  (hRR:∀ D C H' s',Inv X pins σ H' s'->FpOk X pins H' C->(∃ m,s'.heap.Ns C m)->Q (.ref D) H'->RR (.ref D) C (.ok .next) s')
  (hRX:∀ D C e s',(∃ m,s'.heap.Ns C m∧∀ h',Heap.SameBut C s'.heap h'->∀ cenv:Env,cenv.locals = C->wpAny (model X.prog X.w) X.A (PySem.passOn "comprehension.variables-let-go" e cenv:Sem Value) (fun _ _=>False) X.xe { s' with heap:=h' })->RR (.ref D) C (.error e) s') :
  wpAny (model X.prog X.w) X.A (newList []) (fun acc s₃=>wpAny (model X.prog X.w) X.A (newFunctionEnv scope X.env.globals (clOf X.env scope.names []) [] X.env.qual none .none (some X.env)) (fun cenv s₄ =>
   codeAny (model X.prog X.w) X.A (.compStart (.ListComp elt [⟨tg,iter,ifs,0⟩] scope pos) 0 (.ref it) acc { cenv with scope:=relabel scope X.env }) (RR acc cenv.locals) s₄) E s₃) E s:=by
 refine wpAny_newObj_type (wpAny_newFunctionEnv c.nocell (by intro y hy; simp at hy) (fun h₁ hns₁ hsb₁=>?_) c.kind)
 dsimp only at hns₁ hsb₁ ⊢
 have hD:H s.heap.objs.size = none:=I.hok.fresh (Nat.le_refl _)
 have I1:Inv X pins σ (upd H s.heap.objs.size (.lst [])) { s with heap:=s.heap.push { cls:=.type "list",dict:=none,data:=.seq ([]:List Value).toArray } } :=
  I.laid (t':=s.toks) (fun b u e=>Heap.get?_push_of_some _ e) (Nat.le_refl _) ⟨Nat.zero_le _,[],0,.nil,Heap.get?_push_size _ rfl⟩
 have ob:∀ b ∈ fp,∃ o,s.heap.get? b = some o∧∀ v,o.data ≠ .cell v:=T.obj 0 _ st
 have hf1:∀ b ∈ fp,FpOk X pins (upd H s.heap.objs.size (.lst [])) b:=fun b hb=>by
  obtain ⟨o,e,_⟩:=ob b hb
  have:b ≠ s.heap.objs.size:=Nat.ne_of_lt (Heap.lt_size e)
  exact ⟨by rw [zat this]; exact (hf b hb).1,(hf b hb).2⟩
 generalize hs1:({ s with heap:=s.heap.push { cls:=.type "list",dict:=none,data:=.seq ([]:List Value).toArray } }:Shared) = s1 at I1
 have hh:s.heap.push { cls:=.type "list",dict:=none,data:=.seq ([]:List Value).toArray } = s1.heap:=by rw [← hs1]
 have old1:∀ b o,s.heap.get? b = some o->s1.heap.get? b = some o:=fun b o e=>by rw [← hh]; exact Heap.get?_push_of_some _ e
 rw [hh] at hns₁ hsb₁ ⊢
 have old2:∀ b o,s1.heap.get? b = some o->h₁.get? b = some o:=fun b o e=>hsb₁.extBut b o (Nat.ne_of_lt (Heap.lt_size e)) (Heap.get?_push_of_some _ e)
 have J0:Inv (zbb X scope N' s1.heap.objs.size fp s1 (upd H s.heap.objs.size (.lst []))) [] (zaE cap σ) (upd H s.heap.objs.size (.lst [])) { s1 with heap:=h₁,toks:=s.toks + ([]:List (Str × Value)).length } :=
  zdl c I1 hf1 (fun b hb=>(ob b hb).imp fun o e=>old1 b o e.1) hns₁ old2
 have es4:({ heap:=h₁,gens:=s.gens,drawn:=s.drawn,toks:=s.toks + ([]:List (Str × Value)).length,os:=s.os }:Shared) = { s1 with heap:=h₁,toks:=s.toks + ([]:List (Str × Value)).length }:=by rw [← hs1]
 have st4:tn 0 ({ s1 with heap:=h₁,toks:=s.toks + ([]:List (Str × Value)).length }:Shared).heap:=T.keep 0 _ _ st fun b hb o e=>old2 b o (old1 b o e)
 rw [es4]
 generalize ({ s1 with heap:=h₁,toks:=s.toks + ([]:List (Str × Value)).length }:Shared) = s4 at J0 st4 ⊢
 obtain ⟨W,⟨m0,w0⟩,step⟩:=h _ hD
 have PX:=zia (c:=c) hX hstk hfr hex I1 hf1 (fun b hb=>(ob b hb).imp fun o e=>old1 b o e.1) (W:=notedBy (model X.prog X.w) X.A (compEnvC scope (clOf X.env scope.names []) s1.heap.objs.size X.env) fun e s'=>RR (.ref s.heap.objs.size) s1.heap.objs.size (.error e) s') (N':=N') (hRX _ _) rfl
 have J0:Inv (za9 X scope N' s1.heap.objs.size fp s1 (upd H s.heap.objs.size (.lst [])) (notedBy (model X.prog X.w) X.A (compEnvC scope (clOf X.env scope.names []) s1.heap.objs.size X.env) fun e s'=>RR (.ref s.heap.objs.size) s1.heap.objs.size (.error e) s')) [] (zaE cap σ) (upd H s.heap.objs.size (.lst [])) s4:=J0.wx _
 generalize hY:za9 X scope N' s1.heap.objs.size fp s1 (upd H s.heap.objs.size (.lst [])) (notedBy (model X.prog X.w) X.A (compEnvC scope (clOf X.env scope.names []) s1.heap.objs.size X.env) fun e s'=>RR (.ref s.heap.objs.size) s1.heap.objs.size (.error e) s') = Y at J0 PX
 have stat:∀ {H':Hp},(∀ b ∈ fp,H' b = none)->∀ b ∈ fp,FpOk Y [] H' b:=fun hn b hb=>by
  obtain ⟨o,e,_⟩:=ob b hb
  have e1:=old1 b o e
  subst hY
  refine ⟨hn b hb,Nat.ne_of_lt (Heap.lt_size e1),fun z=>?_,.inl hb,fun x a q=>(J0.ok.exf b hb).2 x a q,fun p hp=>by simp [za9,zbb] at hp⟩
  exact J0.ok.exfs b hb z
 have loop:codeAny (model X.prog X.w) X.A (.compLoop (.ListComp elt [⟨tg,iter,ifs,0⟩] scope pos) 0 (.ref it) (.ref s.heap.objs.size) (compEnvC scope (clOf X.env scope.names []) s1.heap.objs.size X.env)) (RR (.ref s.heap.objs.size) s1.heap.objs.size) s4:=by
  refine zcp (fun n s'=>∃ i ys H',Inv Y [] (zaE cap σ) H' s'∧tn i s'.heap∧(∀ b ∈ fp,H' b = none)∧W i n ys H') ?_ m0 ⟨0,[],_,J0,st4,fun b hb=>(hf1 b hb).1,w0⟩
  rintro n s3 ⟨i,ys,H3,I3,st3,fr3,w3⟩
  obtain ⟨hDl,alt⟩:=step i n ys H3 w3
  rcases alt with ⟨stop,q⟩ | ⟨go,hlen,NN,hNN,stp⟩
  ·have:=T.done Y (by rw [← hY]; rfl) (by rw [← hY]; rfl) (by rw [← hY]; rfl) (by rw [← hY]; exact hc) i [] s3 (zaE cap σ) H3 (notedBy (model X.prog X.w) X.A (compEnvC scope (clOf X.env scope.names []) s1.heap.objs.size X.env) fun e s'=>RR (.ref s.heap.objs.size) s1.heap.objs.size (.error e) s') I3 (stat fr3) st3 stop
   subst hY
   refine thn this fun r s5 zq_=>?_
   obtain ⟨hr,I5⟩:=zq_
   subst hr
   refine hRR _ _ H3 s5 (I1.call' I5.os I5.base I5.hok I5.bare fun b hb=>?_) (I1.fpOk (Nat.le_refl _) I5.free) (I5.loc.imp fun m z=>z.1) q
   obtain ⟨_,f1,f2,f3,f4,f5⟩:=hf1 b hb
   exact ⟨f3,f1,f4,f5⟩
  ·have:=T.item Y (by rw [← hY]; rfl) (by rw [← hY]; rfl) (by rw [← hY]; rfl) (by rw [← hY]; exact hc) i [] s3 (zaE cap σ) H3 (notedBy (model X.prog X.w) X.A (compEnvC scope (clOf X.env scope.names []) s1.heap.objs.size X.env) fun e s'=>RR (.ref s.heap.objs.size) s1.heap.objs.size (.error e) s') I3 (stat fr3) st3 go
   have hgY:=hg s1.heap.objs.size fp s1 (upd H s.heap.objs.size (.lst [])) (notedBy (model X.prog X.w) X.A (compEnvC scope (clOf X.env scope.names []) s1.heap.objs.size X.env) fun e s'=>RR (.ref s.heap.objs.size) s1.heap.objs.size (.error e) s')
   have hiY:=hi s1.heap.objs.size fp s1 (upd H s.heap.objs.size (.lst [])) (notedBy (model X.prog X.w) X.A (compEnvC scope (clOf X.env scope.names []) s1.heap.objs.size X.env) fun e s'=>RR (.ref s.heap.objs.size) s1.heap.objs.size (.error e) s')
   have heY:=he s1.heap.objs.size fp s1 (upd H s.heap.objs.size (.lst [])) (notedBy (model X.prog X.w) X.A (compEnvC scope (clOf X.env scope.names []) s1.heap.objs.size X.env) fun e s'=>RR (.ref s.heap.objs.size) s1.heap.objs.size (.error e) s')
   rw [hY] at hgY hiY heY
   have heY:=heY PX
   have nox:∀ e s',Y.xe e s'->notedBy (model X.prog X.w) X.A (compEnvC scope (clOf X.env scope.names []) s1.heap.objs.size X.env) (fun e s'=>RR (.ref s.heap.objs.size) s1.heap.objs.size (.error e) s') e s':=fun e s' z=>by subst hY; exact z
   have eA:Y.A = X.A:=by rw [← hY]; rfl
   have eP:Y.prog = X.prog:=by rw [← hY]; rfl
   have eW:Y.w = X.w:=by rw [← hY]; rfl
   have eE:Y.env = compEnvC scope (clOf X.env scope.names []) s1.heap.objs.size X.env:=by rw [← hY]; rfl
   rw [← eA,← eP,← eW,← eE] at this nox ⊢
   refine thn this fun r s5 zq_=>?_
   obtain ⟨u,hr,h5⟩:=zq_
   subst hr
   refine thn h5 fun _ s6 zq_=>?_
   obtain ⟨x,H6,I6,rx,y6,st6,fr6⟩:=zq_
   have I6':=I6.pinned (stat fr6) (T.obj _ _ st6)
   refine wpAny_mono (hgY _ s6 (zaE cap σ) H6 x u _ I6' rx (hk _ _ _ _ (stp x H6 y6))) (fun _ s7 zq_=>?_) nox
   obtain ⟨σ7,H7,I7,⟨k1,k2⟩,q7⟩:=zq_
   refine thn (hiY _ s7 σ7 H7 _ _ I7 q7) fun ok s8 zq_=>?_
   obtain ⟨H8,I8,q8⟩:=zq_
   have again:∀ {H9:Hp} {s9:Shared} {σ9:St} {ys':List V},Inv Y ([] ++ zdj fp s6.heap) σ9 H9 s9->σ9.length = (zaE cap σ).length->(∀ (i:Nat) v,(zaE cap σ)[i]? = some (some v)->σ9[i]? = some (some v))->(∃ m',m' < n∧W (i + 1) m' ys' H9)->∃ m,m < n∧∃ i ys H',Inv Y [] (zaE cap σ) H' s9∧tn i s9.heap∧(∀ b ∈ fp,H' b = none)∧W i m ys H':=by
    rintro H9 s9 σ9 ys' I9 hl hw ⟨m',hm,w9⟩
    refine ⟨m',hm,i + 1,ys',H9,I9.unpinned.weak hl.symm hw,T.keep _ _ _ st6 fun b hb o e=>(I9.pin (b,o) (List.mem_append_right _ (List.mem_append_right _ (zbi hb e)))).1,fun b hb=>?_,w9⟩
    obtain ⟨o,e,d⟩:=T.obj _ _ st6 b hb
    exact (I9.pin (b,o) (List.mem_append_right _ (List.mem_append_right _ (zbi hb e)))).2.1
   have kw:∀ (i:Nat) v,(zaE cap σ)[i]? = some (some v)->σ7[i]? = some (some v):=fun i v e=>by
    rw [k2 i ?_]
    ·exact e
    ·unfold zee
     cases q:cap[i]? with
     | none=>rfl
     | some o =>
      cases o with
      | none =>
       unfold zaE at e
       rw [List.getElem?_map,q] at e
       cases e
      | some j=>rfl
   cases ok with
   | false =>
    rw [if_neg Bool.false_ne_true] at q8 ⊢
    exact again I8 k1 kw (hNN _ _ q8)
   | true =>
    rw [if_pos rfl] at q8 ⊢
    refine wpAny_mono (heY _ s8 σ7 H8 _ I8 q8) (fun u9 s9 zq_=>?_) nox
    obtain ⟨y,H9,I9,ry,hD9,q9⟩:=zq_
    refine wpAny_mono (mt_append (X:=Y) _ s9 σ7 H9 (.ref s.heap.objs.size) [y] (.ref s.heap.objs.size) [u9] (fun _ H10=>NN (ys ++ [y]) H10) I9 rfl (.cons ry .nil) ⟨_,ys,y,rfl,rfl,hD9,hlen,q9⟩) (fun _ s10 zq_=>?_) nox
    obtain ⟨_,H10,I10,_,q10⟩:=zq_
    exact again I10 k1 kw (hNN _ _ q10)
 exact codeAny_compStart_list loop (T.self X.A 0 _ _ _ st4 loop)
theorem zgP {E0:XK} {i:Nat} {x:Str} {px spos:Pos} {tg elt iter:Expr} {ifs:List Expr} {pos:Pos} {wi:TI} {g:TG} {tt:TT} {te:TE} (hN:X.N.Nodup) (hx0:X.N[i]? = some x) (hx:Loc X.env.scope x)
  (c:CompOk X scope N' cap) (hc:X.calm = true) (hit:PI X tg iter wi)
  (hg:∀ C ex s H W,PG (za9 X scope N' C ex s H W) tg g) (hk:GKp (zee cap) g) (hi:∀ C ex s H W,PIfs (za9 X scope N' C ex s H W) ifs tt) (he:∀ C ex s H W,zbE (CX1 X.prog X.w) (za9 X scope N' C ex s H W) E0->PE (za9 X scope N' C ex s H W) elt te) (hX:zdB X E0)
  (hstk:X.stack = X.env :: X.outer:=by rfl) (hfr:X.env.frame = some X.env.locals:=by rfl) (hex:X.ex = []:=by rfl)
  (hsw:swapsWith (.ListComp elt [⟨tg,iter,ifs,0⟩] scope pos) (some (.Name x px)) spos.line X.env = pure true:=by rfl)
  (hs:∀ x,foldedSetIterable iter X.env x = pure x:=by intro _; rfl) (hf:X.fn x = true ∨ X.env.scope.names.lookup x = some .local:=by first | exact .inl rfl | exact .inr rfl | assumption):PS X (.Assign [.Name x px] (.ListComp elt [⟨tg,iter,ifs,0⟩] scope pos) spos) (tAsg (zbw cap wi g tt te) (zbn i)):=by
 intro pins s σ H D0 I h
 rw [exec_Assign_Name_used _ _ _ _ hsw]
 refine wpAny_bind (wpAny_standAt (wpAny_bind ?_))
 show wpAny _ X.A (do let _ ← comprehension (.ListComp elt [⟨tg,iter,ifs,0⟩] scope pos) scope X.env _ (newList []) false (eval iter X.env) (some (assign (.Name x px) X.env))) _ _ s
 refine wpAny_bind (wpAny_mono (wpAny_comprehension_free (use:=some (assign (.Name x px) X.env)) (Q:=fun _ s'=>SP X pins D0 .next s') rfl hs (zbC (c.clos I)) c.kind c.names
  (thn (hit pins s σ H _ I h) fun v s1 h1=>thn h1 fun itv s2 h2=>?_)) (fun _ s' hq=>wpAny_pure (wpAny_pure hq)) fun _ _ e=>e)
 obtain ⟨it,fp,tn,J,H2,e,I2,T,st2,f2,q⟩:=h2
 subst e
 refine ze6 (Q:=fun v H1=>zbn i v σ H1 D0.nx) hX hstk hfr hex c hc I2 T st2 f2 hg hk hi he q (fun D C H' s' I' fC hn hq=>?_) fun D C e s' z=>z
 obtain ⟨m,hn⟩:=hn
 refine wpAny_assign_Name (zcW (v:=.ref D) I' hN hx0 hx rfl (fun s'' I'' zq_=>?_) hf)
 obtain ⟨a,sb,ha⟩:=zq_
 have hne:C ≠ a:=by
  rcases ha with z | z
  ·rw [z]; exact fC.2.1
  ·exact fun e=>fC.2.2.2.2.1 x a z e.symm
 exact ⟨m,hn.sameBut sb hne,fun h' hs'=>⟨σ.set i (some (.ref D)),H',zcQ I'' fC hs',hq⟩⟩
end
end L2
set_option Elab.async false
set_option linter.all false
set_option maxRecDepth 100000
namespace L2
open PySem PySem.Spec PyProof.Rows
noncomputable def PE1 (X:Cx) (e:Expr) (t:TE):Prop :=
 ∀ (pins:List (Addr × Obj)) (s:Shared) (σ:St) (H:Hp) (Q:VK),Inv X pins σ H s->t σ H Q->wpAny (model X.prog X.w) X.A (eval e X.env) (fun v s'=>1 ≤ s'.toks∧EP X pins σ Q v s') X.xe s
noncomputable def PA1 (X:Cx) (es:List Expr) (t:TA):Prop :=
 ∀ (pos:Pos) (pins:List (Addr × Obj)) (s:Shared) (σ:St) (H:Hp) (Q:List V->Hp->Prop),Inv X pins σ H s->t σ H Q->wpAny (model X.prog X.w) X.A (spliced (backTo pos (starEach es X.env))) (fun v s'=>1 ≤ s'.toks∧AP X pins σ Q v s') X.xe s
noncomputable def PS1 (X:Cx) (st:Stmt) (t:TS):Prop :=
 ∀ (pins:List (Addr × Obj)) (s:Shared) (σ:St) (H:Hp) (D:Ends),Inv X pins σ H s->t D σ H->wpAny (model X.prog X.w) X.A (exec st X.env) (fun f s'=>1 ≤ s'.toks∧SP X pins D f s') X.xe s
noncomputable def PSs1 (X:Cx) (st:List Stmt) (t:TS):Prop :=
 ∀ (pins:List (Addr × Obj)) (s:Shared) (σ:St) (H:Hp) (D:Ends),Inv X pins σ H s->t D σ H->wpAny (model X.prog X.w) X.A (execs st X.env) (fun f s'=>1 ≤ s'.toks∧SP X pins D f s') X.xe s
theorem zih {α:Type} {M:Model} {A:Around} {t:Sem α} {Q:α->Shared->Prop} {E:Value->Shared->Prop} {s:Shared} (hn:1 ≤ s.toks) (h:wpAny M A t Q E s):wpAny M A t (fun a s'=>1 ≤ s'.toks∧Q a s') E s:=wpAny_mono (wpAny_toks_of hn h) (fun _ _ x=>x) fun _ _ x=>x.2
section
variable {X:Cx} {e:Expr} {es:List Expr} {te:TE} {t:TA} {pos:Pos} {CX:CXT} {k:Nat} {f:Addr} {fd:FuncData} {ps:List Str} {sp:Sp} {ds:List Value} {dvs:List V} {x:Str} {p:Pos} {E:XK}
theorem zh8 {i j pos}:PE1 X (.Constant (.int i) j pos) (tC (.int i)):=fun _ _ _ H _ I h=>wpAny_Constant_int ⟨Nat.le_add_left _ _,.int i,H,I.tok _,⟨_,rfl⟩,h⟩
theorem zg1 (ha:PE1 X e te) (hr:PA X es t) (hs:starEach (e :: es) X.env = (false,eval e X.env) :: starEach es X.env:=by rfl):PA1 X (e :: es) (zch te t):=by
 intro pos pins s σ H Q I h
 rw [hs]
 show wpAny _ _ (spliced ((false,eval e X.env) :: backTo pos (starEach es X.env))) _ _ s
 refine Calls.spliced_cons (thn (ha pins s σ H _ I h) fun u s1 zq_=>?_)
 obtain ⟨tk,x,H1,I1,r1,q1⟩:=zq_
 exact thn (zih tk (hr pos pins s1 σ H1 _ I1 q1)) fun us s2 ⟨tk2,xs,H2,I2,r2,q2⟩=>⟨tk2,x :: xs,H2,I2,.cons r1 r2,q2⟩
theorem zgD (ha:PE X e te) (hr:PA1 X es t) (hs:starEach (e :: es) X.env = (false,eval e X.env) :: starEach es X.env:=by rfl):PA1 X (e :: es) (zch te t):=by
 intro pos pins s σ H Q I h
 rw [hs]
 show wpAny _ _ (spliced ((false,eval e X.env) :: backTo pos (starEach es X.env))) _ _ s
 refine Calls.spliced_cons (thn (ha pins s σ H _ I h) fun u s1 zq_=>?_)
 obtain ⟨x,H1,I1,r1,q1⟩:=zq_
 exact thn (hr pos pins s1 σ H1 _ I1 q1) fun us s2 ⟨tk2,xs,H2,I2,r2,q2⟩=>⟨tk2,x :: xs,H2,I2,.cons r1 r2,q2⟩
theorem zgy (F:FnOk X.prog X.w X.K X.mg X.base CX k f fd ps sp) (hr:Room k X.A) (hg:Gl X x) (hm:X.mg x = some (.ref f)) (hk:PySem.W.keepIn X.K (.ref f) = true) (hb:zaK X.K fd ps ds) (hd:Vals dvs ds) (hx:zbE CX X E)
  (ha:PA1 X (e :: es) t) (hdb:(x == ("__debug__":Str)) = false:=by decide) (he:starEach (e :: es) X.env = (false,eval e X.env) :: starEach es X.env:=by rfl) (hpl:(backTo pos (starEach es X.env)).any (·.1) = false:=by rfl) :
  PE1 X (.Call (.Name x p) (e :: es) [] pos) (ze5 sp dvs E t):=by
 intro pins s σ H Q I h
 refine wpAny_Call_Name_kw (zbG I hg hm ?_ hdb)
 refine PySem.W.callWith_K (h₀:=X.base) I.ok.mod.kin hk (thn (ha pos pins s σ H _ I h) fun us s1 ⟨tk,vs,H1,I1,r,q⟩=>⟨I1.kIn,?_⟩) he hpl
 exact zih tk (zgn F hr hb hd hx I1 r q)
end
section
variable {X:Cx} {st:Stmt} {rest:List Stmt} {t u:TS} {pos:Pos}
theorem zii {i:Nat} {x:Str} {e:Expr} {te:TE} {pos':Pos} (hN:X.N.Nodup) (hi:X.N[i]? = some x) (hx:Loc X.env.scope x) (he:PE1 X e te) (hs:swapsWith e (some (.Name x pos')) pos.line X.env = pure false:=by rfl) (hf:X.fn x = true ∨ X.env.scope.names.lookup x = some .local:=by first | exact .inl rfl | exact .inr rfl | assumption) :
  PS1 X (.Assign [.Name x pos'] e pos) (tAsg te (zbn i)):=by
 intro pins s σ H D I h
 refine wpAny_Assign_Name (thn (he pins s σ H _ I h) fun v s1 zq_=>?_) hs
 obtain ⟨tk,y,H1,I1,r1,q1⟩:=zq_
 exact wpAny_with_toks tk (zcG I1 hN hi hx r1 (fun s2 I2 tk2=>⟨tk2,_,H1,I2,q1⟩) hf)
theorem zgq (h1:PS1 X st t) (h2:PSs X rest u):PSs1 X (st :: rest) (tSeq t u):=by
 intro pins s σ H D I h
 refine wpAny_execs_cons (thn (h1 pins s σ H { D with nx:=u D } I h) fun f s1 q=>?_)
 obtain ⟨tk,q⟩:=q
 cases f with
 | next =>
  obtain ⟨σ',H',I',q⟩:=q
  exact zih tk (h2 pins s1 σ' H' D I' q)
 | ret v=>exact ⟨tk,q⟩
 | brk=>exact ⟨tk,q⟩
 | cont=>exact ⟨tk,q⟩
theorem PSs1.nox {st:List Stmt} {t:TS} (h:PSs1 X.nox st t):PSs1 X st t:=fun pins s σ H D I hw =>
 wpAny_mono (h pins s σ H D (I.wish _) hw) (fun _ _ q=>⟨q.1,q.2.unwish⟩) fun _ _ z=>False.elim z
end
structure FnOk1 (P:Program) (w:World) (K:PySem.W.Frag) (mg:Str->Option Value) (base:Heap) (CX:CXT) (k:Nat) (f:Addr) (fd:FuncData) (ps:List Str) (sp:Sp):Prop where
 len:∀ vs H Q E,sp vs H Q E->vs.length = ps.length
 run:∀ (A:Around) (outer:List Env) (s:Shared) (H:Hp) (args:Args) (us:List Value) (vs:List V) (Q:VK) (E:XK),Room k A->Env0 P w K mg base A outer s H->BindsTo s fd args (ps.zip us)->Vals vs us->sp vs H Q E ->
  codeAny (model P w) A (.call (.ref f) args) (fun r s'=>(∀ u,r = .ok (.ret u)->1 ≤ s'.toks)∧CR CX outer P w H s Q E r s') s
theorem zjn {CX:CXT} {P:Program} {w:World} {K:PySem.W.Frag} {mg:Str->Option Value} {base:Heap} {k:Nat} {f:Addr} {name qual:Str} {params:Arguments} {body:List Stmt} {scope:Scope} {dV kV doc pm cdv ct oc:Value} {an od:Option Addr}
  {osl:Array (Option Value)} {N ps:List Str} {sp:Sp} (lk:K.lookup f = some ⟨oc,od,.func (PySem.W.fnOf name qual params body scope dV kV doc pm an cdv ct),osl⟩) (hcd:PySem.W.codeIn K cdv qual = true) (S:FnScope N ps scope)
  (len:∀ vs H Q E,sp vs H Q E->vs.length = ps.length)
  (hbody:∀ (A:Around) (outer:List Env) (s:Shared) (H:Hp) (vs:List V) (Q:VK) (E:XK),Room k (A.deeper (envOfC qual scope s.heap.objs.size f cdv))->sp vs H Q E ->
   ∃ t,PSs1 (cxOf CX P w K mg base N qual scope f cdv A outer s H E) body t∧t { nx:=fun _ H'=>Q .non H',rt:=Q } (start N vs) H) :
  FnOk1 P w K mg base CX (k + 1) f (PySem.W.fnOf name qual params body scope dV kV doc pm an cdv ct) ps sp:=by
 refine ⟨len,fun A outer s H args us vs Q E hr e0 hb r hsp=>?_⟩
 have hl:=len _ _ _ _ hsp
 have KX:K.In s.heap:=e0.mod.kin.keeps fun b o e=>(e0.bs b o e).1
 have lim:s.heap.NoLimit:=e0.mod.nolimit.keeps fun b o e=>(e0.bs b o e).1
 have hkind:∀ y ∈ ps.zip us,scope.names.lookup y.1 = some .local ∨ (scope.names.lookup y.1 = some .cell∧((cellsFrom (s.heap.objs.size + 1) scope.names []).lookup y.1).isSome = true):=fun ⟨n,v⟩ hy=>by
  rcases S.par n (List.of_mem_zip hy).1 with q | q
  ·exact .inl q
  ·exact .inr ⟨q,PySem.W.cellsFrom_some _ _ _ (.inl q)⟩
 refine codeAny_call_function hr.depth (KX _ _ lk) rfl S.co S.gen rfl (PySem.W.codeRec_of KX hcd) (hb _ _ _ _ ?_)
 refine wpAny_newFunctionEnv_cells S.kind hkind fun env he s1 x=>?_
 subst he
 refine ⟨lim.keeps x.toInCall.keep,codeAny_func ?_⟩
 obtain ⟨t,ht,hq⟩:=hbody A outer s H vs Q E (hr.deeper _) hsp
 have I:Inv (cxOf CX P w K mg base N qual scope f cdv A outer s H E) [] (start N vs) H s1:=zdQ S hr.hd e0 hl r x
 refine wpAny_mono (ht [] s1 (start N vs) H _ I hq) (fun fl s' hs=>?_) fun e s' hs=>wpAny_mono hs (fun _ _ q=>⟨fun u z=>(by cases z),q⟩) fun _ _ q=>⟨fun u z=>(by cases z),q⟩
 obtain ⟨tk,hs⟩:=hs
 have fin:∀ {σ':St} {H':Hp} {v:V} {u:Value},Inv (cxOf CX P w K mg base N qual scope f cdv A outer s H E) [] σ' H' s'->RelV v u->Q v H'->CE outer P w H s Q u s' :=
  fun {σ' H' v u} J rv q=>⟨v,H',J.os,J.bare,J.base,J.hok,rv,q⟩
 cases fl with
 | ret u =>
  obtain ⟨v,σ',H',J,rv,q⟩:=hs
  exact ⟨fun _ _=>tk,fin J rv q⟩
 | next =>
  obtain ⟨σ',H',J,q⟩:=hs
  exact ⟨fun _ _=>tk,fin (v:=V.non) (u:=Value.none) J rfl q⟩
 | brk =>
  obtain ⟨_,_,_,q⟩:=hs
  exact False.elim q
 | cont =>
  obtain ⟨_,_,_,q⟩:=hs
  exact False.elim q
section
variable {P:Program} {w:World} {K:PySem.W.Frag} {mg:Str->Option Value} {base:Heap}
theorem Fun.okC1 {CX:CXT} {x qual:Str} {st:Stmt} {f:Addr} {fd:FuncData} {N ps:List Str} {k:Nat} {sp:Sp} (F:Fun K x qual st f fd) (S:FnScope N ps (zap st)) (len:∀ vs H Q E,sp vs H Q E->vs.length = ps.length)
  (hbody:∀ (cdv:Value) (A:Around) (outer:List Env) (s:Shared) (H:Hp) (vs:List V) (Q:VK) (E:XK),Room k (A.deeper (envOfC qual (zap st) s.heap.objs.size f cdv))->sp vs H Q E ->
   ∃ t,PSs1 (cxOf CX P w K mg base N qual (zap st) f cdv A outer s H E).nox (zbY st) t∧t { nx:=fun _ H'=>Q .non H',rt:=Q } (start N vs) H):FnOk1 P w K mg base CX (k + 1) f fd ps sp:=by
 obtain ⟨oc,od,kV,doc,pm,an,cdv,ct,osl,rfl,lk,hcd⟩:=F.ex
 refine zjn lk hcd S len fun A outer s H vs Q E hr hsp=>?_
 obtain ⟨t,h,q⟩:=hbody cdv A outer s H vs Q E hr hsp
 exact ⟨t,h.nox,q⟩
theorem FnOk1.ok {CX:CXT} {k:Nat} {f:Addr} {fd:FuncData} {ps:List Str} {sp:Sp} (F:FnOk1 P w K mg base CX k f fd ps sp):FnOk P w K mg base CX k f fd ps sp :=
 ⟨F.len,fun A outer s H args us vs Q E h1 h2 h3 h4 h5=>codeAny_mono (F.run A outer s H args us vs Q E h1 h2 h3 h4 h5) fun r s' h=>h.2⟩
end
section
variable {X:Cx} {e:Expr} {es:List Expr} {te:TE} {t:TA} {pos:Pos} {CX:CXT} {k:Nat} {f:Addr} {fd:FuncData} {ps:List Str} {sp:Sp} {ds:List Value} {dvs:List V} {x:Str} {p:Pos} {E:XK}
theorem ziv {pins:List (Addr × Obj)} {σ:St} {H:Hp} {s:Shared} {Q:VK} {us:List Value} {vs:List V} (F:FnOk1 X.prog X.w X.K X.mg X.base CX k f fd ps sp) (hr:Room k X.A) (hb:zaK X.K fd ps ds) (hd:Vals dvs ds) (hx:zbE CX X E)
  (I:Inv X pins σ H s) (r:Vals vs us) (h:sp (vs ++ dvs) H Q E):wpAny (model X.prog X.w) X.A (call (.ref f) us) (fun v s'=>1 ≤ s'.toks∧EP X pins σ Q v s') X.xe s:=by
 have r2:Vals (vs ++ dvs) (us ++ ds):=r.append hd
 have hl:(us ++ ds).length = ps.length:=by rw [← r2.length]; exact F.len _ _ _ _ h
 refine wpAny_call (codeAny_mono (F.run X.A X.stack s H ⟨us,[]⟩ (us ++ ds) (vs ++ dvs) Q E hr I.env0 (hb s us I.kIn hl) r2 h) fun r s' hq=>?_)
 obtain ⟨tk,hq⟩:=hq
 cases r with
 | error e=>exact hx pins σ H s e s' I hq
 | ok fl =>
  cases fl with
  | ret u=>exact ⟨tk _ rfl,I.after hq⟩
  | next=>exact False.elim hq
  | brk=>exact False.elim hq
  | cont=>exact False.elim hq
theorem zf3 (F:FnOk1 X.prog X.w X.K X.mg X.base CX k f fd ps sp) (hr:Room k X.A) (hg:Gl X x) (hm:X.mg x = some (.ref f)) (hk:PySem.W.keepIn X.K (.ref f) = true) (hb:zaK X.K fd ps ds) (hd:Vals dvs ds) (hx:zbE CX X E)
  (ha:PA X (e :: es) t) (hdb:(x == ("__debug__":Str)) = false:=by decide) (he:starEach (e :: es) X.env = (false,eval e X.env) :: starEach es X.env:=by rfl) (hpl:(backTo pos (starEach es X.env)).any (·.1) = false:=by rfl) :
  PE1 X (.Call (.Name x p) (e :: es) [] pos) (ze5 sp dvs E t):=by
 intro pins s σ H Q I h
 refine wpAny_Call_Name_kw (zbG I hg hm ?_ hdb)
 refine PySem.W.callWith_K (h₀:=X.base) I.ok.mod.kin hk (thn (ha pos pins s σ H _ I h) fun us s1 ⟨vs,H1,I1,r,q⟩=>⟨I1.kIn,?_⟩) he hpl
 exact ziv F hr hb hd hx I1 r q
end
section
variable {X:Cx} {o:Expr} {to:TE} {apos cpos:Pos}
noncomputable def zjj (y z:Str) (to:TE):TE:=fun σ H Q=>to σ H fun x H1=>∃ xs,x = .str xs∧xs.length + (xs.length + 1) * z.length ≤ 16777216∧Q (.str (PySem.Txt.replace xs y z)) H1
theorem zhS {y z:Str} {j1 j2:Nat} {p1 p2:Pos} (hyz:(y == z) = false) (ho:PE1 X o to)
  (hbase:attributeBase o "replace" X.env (eval o X.env) = eval o X.env:=by rfl)
  (hfew:((backTo cpos (starEach [.Constant (.str y) j1 p1,.Constant (.str z) j2 p2] X.env)).all (fun x=>!x.1) && (backToKw cpos (keywordEach [] X.env)).all (fun x=>x.1.isSome)
   && decide (([.Constant (.str y) j1 p1,.Constant (.str z) j2 p2]:List Expr).length + ([]:List Keyword).length + (if ([]:List Keyword).isEmpty then 0 else 1) < 30)) = true:=by rfl)
  (hline:(apos.endLine == cpos.line) = true:=by rfl) :
  PE X (.Call (.Attribute o "replace" apos) [.Constant (.str y) j1 p1,.Constant (.str z) j2 p2] [] cpos) (zjj y z to):=by
 intro pins s σ H Q I h
 refine wpAny_Call_method_late hbase hfew hline rfl (thn (ho pins s σ H _ I h) fun v s1 zq_=>?_)
 obtain ⟨tk,x,H1,I1,r1,xs,e1,hl,q1⟩:=zq_
 subst e1
 obtain ⟨t,rfl⟩:=r1
 refine ⟨"str","str.replace",F.plainAttrs_str,F.slot_str_replace,F.type_str_replace,?_,?_,?_⟩
 ·exact typeIs_str _ _ _
 ·exact fun b z=>(by cases z)
 ·refine Calls.callWith_builtin rfl (Calls.evalArgs_plain ?_)
  show wpAny _ _ (spliced ((false,eval (.Constant (.str y) j1 p1) X.env) :: backTo cpos (starEach [.Constant (.str z) j2 p2] X.env))) _ _ s1
  refine Calls.spliced_cons (wpAny_Constant_str (k:=j1) (pos:=p1) ?_)
  refine Calls.spliced_cons (wpAny_Constant_str (k:=j2) (pos:=p2) ?_)
  refine Calls.spliced_nil ?_
  refine SC.replace (by show s1.toks ≠ 0; omega) (by show s1.toks + 1 ≠ 0; omega) (by show s1.toks ≠ s1.toks + 1; omega) hyz hl fun t' k=>?_
  exact ⟨.str (PySem.Txt.replace xs y z),H1,I1.tok k,⟨t',rfl⟩,q1⟩
end
section
variable {X:Cx}
noncomputable def rUpper:V->List V->Hp->VK->Prop:=fun x xs H Q=>∃ z,x = .str z∧xs = []∧PySem.Builtin.Str.tooLong (PySem.Txt.upper z).length = false∧Q (.str (PySem.Txt.upper z)) H
theorem mt_upper:MtR X "str.upper" rUpper:=by
 intro pins s σ H x xs v us Q I rx rs h
 obtain ⟨z,rfl,rfl,hf,q⟩:=h
 obtain ⟨t,rfl⟩:=rx
 cases rs
 exact SC.upper hf ⟨.str (PySem.Txt.upper z),H,I.tok _,⟨_,rfl⟩,q⟩
end
theorem upper_asc:∀ (l:List Nat),(∀ c ∈ l,c < 128)->(PySem.Txt.upper ⟨l.toArray⟩).length = l.length∧∀ c ∈ (PySem.Txt.upper ⟨l.toArray⟩).cps.toList,c < 128
 | [],_=>⟨by decide +kernel,by decide +kernel⟩
 | c :: l,h=>by
  obtain ⟨h1,h2⟩:=upper_asc l fun x hx=>h x (List.mem_cons_of_mem _ hx)
  have hc:=h c (List.mem_cons_self ..)
  have e:(⟨(c :: l).toArray⟩:Str) = (⟨#[c]⟩:Str) ++ ⟨l.toArray⟩:=by
   refine PySem.Str.ext' ?_
   rw [PySem.Str.cps_append]
   simp
  rw [e,PySem.W.KOpn.upper_app,PySem.W.KOpn.upper_one hc]
  constructor
  ·show ((⟨#[if 97 ≤ c∧c ≤ 122 then c - 32 else c]⟩:Str) ++ PySem.Txt.upper ⟨l.toArray⟩).cps.size = _
   rw [PySem.Str.cps_append,Array.size_append]
   have:(PySem.Txt.upper ⟨l.toArray⟩).cps.size = l.length:=h1
   rw [this,List.length_cons]
   show 1 + l.length = _
   omega
  ·intro x hx
   rw [PySem.Str.cps_append,Array.toList_append] at hx
   rcases List.mem_append.mp hx with hx | hx
   ·have:x = if 97 ≤ c∧c ≤ 122 then c - 32 else c:=by simpa using hx
    rw [this]
    split <;> omega
   ·exact h2 x hx
end L2
set_option Elab.async false
set_option linter.all false
set_option maxRecDepth 100000
namespace L2
theorem lq1 (us:List PySem.Value) (h:us.length=1):∃ a,us=[a]:=by
 cases us with
 | nil=>cases h
 | cons a us=>cases us with
  | nil=>exact ⟨a,rfl⟩
  | cons b us=>exact absurd h (by simp)
theorem lqS {n:Nat} (us:List PySem.Value) (h:us.length=n+1):∃ a vs,us=a::vs∧vs.length=n:=by
 cases us with
 | nil=>cases h
 | cons a us=>exact ⟨a,us,rfl,Nat.succ.inj h⟩
theorem lq2 (us:List PySem.Value) (h:us.length=2):∃ a b,us=[a,b]:=by
 obtain ⟨a,vs,rfl,q⟩:=lqS us h
 obtain ⟨b,rfl⟩:=lq1 vs q
 exact ⟨a,b,rfl⟩
theorem lq3 (us:List PySem.Value) (h:us.length=3):∃ a b c,us=[a,b,c]:=by
 obtain ⟨a,vs,rfl,q⟩:=lqS us h
 obtain ⟨b,c,rfl⟩:=lq2 vs q
 exact ⟨a,b,c,rfl⟩
theorem lq4 (us:List PySem.Value) (h:us.length=4):∃ a b c d,us=[a,b,c,d]:=by
 obtain ⟨a,vs,rfl,q⟩:=lqS us h
 obtain ⟨b,c,d,rfl⟩:=lq3 vs q
 exact ⟨a,b,c,d,rfl⟩
theorem lq5 (us:List PySem.Value) (h:us.length=5):∃ a b c d e,us=[a,b,c,d,e]:=by
 obtain ⟨a,vs,rfl,q⟩:=lqS us h
 obtain ⟨b,c,d,e,rfl⟩:=lq4 vs q
 exact ⟨a,b,c,d,e,rfl⟩
theorem lq6 (us:List PySem.Value) (h:us.length=6):∃ a b c d e f,us=[a,b,c,d,e,f]:=by
 obtain ⟨a,vs,rfl,q⟩:=lqS us h
 obtain ⟨b,c,d,e,f,rfl⟩:=lq5 vs q
 exact ⟨a,b,c,d,e,f,rfl⟩
end L2
namespace Law
open PySem L2
local macro_rules | `(tactic| simp! [$ls,*])=>`(tactic| simp only [tSeq,tAsg,zbn,tVar,tC,tOp,tUn,rI0,rI,rU,tCB,zch,tNil,tRet,tRetN,tIfS,zf0,tB,tAnd,tOr,tNot,ziI,tOrV,zi0,tIf,zgC,tNext,ze5,tMeth,tIsN,ziQ,L2.start,List.map_cons,List.map_nil,List.length_cons,List.length_nil,List.nil_append,List.cons_append,List.append_nil,Nat.reduceAdd,Nat.reduceSub,Nat.sub_self,List.replicate_succ,List.replicate_zero,List.set_cons_zero,List.set_cons_succ,List.getElem?_cons_zero,List.getElem?_cons_succ,Option.some.injEq,V.int.injEq,V.bl.injEq,V.str.injEq,V.ref.injEq,List.cons.injEq,exists_eq_left',exists_eq_left,exists_and_left,and_true,true_and,if_true,if_false,ite_true,ite_false,Bool.true_eq_false,Bool.false_eq_true,decide_eq_true_eq,Bool.not_true,Bool.not_false,Bool.not_eq_true',decide_eq_false_iff_not,reduceCtorEq,false_and,and_false,exists_false,tTup,tLst,sizeLine_eq,Nat.reduceLeDiff,Nat.zero_le,rEq,rNe,rIxF,rEqF,gSub,rSetL,HO.lst.injEq,HO.tup.injEq,HO.ins.injEq,HO.dK.injEq,zgJ,zh0,zgH,zin,zis,zi1,zim,zhV,zcC,zil,zha,zhQ,zh1,zib,ziC,zgZ,zgW,zg5,zgS,zgO,zhj,zgh,zfy,zfw,isTys,and_assoc,zc4,zdC,zdZ,ze4,atI_4,zad,V.ty.injEq,eq_self_iff_true,and_self,String.reduceEq,or_false,or_true,false_or,true_or,Bool.or_true,Bool.or_false,Bool.true_or,Bool.false_or,Bool.and_false,Bool.false_and,Bool.and_true,Bool.true_and,String.reduceBEq,beq_self_eq_true,zhB,tDInF,zgQ,ziM,zgb,zd3,sFld,tFld,tDNewK,zhJ,ziU,EX,tFstr,tMake,zjr,Nat.reduceLT,Option.join_some,Option.join_none,not_true_eq_false,not_false_eq_true,zjs,gNil,zhu,rEqE,tAug,ipI,$ls,*])
noncomputable def kd_PARTS:PyData:=.dict [(.str "put",.str "pn"),(.str "nil",.str "p"),(.str "copy",.str "pp"),(.str "plus",.str "ppp"),(.str "less",.str "ppp"),(.str "make",.str "pkk"),(.str "fetch",.str "ppk"),(.str "read",.str "ppk"),(.str "hang",.str "pkp"),(.str "write",.str "pkp"),(.str "into",.str "ppk"),(.str "look",.str "ppp"),(.str "lay",.str "ppp"),(.str "jump",.str "t"),(.str "zero",.str "pt"),(.str "none",.str "pt"),(.str "same",.str "ppt"),(.str "call",.str "pfq"),(.str "back",.str "p"),(.str "tell",.str "p"),(.str "rest",.str "")]
noncomputable def top (i : Nat) : Stmt := PySem.Challenge.pw_knownholds_k17_texts_that_are_none.main.body.getD i (.Pass ⟨0, 0, 0, 0⟩)
noncomputable abbrev s_parts_of:Stmt:=top 10
noncomputable abbrev s_read_whole:Stmt:=top 14
noncomputable abbrev s_read_takes:Stmt:=top 15
noncomputable abbrev s_read_head:Stmt:=top 16
noncomputable abbrev s_read_row:Stmt:=top 17
noncomputable abbrev s_read:Stmt:=top 18
noncomputable abbrev s_law_bag:Stmt:=top 20
noncomputable abbrev s_law_draw:Stmt:=top 21
noncomputable abbrev s_law_letters:Stmt:=top 22
noncomputable abbrev s_law_number:Stmt:=top 23
noncomputable abbrev s_law_part:Stmt:=top 24
noncomputable abbrev s_law_row:Stmt:=top 25
noncomputable abbrev s_law_rows:Stmt:=top 26
noncomputable abbrev s_law_signs:Stmt:=top 27
noncomputable abbrev s_law_program:Stmt:=top 28
noncomputable abbrev s_law_wild_row:Stmt:=top 29
noncomputable abbrev s_law_wild:Stmt:=top 30
noncomputable abbrev s_law_written:Stmt:=top 31
noncomputable abbrev s_law_any_sign:Stmt:=top 32
noncomputable abbrev s_law_run:Stmt:=top 33
noncomputable abbrev s_law_bent_text:Stmt:=top 34
noncomputable abbrev s_law_bent_lines:Stmt:=top 35
noncomputable abbrev s_law_drawn_word:Stmt:=top 36
noncomputable abbrev s_law_each_line:Stmt:=top 37
noncomputable abbrev s_law_spoilt:Stmt:=top 38
noncomputable abbrev s_law_value:Stmt:=top 39
noncomputable abbrev s_law_head:Stmt:=top 40
noncomputable abbrev s_law_line:Stmt:=top 41
noncomputable abbrev s_law_program_of:Stmt:=top 42
noncomputable abbrev s_law_read:Stmt:=top 43
noncomputable abbrev s_law_alike:Stmt:=top 44
noncomputable abbrev s_law:Stmt:=top 45
set_option genInjectivity false in
set_option genSizeOf false in
structure Ad where
 f_parts_of:Addr
 d_parts_of:FuncData
 f_read_whole:Addr
 d_read_whole:FuncData
 f_read_takes:Addr
 d_read_takes:FuncData
 f_read_head:Addr
 d_read_head:FuncData
 f_read_row:Addr
 d_read_row:FuncData
 f_read:Addr
 d_read:FuncData
 f_law_bag:Addr
 d_law_bag:FuncData
 f_law_draw:Addr
 d_law_draw:FuncData
 f_law_letters:Addr
 d_law_letters:FuncData
 f_law_number:Addr
 d_law_number:FuncData
 f_law_part:Addr
 d_law_part:FuncData
 f_law_row:Addr
 d_law_row:FuncData
 f_law_rows:Addr
 d_law_rows:FuncData
 f_law_signs:Addr
 d_law_signs:FuncData
 f_law_program:Addr
 d_law_program:FuncData
 f_law_wild_row:Addr
 d_law_wild_row:FuncData
 f_law_wild:Addr
 d_law_wild:FuncData
 f_law_written:Addr
 d_law_written:FuncData
 f_law_any_sign:Addr
 d_law_any_sign:FuncData
 f_law_run:Addr
 d_law_run:FuncData
 f_law_bent_text:Addr
 d_law_bent_text:FuncData
 f_law_bent_lines:Addr
 d_law_bent_lines:FuncData
 f_law_drawn_word:Addr
 d_law_drawn_word:FuncData
 f_law_each_line:Addr
 d_law_each_line:FuncData
 f_law_spoilt:Addr
 d_law_spoilt:FuncData
 f_law_value:Addr
 d_law_value:FuncData
 f_law_head:Addr
 d_law_head:FuncData
 f_law_line:Addr
 d_law_line:FuncData
 f_law_program_of:Addr
 d_law_program_of:FuncData
 f_law_read:Addr
 d_law_read:FuncData
 f_law_alike:Addr
 d_law_alike:FuncData
 f_law:Addr
 d_law:FuncData
 c_NoText:Addr
 c_HoldError:Addr
 c_NoSpot:Addr
 c_NoThing:Addr
 c_NotFormed:Addr
 c_NoTable:Addr
 c_Faulty:Addr
 t_FIGURES:Nat
 t_MOST_FIGURES:Nat
 g_PARTS:Addr
structure Txt (K:PySem.W.Frag) (mg:Str->Option Value) (a:Ad):Prop where
 x_NoText:XCls K a.c_NoText
 m_NoText:mg "NoText" = some (.ref a.c_NoText)
 m_HoldError:mg "HoldError" = some (.ref a.c_HoldError)
 m_NoSpot:mg "NoSpot" = some (.ref a.c_NoSpot)
 m_NoThing:mg "NoThing" = some (.ref a.c_NoThing)
 m_NotFormed:mg "NotFormed" = some (.ref a.c_NotFormed)
 m_NoTable:mg "NoTable" = some (.ref a.c_NoTable)
 m_Faulty:mg "Faulty" = some (.ref a.c_Faulty)
 xt:HT.XTab K a.c_HoldError [a.c_HoldError,a.c_NoSpot,a.c_NoThing,a.c_NoText,a.c_NotFormed,a.c_NoTable,a.c_Faulty]
 F_parts_of:Fun K "parts_of" "parts_of" s_parts_of a.f_parts_of a.d_parts_of
 b_parts_of:zaK K a.d_parts_of ["word"] []
 m_parts_of:mg "parts_of" = some (.ref a.f_parts_of)
 F_read_whole:Fun K "read_whole" "read_whole" s_read_whole a.f_read_whole a.d_read_whole
 b_read_whole:zaK K a.d_read_whole ["text","most"] []
 m_read_whole:mg "read_whole" = some (.ref a.f_read_whole)
 F_read_takes:Fun K "read_takes" "read_takes" s_read_takes a.f_read_takes a.d_read_takes
 b_read_takes:zaK K a.d_read_takes ["part"] []
 m_read_takes:mg "read_takes" = some (.ref a.f_read_takes)
 F_read_head:Fun K "read_head" "read_head" s_read_head a.f_read_head a.d_read_head
 b_read_head:zaK K a.d_read_head ["parts"] []
 m_read_head:mg "read_head" = some (.ref a.f_read_head)
 F_read_row:Fun K "read_row" "read_row" s_read_row a.f_read_row a.d_read_row
 b_read_row:zaK K a.d_read_row ["parts"] []
 m_read_row:mg "read_row" = some (.ref a.f_read_row)
 F_read:Fun K "read" "read" s_read a.f_read a.d_read
 b_read:zaK K a.d_read ["text"] []
 m_read:mg "read" = some (.ref a.f_read)
 F_law_bag:Fun K "_law_bag" "_law_bag" s_law_bag a.f_law_bag a.d_law_bag
 b_law_bag:zaK K a.d_law_bag ["script"] []
 m_law_bag:mg "_law_bag" = some (.ref a.f_law_bag)
 F_law_draw:Fun K "_law_draw" "_law_draw" s_law_draw a.f_law_draw a.d_law_draw
 b_law_draw:zaK K a.d_law_draw ["bag","many"] []
 m_law_draw:mg "_law_draw" = some (.ref a.f_law_draw)
 F_law_letters:Fun K "_law_letters" "_law_letters" s_law_letters a.f_law_letters a.d_law_letters
 b_law_letters:zaK K a.d_law_letters [] []
 m_law_letters:mg "_law_letters" = some (.ref a.f_law_letters)
 F_law_number:Fun K "_law_number" "_law_number" s_law_number a.f_law_number a.d_law_number
 b_law_number:zaK K a.d_law_number ["bag"] []
 m_law_number:mg "_law_number" = some (.ref a.f_law_number)
 F_law_part:Fun K "_law_part" "_law_part" s_law_part a.f_law_part a.d_law_part
 b_law_part:zaK K a.d_law_part ["bag","letter","words","many","signs"] []
 m_law_part:mg "_law_part" = some (.ref a.f_law_part)
 F_law_row:Fun K "_law_row" "_law_row" s_law_row a.f_law_row a.d_law_row
 b_law_row:zaK K a.d_law_row ["bag","word","words","many","signs"] []
 m_law_row:mg "_law_row" = some (.ref a.f_law_row)
 F_law_rows:Fun K "_law_rows" "_law_rows" s_law_rows a.f_law_rows a.d_law_rows
 b_law_rows:zaK K a.d_law_rows ["bag","words","many","signs"] []
 m_law_rows:mg "_law_rows" = some (.ref a.f_law_rows)
 F_law_signs:Fun K "_law_signs" "_law_signs" s_law_signs a.f_law_signs a.d_law_signs
 b_law_signs:zaK K a.d_law_signs ["bag","many"] []
 m_law_signs:mg "_law_signs" = some (.ref a.f_law_signs)
 F_law_program:Fun K "_law_program" "_law_program" s_law_program a.f_law_program a.d_law_program
 b_law_program:zaK K a.d_law_program ["bag"] []
 m_law_program:mg "_law_program" = some (.ref a.f_law_program)
 F_law_wild_row:Fun K "_law_wild_row" "_law_wild_row" s_law_wild_row a.f_law_wild_row a.d_law_wild_row
 b_law_wild_row:zaK K a.d_law_wild_row ["bag"] []
 m_law_wild_row:mg "_law_wild_row" = some (.ref a.f_law_wild_row)
 F_law_wild:Fun K "_law_wild" "_law_wild" s_law_wild a.f_law_wild a.d_law_wild
 b_law_wild:zaK K a.d_law_wild ["bag"] []
 m_law_wild:mg "_law_wild" = some (.ref a.f_law_wild)
 F_law_written:Fun K "_law_written" "_law_written" s_law_written a.f_law_written a.d_law_written
 b_law_written:zaK K a.d_law_written ["program"] []
 m_law_written:mg "_law_written" = some (.ref a.f_law_written)
 F_law_any_sign:Fun K "_law_any_sign" "_law_any_sign" s_law_any_sign a.f_law_any_sign a.d_law_any_sign
 b_law_any_sign:zaK K a.d_law_any_sign ["bag"] []
 m_law_any_sign:mg "_law_any_sign" = some (.ref a.f_law_any_sign)
 F_law_run:Fun K "_law_run" "_law_run" s_law_run a.f_law_run a.d_law_run
 b_law_run:zaK K a.d_law_run ["bag"] []
 m_law_run:mg "_law_run" = some (.ref a.f_law_run)
 F_law_bent_text:Fun K "_law_bent_text" "_law_bent_text" s_law_bent_text a.f_law_bent_text a.d_law_bent_text
 b_law_bent_text:zaK K a.d_law_bent_text ["text","pick","bag"] []
 m_law_bent_text:mg "_law_bent_text" = some (.ref a.f_law_bent_text)
 F_law_bent_lines:Fun K "_law_bent_lines" "_law_bent_lines" s_law_bent_lines a.f_law_bent_lines a.d_law_bent_lines
 b_law_bent_lines:zaK K a.d_law_bent_lines ["text","pick"] []
 m_law_bent_lines:mg "_law_bent_lines" = some (.ref a.f_law_bent_lines)
 F_law_drawn_word:Fun K "_law_drawn_word" "_law_drawn_word" s_law_drawn_word a.f_law_drawn_word a.d_law_drawn_word
 b_law_drawn_word:zaK K a.d_law_drawn_word ["text","pick","bag"] []
 m_law_drawn_word:mg "_law_drawn_word" = some (.ref a.f_law_drawn_word)
 F_law_each_line:Fun K "_law_each_line" "_law_each_line" s_law_each_line a.f_law_each_line a.d_law_each_line
 b_law_each_line:zaK K a.d_law_each_line ["text","pick","bag"] []
 m_law_each_line:mg "_law_each_line" = some (.ref a.f_law_each_line)
 F_law_spoilt:Fun K "_law_spoilt" "_law_spoilt" s_law_spoilt a.f_law_spoilt a.d_law_spoilt
 b_law_spoilt:zaK K a.d_law_spoilt ["text","pick","bag"] []
 m_law_spoilt:mg "_law_spoilt" = some (.ref a.f_law_spoilt)
 F_law_value:Fun K "_law_value" "_law_value" s_law_value a.f_law_value a.d_law_value
 b_law_value:zaK K a.d_law_value ["text","most"] []
 m_law_value:mg "_law_value" = some (.ref a.f_law_value)
 F_law_head:Fun K "_law_head" "_law_head" s_law_head a.f_law_head a.d_law_head
 b_law_head:zaK K a.d_law_head ["some"] []
 m_law_head:mg "_law_head" = some (.ref a.f_law_head)
 F_law_line:Fun K "_law_line" "_law_line" s_law_line a.f_law_line a.d_law_line
 b_law_line:zaK K a.d_law_line ["some"] []
 m_law_line:mg "_law_line" = some (.ref a.f_law_line)
 F_law_program_of:Fun K "_law_program_of" "_law_program_of" s_law_program_of a.f_law_program_of a.d_law_program_of
 b_law_program_of:zaK K a.d_law_program_of ["text"] []
 m_law_program_of:mg "_law_program_of" = some (.ref a.f_law_program_of)
 F_law_read:Fun K "_law_read" "_law_read" s_law_read a.f_law_read a.d_law_read
 b_law_read:zaK K a.d_law_read ["text"] []
 m_law_read:mg "_law_read" = some (.ref a.f_law_read)
 F_law_alike:Fun K "_law_alike" "_law_alike" s_law_alike a.f_law_alike a.d_law_alike
 b_law_alike:zaK K a.d_law_alike ["found","due"] []
 m_law_alike:mg "_law_alike" = some (.ref a.f_law_alike)
 F_law:Fun K "law" "law" s_law a.f_law a.d_law
 b_law:zaK K a.d_law ["script"] []
 m_law:mg "law" = some (.ref a.f_law)
 z_ValueError:mg "ValueError" = none
 z_abs:mg "abs" = none
 z_all:mg "all" = none
 z_bool:mg "bool" = none
 z_int:mg "int" = none
 z_isinstance:mg "isinstance" = none
 z_len:mg "len" = none
 z_list:mg "list" = none
 z_range:mg "range" = none
 z_str:mg "str" = none
 z_tuple:mg "tuple" = none
 m_FIGURES:mg "FIGURES" = some (.str "0123456789" a.t_FIGURES)
 m_MOST_FIGURES:mg "MOST_FIGURES" = some (.int (60) a.t_MOST_FIGURES)
 m_PARTS:mg "PARTS" = some (.ref a.g_PARTS)
 k_PARTS:rdK K 6 (.ref a.g_PARTS) = some kd_PARTS
theorem sc_parts_of:FnScope ["word"] ["word"] (zap s_parts_of):=⟨rfl,rfl,rfl,by decide +kernel,rfl,by decide +kernel,by decide +kernel⟩
theorem sc_read_whole:FnScope ["text","most","figures"] ["text","most"] (zap s_read_whole):=⟨rfl,rfl,rfl,by decide +kernel,rfl,by decide +kernel,by decide +kernel⟩
theorem sc_read_takes:FnScope ["part"] ["part"] (zap s_read_takes):=⟨rfl,rfl,rfl,by decide +kernel,rfl,by decide +kernel,by decide +kernel⟩
theorem sc_read_head:FnScope ["parts","gives"] ["parts"] (zap s_read_head):=⟨rfl,rfl,rfl,by decide +kernel,rfl,by decide +kernel,by decide +kernel⟩
theorem sc_read_row:FnScope ["parts","word","kinds","numbers"] ["parts"] (zap s_read_row):=⟨rfl,rfl,rfl,by decide +kernel,rfl,by decide +kernel,by decide +kernel⟩
theorem sc_read:FnScope ["text","program","line","parts"] ["text"] (zap s_read):=⟨rfl,rfl,rfl,by decide +kernel,rfl,by decide +kernel,by decide +kernel⟩
theorem sc_law_bag:FnScope ["script","stir","cell"] ["script"] (zap s_law_bag):=⟨rfl,rfl,rfl,by decide +kernel,rfl,by decide +kernel,by decide +kernel⟩
theorem sc_law_draw:FnScope ["bag","many","found"] ["bag","many"] (zap s_law_draw):=⟨rfl,rfl,rfl,by decide +kernel,rfl,by decide +kernel,by decide +kernel⟩
theorem sc_law_letters:FnScope [] [] (zap s_law_letters):=⟨rfl,rfl,rfl,by decide +kernel,rfl,by decide +kernel,by decide +kernel⟩
theorem sc_law_number:FnScope ["bag"] ["bag"] (zap s_law_number):=⟨rfl,rfl,rfl,by decide +kernel,rfl,by decide +kernel,by decide +kernel⟩
theorem sc_law_part:FnScope ["bag","letter","words","many","signs"] ["bag","letter","words","many","signs"] (zap s_law_part):=⟨rfl,rfl,rfl,by decide +kernel,rfl,by decide +kernel,by decide +kernel⟩
theorem sc_law_row:FnScope ["bag","word","words","many","signs","row","letter","args"] ["bag","word","words","many","signs"] (zap s_law_row):=⟨rfl,rfl,rfl,by decide +kernel,rfl,by decide +kernel,by decide +kernel⟩
theorem sc_law_rows:FnScope ["bag","words","many","signs","rows","k","word"] ["bag","words","many","signs"] (zap s_law_rows):=⟨rfl,rfl,rfl,by decide +kernel,rfl,by decide +kernel,by decide +kernel⟩
theorem sc_law_signs:FnScope ["bag","many","signs","k","takes"] ["bag","many"] (zap s_law_signs):=⟨rfl,rfl,rfl,by decide +kernel,rfl,by decide +kernel,by decide +kernel⟩
theorem sc_law_program:FnScope ["bag","big","many","signs","program","takes","gives","words","size"] ["bag"] (zap s_law_program):=⟨rfl,rfl,rfl,by decide +kernel,rfl,by decide +kernel,by decide +kernel⟩
theorem sc_law_wild_row:FnScope ["bag","word","many","args"] ["bag"] (zap s_law_wild_row):=⟨rfl,rfl,rfl,by decide +kernel,rfl,by decide +kernel,by decide +kernel⟩
theorem sc_law_wild:FnScope ["bag","program","k","wide","takes","gives","words","many"] ["bag"] (zap s_law_wild):=⟨rfl,rfl,rfl,by decide +kernel,rfl,by decide +kernel,by decide +kernel⟩
theorem sc_law_written:FnScope ["program","lines","takes","gives","words","rows","row","line","part"] ["program"] (zap s_law_written):=⟨rfl,rfl,rfl,by decide +kernel,rfl,by decide +kernel,by decide +kernel⟩
theorem sc_law_any_sign:FnScope ["bag","some"] ["bag"] (zap s_law_any_sign):=⟨rfl,rfl,rfl,by decide +kernel,rfl,by decide +kernel,by decide +kernel⟩
theorem sc_law_run:FnScope ["bag","way","many"] ["bag"] (zap s_law_run):=⟨rfl,rfl,rfl,by decide +kernel,rfl,by decide +kernel,by decide +kernel⟩
theorem sc_law_bent_text:FnScope ["text","pick","bag","at","starts","gone"] ["text","pick","bag"] (zap s_law_bent_text):=⟨rfl,rfl,rfl,by decide +kernel,rfl,by decide +kernel,by decide +kernel⟩
theorem sc_law_bent_lines:FnScope ["text","pick","lines","at","some","k","words","word","rest","other","many"] ["text","pick"] (zap s_law_bent_lines):=⟨rfl,rfl,rfl,by decide +kernel,rfl,by decide +kernel,by decide +kernel⟩
theorem sc_law_drawn_word:FnScope ["text","pick","bag","lines","at","word","k","numbers"] ["text","pick","bag"] (zap s_law_drawn_word):=⟨rfl,rfl,rfl,by decide +kernel,rfl,by decide +kernel,by decide +kernel⟩
theorem sc_law_each_line:FnScope ["text","pick","bag","piece","lines","line"] ["text","pick","bag"] (zap s_law_each_line):=⟨rfl,rfl,rfl,by decide +kernel,rfl,by decide +kernel,by decide +kernel⟩
theorem sc_law_spoilt:FnScope ["text","pick","bag"] ["text","pick","bag"] (zap s_law_spoilt):=⟨rfl,rfl,rfl,by decide +kernel,rfl,by decide +kernel,by decide +kernel⟩
theorem sc_law_value:FnScope ["text","most","figures"] ["text","most"] (zap s_law_value):=⟨rfl,rfl,rfl,by decide +kernel,rfl,by decide +kernel,by decide +kernel⟩
theorem sc_law_head:FnScope ["some","takes","words"] ["some"] (zap s_law_head):=⟨rfl,rfl,rfl,by decide +kernel,rfl,by decide +kernel,by decide +kernel⟩
theorem sc_law_line:FnScope ["some","letters","numbers"] ["some"] (zap s_law_line):=⟨rfl,rfl,rfl,by decide +kernel,rfl,by decide +kernel,by decide +kernel⟩
theorem sc_law_program_of:FnScope ["text","program","line","some","one","row"] ["text"] (zap s_law_program_of):=⟨rfl,rfl,rfl,by decide +kernel,rfl,by decide +kernel,by decide +kernel⟩
theorem sc_law_read:FnScope ["text","found","told","e","others"] ["text"] (zap s_law_read):=⟨rfl,rfl,rfl,by decide +kernel,rfl,by decide +kernel,by decide +kernel⟩
theorem sc_law_alike:FnScope ["found","due","k"] ["found","due"] (zap s_law_alike):=⟨rfl,rfl,rfl,by decide +kernel,rfl,by decide +kernel,by decide +kernel⟩
theorem sc_law:FnScope ["script","bag","wild","picks","k","text","pick","due","found","told"] ["script"] (zap s_law):=⟨rfl,rfl,rfl,by decide +kernel,rfl,by decide +kernel,by decide +kernel⟩
section
variable {P:Program} {w:World} {K:PySem.W.Frag} {mg:Str->Option Value} {base:Heap} {a:Ad}
structure BagOk (cs:List Int) (i v st n:Int):Prop where
 i0:0 ≤ i
 i1:i ≤ cs.length
 v0:0 ≤ v
 s0:0 ≤ st
 s1:st < 2147483647
 n0:0 ≤ n
noncomputable def bagL (c:Addr) (i v st n:Int):List V:=[.ref c,.int i,.int v,.int st,.int n]
structure BagAt (H:Hp) (b c:Addr) (cs:List Int):Prop where
 ex:∃ i v st n,H b = some (.lst (bagL c i v st n))∧BagOk cs i v st n
 at_:H c = some (.lst (cs.map V.int))
 ne:c ≠ b
 pos:∀ z ∈ cs,0 ≤ z
 len:cs.length ≤ 63
noncomputable def Kp (b:Addr) (H H':Hp):Prop:=∀ q o,H q = some o->q ≠ b->H' q = some o
theorem Kp.refl {b:Addr} {H:Hp}:Kp b H H:=fun _ _ h _=>h
theorem Kp.trans {b:Addr} {H H1 H2:Hp} (x:Kp b H H1) (y:Kp b H1 H2):Kp b H H2:=fun q o h n=>y q o (x q o h n) n
theorem Kp.laid {b p:Addr} {H H1:Hp} {u:HO} (x:Kp b H H1) (hp:H1 p = none):Kp b H (upd H1 p u):=fun q o h n=>zaj (x q o h n) hp
theorem Kp.at_ {b:Addr} {H:Hp} {u:HO}:Kp b H (upd H b u):=fun q o h n=>by rw [zat n]; exact h
theorem BagAt.laid {H:Hp} {b c p:Addr} {cs:List Int} {u:HO} (x:BagAt H b c cs) (hp:H p = none):BagAt (upd H p u) b c cs:=by
 obtain ⟨⟨i,v,st,n,e,k⟩,h2,ne,pos,len⟩:=x
 exact ⟨⟨i,v,st,n,zaj e hp,k⟩,zaj h2 hp,ne,pos,len⟩
theorem BagAt.other {H:Hp} {b c p:Addr} {cs:List Int} {u:HO} (x:BagAt H b c cs) (h1:p ≠ b) (h2:p ≠ c):BagAt (upd H p u) b c cs:=by
 obtain ⟨⟨i,v,st,n,e,k⟩,h3,ne,pos,len⟩:=x
 exact ⟨⟨i,v,st,n,by rw [zat h1.symm]; exact e,k⟩,by rw [zat h2.symm]; exact h3,ne,pos,len⟩
theorem BagAt.keep {H H':Hp} {b c:Addr} {cs:List Int} (x:BagAt H b c cs) (hs:∀ q o,H q = some o->H' q = some o):BagAt H' b c cs:=by
 obtain ⟨⟨i,v,st,n,e,k⟩,h3,ne,pos,len⟩:=x
 exact ⟨⟨i,v,st,n,hs _ _ e,k⟩,hs _ _ h3,ne,pos,len⟩
theorem zhZ {x:Int} (h0:0 ≤ x):0 ≤ x ^ 3:=Int.pow_nonneg h0
noncomputable def sp_draw:Sp:=fun vs H Q _=>∃ (b c:Addr) (cs:List Int) (many:Int),vs = [.ref b,.int many]∧BagAt H b c cs∧0 < many∧many ≤ 10 ^ 70∧∀ (r:Int) (H':Hp),0 ≤ r->r < many->BagAt H' b c cs->Kp b H H'->Q (.int r) H'
theorem ixN5_0:ixN 5 0 = some 0:=rfl
theorem ixN5_1:ixN 5 1 = some 1:=rfl
theorem ixN5_2:ixN 5 2 = some 2:=rfl
theorem ixN5_3:ixN 5 3 = some 3:=rfl
theorem ixN5_4:ixN 5 4 = some 4:=rfl
set_option maxHeartbeats 4000000 in
theorem zag (T:Txt K mg a):FnOk P w K mg base (CX1 P w) 1 a.f_law_draw a.d_law_draw ["bag","many"] sp_draw:=by
 refine T.F_law_draw.okC sc_law_draw (fun vs H Q E h=>?_) (fun cdv A outer s H vs Q E hr h=>?_)
 ·obtain ⟨b,c,cs,m,rfl,_⟩:=h
  rfl
 ·obtain ⟨b,c,cs,m,rfl,⟨⟨i,v,st,n,hb,i0,i1,v0,s0,s1,n0⟩,hc,ne,pos,len⟩,m0,m1,q⟩:=h
  have hu:=za0 hr
  refine ⟨_,(zab (zay (PW.pt (zbT (zai op_eq (zar ix_F (pv 0) zac (fun _ _=>rfl)) zac (zan _)) (zbt (zai op_lt (zar ix_F (pv 0) zac (fun _ _=>rfl)) (zao call_lenF (by rfl) T.z_len (by decide +kernel) (zaa (zar ix_F (pv 0) zac (fun _ _=>rfl)) pa_nil)) (zan _))))) (zab (zbQ (zar ix_F (zar ix_F (pv 0) zac (fun _ _=>rfl)) (zar ix_F (pv 0) zac (fun _ _=>rfl)) (fun _ _=>rfl)) (zca (pv 0) zac set_list))
   (zae (zbQ (zam op_add (zar ix_F (pv 0) zac (fun _ _=>rfl)) zac) (zca (pv 0) zac set_list)))) (zae (zay (zai op_eq (zar ix_F (pv 0) zac (fun _ _=>rfl)) zac (zan _)) (zab (zbQ (zam op_add (zar ix_F (pv 0) zac (fun _ _=>rfl)) zac) (zca (pv 0) zac set_list))
   (zab (zbQ (zam op_mod (zam op_add (zam op_add (zam op_add (zam op_pow (zar ix_F (pv 0) zac (fun _ _=>rfl)) zac) (zam op_mul zac (zar ix_F (pv 0) zac (fun _ _=>rfl)))) (zam op_mul zac (zar ix_F (pv 0) zac (fun _ _=>rfl)))) zac) zac) (zca (pv 0) zac set_list))
   (zae (zaq (zam op_mod (zam op_fdivB (zar ix_F (pv 0) zac (fun _ _=>rfl)) zac) (pv 1)))))) pss_nil)))
   (zab (zal (i:=2) sc_law_draw.nd (by rfl) (Or.inl rfl) (zam op_mod (zar ix_F (pv 0) zac (fun _ _=>rfl)) (pv 1)))
   (zab (zbQ (zam op_fdivB (zar ix_F (pv 0) zac (fun _ _=>rfl)) (pv 1)) (zca (pv 0) zac set_list))
   (zae (zaq (pv 2)))))),?_⟩
  simp! [hb,hc,bagL,ixN5_0,ixN5_1,ixN5_2,ixN5_3,ixN5_4,zes,List.length_map]
  have fin:∀ (r i' v' st' n':Int),0 ≤ r->r < m->BagOk cs i' v' st' n'->Q (.int r) (upd H b (.lst [.ref c,.int i',.int v',.int st',.int n'])):=fun r i' v' st' n' h1 h2 h3 =>
   q r _ h1 h2 ⟨⟨i',v',st',n',zad,h3⟩,by rw [zat ne]; exact hc,ne,pos,len⟩ Kp.at_
  have e3:(3:Int).toNat = 3:=rfl
  rw [e3]
  have p3:=zhZ s0
  have B1:CPow st 3∧CMul 69621 st∧CMul 1009 (n + 1)∧(0:Int) < 2147483647∧zgA ((st ^ 3 + 69621 * st + 1009 * (n + 1) + 1) % 2147483647) 16∧0 < m∧Q (V.int ((st ^ 3 + 69621 * st + 1009 * (n + 1) + 1) % 2147483647 / 16 % m)) (upd H b (HO.lst [V.ref c,V.int i,V.int v,V.int ((st ^ 3 + 69621 * st + 1009 * (n + 1) + 1) % 2147483647),V.int (n + 1)])):=by
   refine ⟨⟨by decide,by decide,by omega⟩,.inl ⟨by decide,by decide⟩,.inl ⟨by decide,by decide⟩,by decide,⟨by decide,by decide⟩,m0,?_⟩
   generalize (st ^ 3 + 69621 * st + 1009 * (n + 1) + 1) = y
   exact fin _ _ _ _ _ (Int.emod_nonneg _ (by omega)) (Int.emod_lt_of_pos _ m0) ⟨i0,i1,v0,by omega,by omega,by omega⟩
  have B2:0 < m∧zgA v m∧Q (V.int (v % m)) (upd H b (HO.lst [V.ref c,V.int i,V.int (v / m),V.int st,V.int n])) :=
   ⟨m0,⟨m0,m1⟩,fin _ _ _ _ _ (Int.emod_nonneg _ (by omega)) (Int.emod_lt_of_pos _ m0) ⟨i0,i1,Int.ediv_nonneg v0 (by omega),s0,s1,n0⟩⟩
  have B3:i < cs.length->∃ x,atI (cs.map V.int) i = some x∧∃ i_1,x = V.int i_1∧0 < m∧∃ i_2,x = V.int i_2∧zgA i_2 m∧Q (V.int (i_1 % m)) (upd H b (HO.lst [V.ref c,V.int (i + 1),V.int (i_2 / m),V.int st,V.int n])):=fun hi=>by
   have hj:i.toNat < cs.length:=by omega
   have e1:(cs.map V.int)[i.toNat]? = some (V.int cs[i.toNat]):=by rw [List.getElem?_map,List.getElem?_eq_getElem hj]; rfl
   have e2:=zaQ e1
   rw [show ((i.toNat:Nat):Int) = i by omega] at e2
   have p:=pos _ (List.getElem_mem hj)
   refine ⟨_,e2,_,rfl,m0,_,rfl,⟨m0,m1⟩,?_⟩
   exact fin _ _ _ _ _ (Int.emod_nonneg _ (by omega)) (Int.emod_lt_of_pos _ m0) ⟨by omega,by omega,Int.ediv_nonneg p (by omega),s0,s1,n0⟩
  refine ite2 (fun h1=>ite2 B3 fun h2=>ite2 (fun _=>B1) fun _=>B2) fun h1=>ite2 (fun _=>B1) fun _=>B2
theorem cut63 (ns:List Int):∃ zs:List Int,cutV (ns.map V.int) none (some 63) = zs.map V.int∧zs.length ≤ 63∧zs.length ≤ ns.length:=by
 refine ⟨(ns.drop (HT.sIx (ns.map V.int).length 0 none)).take (HT.sIx (ns.map V.int).length (ns.map V.int).length (some 63) - HT.sIx (ns.map V.int).length 0 none),?_,?_,?_⟩
 ·unfold cutV
  rw [List.map_take,List.map_drop]
 ·rw [List.length_take,List.length_drop,List.length_map]
  have:HT.sIx ns.length ns.length (some 63) ≤ 63:=by unfold HT.sIx; simp; omega
  omega
 ·rw [List.length_take,List.length_drop]; omega
noncomputable def zje (K:PySem.W.Frag):Sp:=fun vs H Q _=>∃ (r:Addr) (ns:List Int),vs = [.ref r]∧SqL K H r (ns.map V.int)∧∀ (b c:Addr) (cs:List Int) (H':Hp),H b = none->H c = none->BagAt H' b c cs->Same H H'->Q (.ref b) H'
set_option maxHeartbeats 4000000 in
theorem ze8 (T:Txt K mg a):FnOk P w K mg base (CX1 P w) 1 a.f_law_bag a.d_law_bag ["script"] (zje K):=by
 refine T.F_law_bag.okC sc_law_bag (fun vs H Q E h=>?_) (fun cdv A outer s H vs Q E hr h=>?_)
 ·obtain ⟨r,ns,rfl,_⟩:=h
  rfl
 ·obtain ⟨r,ns,rfl,hS,q⟩:=h
  have hu:=za0 hr
  obtain ⟨zs,ez,lz,_⟩:=cut63 ns
  refine ⟨_,(zab (zal (i:=1) sc_law_bag.nd (by rfl) (Or.inl rfl) zac)
   (zab (zbd PassesOwn.never (by rfl) (zbm (zas sl_list (pv 0) po_none (zaw zac))) (zav (i:=2) sc_law_bag.nd (by rfl) (Or.inl rfl))
   (zae (zal (i:=1) sc_law_bag.nd (by rfl) (Or.inl rfl) (zam op_mod (zam op_add (zam op_add (zam op_mul (pv 1) zac) (zam op_mod (pv 2) zac)) zac) zac))))
   (zae (zaq (zaC (zaa (za7 (N':=["cell"]) (cap:=[none]) ⟨rfl,(by decide +kernel),(by decide +kernel),(by rfl),rfl,(by rfl)⟩ (by rfl) (zbm (zas sl_list (pv 0) po_none (zaw zac))) (fun C_ ex_ s_ H_=>(zav (i:=0) (show (["cell"]:List Str).Nodup by decide +kernel) (by rfl) (Or.inl rfl))) zaH (fun C_ ex_ s_ H_=>zaU) (fun C_ ex_ s_ H_=>(zam op_mod (zao call_abs (by rfl) T.z_abs (by decide +kernel) (zaa (pv 0) pa_nil)) (zam op_pow zac zac)))) (zaa zac (zaa zac (zaa (pv 1) (zaa zac pa_nil)))))))))),?_⟩
  refine ⟨_,rfl,63,rfl,r,_,rfl,hS,fun l1 hl1=>?_⟩
  rw [ez]
  refine ⟨l1,rfl,⟨_,.of zad⟩,zeU (xs:=zs.map V.int) (fun i σ H2=>∃ (st:Int) (v2:Option V),σ = [some (.ref r),some (.int st),v2]∧H2 = upd H l1 (.lst (zs.map V.int))∧0 ≤ st∧st < 2147483647)
   ⟨7,_,rfl,rfl,by decide,by decide⟩ (fun i σ H2 _ ⟨_,_,_,e,_⟩=>by rw [e]; exact .of zad) ?_ ?_⟩
  ·rintro i x σ H2 hi ⟨st,v2,rfl,rfl,s0,s1⟩
   obtain ⟨z,_,rfl⟩:=zaD hi
   simp! []
   exact ⟨.inr ⟨by decide,by decide⟩,by decide,by decide,Int.emod_nonneg _ (by decide),Int.emod_lt_of_pos _ (by decide)⟩
  ·rintro σ H2 ⟨st,v2,rfl,rfl,s0,s1⟩
   have hS1:SqL K (upd H l1 (.lst (zs.map V.int))) r (ns.map V.int):=(Same.laid hl1).seq hS
   refine ⟨_,rfl,63,rfl,r,_,rfl,hS1,fun l2 hl2=>?_⟩
   rw [ez]
   refine ⟨l2,rfl,⟨_,.of zad⟩,fun D hD=>?_⟩
   refine zd0 (xs:=zs.map V.int) (fun i ys H2=>∃ ws:List Int,ys = ws.map V.int∧ws.length = i∧(∀ z ∈ ws,0 ≤ z)∧H2 = upd (upd (upd H l1 (.lst (zs.map V.int))) l2 (.lst (zs.map V.int))) D (.lst ys))
    ⟨[],rfl,rfl,by simp,rfl⟩ (fun i ys H2 _ ⟨ws,e1,e2,_,e3⟩=>?_) (by rw [sizeLine_eq]; simp; omega) ?_ ?_
   ·rw [e3]
    exact ⟨.of (zaj zad hD),zad,by rw [e1]; simp; omega⟩
   ·rintro i x ys H2 hi ⟨ws,rfl,e2,e3,rfl⟩
    obtain ⟨z,_,rfl⟩:=zaD hi
    simp! [tTrue,zaE]
    refine ⟨⟨by decide,by decide,by decide⟩,by decide,ws ++ [(if z < 0 then -z else z) % 10 ^ Int.toNat 60],by simp,by simp; omega,?_,zes⟩
    intro y hy
    rcases List.mem_append.mp hy with hy | hy
    ·exact e3 y hy
    ·rw [List.mem_singleton.mp hy]
     exact Int.emod_nonneg _ (by decide)
   ·rintro ys H2 ⟨ws,rfl,e2,e3,rfl⟩
    simp! []
    intro b hb
    have n1:H b = none:=Same.free (((Same.laid hl1).step hl2).step hD) hb
    have n2:H D = none:=Same.free ((Same.laid hl1).step hl2) hD
    rw [List.length_map] at e2
    exact q b D ws _ n1 n2 ⟨⟨0,0,st,0,zad,by decide,by omega,by decide,s0,s1,by decide⟩,zaj zad hb,zaA zad hb,e3,by omega⟩ ((((Same.laid hl1).step hl2).step hD).step hb)
end
section
variable {P:Program} {w:World} {K:PySem.W.Frag} {mg:Str->Option Value} {base:Heap} {a:Ad}
noncomputable def LW:List (Str × Str):=[("put","pi"),("nil","p"),("copy","pp"),("plus","ppp"),("less","ppp"),("make","pkk"),("fetch","ppk"),("read","ppk"),("hang","pkp"),("write","pkp"),("into","ppk"),("look","ppp"),("lay","ppp"),("jump","t"),("zero","pt"),("none","pt"),("same","ppt"),("call","pfq"),("back","p"),("tell","p"),("rest","")]
noncomputable def LET:List (Key × V):=LW.map fun p=>(.inr p.1,.str p.2)
noncomputable def sp_letters:Sp:=fun vs H Q _=>vs = []∧∀ p H',Same H H'->H p = none->H' p = some (.dK LET)->Q (.ref p) H'
set_option maxHeartbeats 2000000 in
theorem zaT (T:Txt K mg a):FnOk P w K mg base (CX1 P w) 1 a.f_law_letters a.d_law_letters [] sp_letters:=by
 refine T.F_law_letters.okC sc_law_letters (fun vs H Q E h=>?_) (fun cdv A outer s H vs Q E hr h=>?_)
 ·obtain ⟨rfl,_⟩:=h
  rfl
 ·obtain ⟨rfl,q⟩:=h
  refine ⟨tRet (zht [(tC (.str "put"),tC (.str "pi")),(tC (.str "nil"),tC (.str "p")),(tC (.str "copy"),tC (.str "pp")),(tC (.str "plus"),tC (.str "ppp")),(tC (.str "less"),tC (.str "ppp")),(tC (.str "make"),tC (.str "pkk")),(tC (.str "fetch"),tC (.str "ppk")),(tC (.str "read"),tC (.str "ppk")),(tC (.str "hang"),tC (.str "pkp")),(tC (.str "write"),tC (.str "pkp")),(tC (.str "into"),tC (.str "ppk")),(tC (.str "look"),tC (.str "ppp")),(tC (.str "lay"),tC (.str "ppp")),(tC (.str "jump"),tC (.str "t")),(tC (.str "zero"),tC (.str "pt")),(tC (.str "none"),tC (.str "pt")),(tC (.str "same"),tC (.str "ppt"))] [(tC (.str "call"),tC (.str "pfq")),(tC (.str "back"),tC (.str "p")),(tC (.str "tell"),tC (.str "p")),(tC (.str "rest"),tC (.str ""))]),zae ?_,?_⟩
  ·refine zaq ?_
   refine zhd ?_ ?_ ?_
   rotate_left
   ·simp only [List.length_cons,List.length_nil]
    omega
   ·simp only [List.length_cons,List.length_nil]
    omega
   ·exact (zaW zaf zaf (zaW zaf zaf (zaW zaf zaf (zaW zaf zaf (zaW zaf zaf (zaW zaf zaf (zaW zaf zaf (zaW zaf zaf (zaW zaf zaf (zaW zaf zaf (zaW zaf zaf (zaW zaf zaf (zaW zaf zaf (zaW zaf zaf (zaW zaf zaf (zaW zaf zaf (zaW zaf zaf (zdt zaf zaf (zdt zaf zaf (zdt zaf zaf (zdt zaf zaf ziu)))))))))))))))))))))
  ·intro p hp
   simp only [tPuts,tPairs,tC,zd3,zes,zad,Option.some.injEq,HO.dK.injEq,exists_eq_left',exists_eq_left]
   refine ⟨_,_,rfl,rfl,zaF (by decide +kernel),⟨_,_,rfl,rfl,zaF (by decide +kernel),⟨_,_,rfl,rfl,zaF (by decide +kernel),⟨_,_,rfl,rfl,zaF (by decide +kernel),⟨_,_,rfl,rfl,zaF (by decide +kernel),⟨_,_,rfl,rfl,zaF (by decide +kernel),⟨_,_,rfl,rfl,zaF (by decide +kernel),⟨_,_,rfl,rfl,zaF (by decide +kernel),⟨_,_,rfl,rfl,zaF (by decide +kernel),⟨_,_,rfl,rfl,zaF (by decide +kernel),⟨_,_,rfl,rfl,zaF (by decide +kernel),⟨_,_,rfl,rfl,zaF (by decide +kernel),⟨_,_,rfl,rfl,zaF (by decide +kernel),⟨_,_,rfl,rfl,zaF (by decide +kernel),⟨_,_,rfl,rfl,zaF (by decide +kernel),⟨_,_,rfl,rfl,zaF (by decide +kernel),⟨_,_,rfl,rfl,zaF (by decide +kernel),?_⟩⟩⟩⟩⟩⟩⟩⟩⟩⟩⟩⟩⟩⟩⟩⟩⟩
   intro p2 hp2
   have np:p ≠ p2:=fun e=>by rw [e] at hp2; rw [zad] at hp2; cases hp2
   have g1:∀ u:HO,upd (upd H p u) p2 (.dK []) p = some u:=fun u=>by rw [zat np]; exact zad
   have h2:H p2 = none:=by rw [zat np.symm] at hp2; exact hp2
   refine ⟨_,[(.inr "call",.str "pfq"),(.inr "back",.str "p"),(.inr "tell",.str "p"),(.inr "rest",.str "")],g1 _,by decide +kernel,True.intro,rfl,by decide +kernel,by decide +kernel,q _ _ ?_ hp ?_⟩
   ·intro c o e
    rw [zat (zaA e hp),zat (zaA e h2),zat (zaA e hp)]
    exact e
   ·rw [zad]
    rfl
end
section
variable {P:Program} {w:World} {K:PySem.W.Frag} {mg:Str->Option Value} {base:Heap} {a:Ad}
abbrev Part:=Int ⊕ List Int
abbrev Row:=Str × List Part
abbrev Sg:=Str × Str
noncomputable def zdU (H:Hp) (v:V):Part->Prop
 | .inl x=>v = .int x
 | .inr l=>∃ q,v = .ref q∧H q = some (.tup (l.map V.int))
structure PartsAt (H:Hp) (vs:List V) (ps:List Part):Prop where
 len:vs.length = ps.length
 at_:∀ (i:Nat) (v:V) (p:Part),vs[i]? = some v->ps[i]? = some p->zdU H v p
noncomputable def zbg (H:Hp) (p:Addr) (r:Row):Prop:=∃ vs,H p = some (.tup (.str r.1 :: vs))∧PartsAt H vs r.2
structure SgAt (H:Hp) (sl:Addr) (as:List Addr) (sg:List Sg):Prop where
 top:H sl = some (.lst (as.map V.ref))
 len:as.length = sg.length
 row:∀ (i:Nat) (p:Addr) (x:Sg),as[i]? = some p->sg[i]? = some x->H p = some (.tup [.str x.1,.str x.2])
noncomputable def zbF (words many:Int) (sg:List Sg) (ps:List Part) (c:Nat) (p:Part):Prop :=
 (c = 112∧∃ x,p = .inl x∧0 ≤ x∧x < 8 + words) ∨ (c = 107∧∃ x,p = .inl x∧0 ≤ x∧x < 10) ∨ (c = 116∧∃ x,p = .inl x∧0 ≤ x∧x < many) ∨ (c = 102∧∃ x,p = .inl x∧0 ≤ x∧x < sg.length) ∨
 (c = 105∧∃ x,p = .inl x∧-(10 ^ 60) < x∧x < 10 ^ 60) ∨ (c = 113∧∃ (f:Nat) (l:List Int) (z:Sg),ps[1]? = some (.inl (f:Int))∧sg[f]? = some z∧p = .inr l∧l.length = z.1.cps.size∧∀ x ∈ l,0 ≤ x∧x < 8 + words)
structure PartsFit (words many:Int) (sg:List Sg) (ls:Str) (ps:List Part):Prop where
 at_:∀ (i c:Nat) (p:Part),ls.cps[i]? = some c->ps[i]? = some p->zbF words many sg ps c p
noncomputable def zb3 (words many:Int) (sg:List Sg) (r:Row):Prop:=∃ ls,(r.1,ls) ∈ LW∧r.2.length = ls.cps.size∧PartsFit words many sg ls r.2
noncomputable def sp_number:Sp:=fun vs H Q _=>∃ (b c:Addr) (cs:List Int),vs = [.ref b]∧BagAt H b c cs∧∀ (r:Int) (H':Hp),-(10 ^ 60) < r->r < 10 ^ 60->BagAt H' b c cs->Kp b H H'->Q (.int r) H'
theorem zaP (T:Txt K mg a):FnOk P w K mg base (CX1 P w) 2 a.f_law_number a.d_law_number ["bag"] sp_number:=by
 refine T.F_law_number.okC sc_law_number (fun vs H Q E h=>?_) (fun cdv A outer s H vs Q E hr h=>?_)
 ·obtain ⟨b,c,cs,rfl,_⟩:=h
  rfl
 ·obtain ⟨b,c,cs,rfl,hb,q⟩:=h
  have hu:=za0 hr
  refine ⟨_,(zab (zay (zai op_eq (zah (zag T) (hr.mono (by decide)) (by rfl) T.m_law_draw T.F_law_draw.kp T.b_law_draw .nil zau (zaa (pv 0) (zaa zac pa_nil))) zac (zan _)) (zae (zaq (zam op_mul (zam op_sub (zam op_mul (zah (zag T) (hr.mono (by decide)) (by rfl) T.m_law_draw T.F_law_draw.kp T.b_law_draw .nil zau (zaa (pv 0) (zaa zac pa_nil))) zac) zac) (zah (zag T) (hr.mono (by decide)) (by rfl) T.m_law_draw T.F_law_draw.kp T.b_law_draw .nil zau (zaa (pv 0) (zaa (zam op_pow zac zac) pa_nil)))))) pss_nil)
   (zae (zaq (zam op_sub (zah (zag T) (hr.mono (by decide)) (by rfl) T.m_law_draw T.F_law_draw.kp T.b_law_draw .nil zau (zaa (pv 0) (zaa zac pa_nil))) zac)))),?_⟩
  simp! []
  refine ⟨b,c,cs,3,rfl,hb,by decide,by decide,fun r H1 r0 r1 hb1 k1=>?_⟩
  simp! []
  have p60:(7:Int) < 10 ^ 60:=by decide
  refine ite2 (fun _=>⟨b,c,cs,_,rfl,hb1,by decide,by decide,fun r H2 r0 r1 hb2 k2=>?_⟩) fun _=>⟨b,c,cs,_,rfl,hb1,by decide,by decide,fun r H2 r0 r1 hb2 k2=>?_⟩
  ·simp! []
   refine ⟨.inl ⟨by omega,by omega⟩,⟨by decide,by decide,by decide⟩,b,c,cs,_,rfl,hb2,by decide,by decide,fun r' H3 r0' r1' hb3 k3=>?_⟩
   simp! []
   have p60':(10:Int) ^ Int.toNat 60 = 10 ^ 60:=rfl
   have two:r = 0 ∨ r = 1:=by omega
   refine ⟨.inl ⟨by omega,by omega⟩,q _ _ ?_ ?_ hb3 ((k1.trans k2).trans k3)⟩
   ·rcases two with rfl | rfl <;> omega
   ·rcases two with rfl | rfl <;> omega
  ·simp! []
   exact q _ _ (by omega) (by omega) hb2 (k1.trans k2)
noncomputable def sp_part:Sp:=fun vs H Q _=>∃ (b c sl:Addr) (cs:List Int) (ch:Nat) (words many:Int) (as:List Addr) (sg:List Sg),vs = [.ref b,.str ⟨#[ch]⟩,.int words,.int many,.ref sl]∧BagAt H b c cs∧SgAt H sl as sg∧sl ≠ b ∧
 (ch = 112 ∨ ch = 107 ∨ ch = 116 ∨ ch = 102 ∨ ch = 105)∧0 ≤ words∧words ≤ 16∧0 < many∧many ≤ 1000∧(ch = 102->0 < sg.length)∧sg.length ≤ 1000 ∧
 ∀ (r:Int) (H':Hp),(∀ ps,zbF words many sg ps ch (.inl r))->BagAt H' b c cs->Kp b H H'->Q (.int r) H'
theorem zd9 (T:Txt K mg a):FnOk P w K mg base (CX1 P w) 3 a.f_law_part a.d_law_part ["bag","letter","words","many","signs"] sp_part:=by
 refine T.F_law_part.okC sc_law_part (fun vs H Q E h=>?_) (fun cdv A outer s H vs Q E hr h=>?_)
 ·obtain ⟨b,c,sl,cs,ch,words,many,as,sg,rfl,_⟩:=h
  rfl
 ·obtain ⟨b,c,sl,cs,ch,words,many,as,sg,rfl,hb,hs,nb,hch,w0,w1,m0,m1,hf,sl1,q⟩:=h
  have hu:=za0 hr
  refine ⟨_,(zab (zay (zai op_eq (pv 1) zaf (zan _)) (zae (zaq (zah (zag T) (hr.mono (by decide)) (by rfl) T.m_law_draw T.F_law_draw.kp T.b_law_draw .nil zau (zaa (pv 0) (zaa (zam op_add zac (pv 2)) pa_nil))))) pss_nil)
   (zab (zay (zai op_eq (pv 1) zaf (zan _)) (zae (zaq (zah (zag T) (hr.mono (by decide)) (by rfl) T.m_law_draw T.F_law_draw.kp T.b_law_draw .nil zau (zaa (pv 0) (zaa zac pa_nil))))) pss_nil)
   (zab (zay (zai op_eq (pv 1) zaf (zan _)) (zae (zaq (zah (zag T) (hr.mono (by decide)) (by rfl) T.m_law_draw T.F_law_draw.kp T.b_law_draw .nil zau (zaa (pv 0) (zaa (pv 3) pa_nil))))) pss_nil)
   (zab (zay (zai op_eq (pv 1) zaf (zan _)) (zae (zaq (zah (zag T) (hr.mono (by decide)) (by rfl) T.m_law_draw T.F_law_draw.kp T.b_law_draw .nil zau (zaa (pv 0) (zaa (zao call_lenF (by rfl) T.z_len (by decide +kernel) (zaa (pv 4) pa_nil)) pa_nil))))) pss_nil)
   (zae (zaq (zah (zaP T) (hr.mono (by decide)) (by rfl) T.m_law_number T.F_law_number.kp T.b_law_number .nil zau (zaa (pv 0) pa_nil)))))))),?_⟩
  have top:=hs.top
  simp! [top,List.length_map]
  have e1:∀ {x y:Nat},((⟨#[x]⟩:Str) = ⟨#[y]⟩)->x = y:=fun h=>by injection h with h; simpa using h
  rw [show Str.ofString "p" = ⟨#[112]⟩ by decide,show Str.ofString "k" = ⟨#[107]⟩ by decide,show Str.ofString "t" = ⟨#[116]⟩ by decide,show Str.ofString "f" = ⟨#[102]⟩ by decide]
  refine ite2 (fun h=>?_) fun n1=>ite2 (fun h=>?_) fun n2=>ite2 (fun h=>?_) fun n3=>ite2 (fun h=>?_) fun n4=>?_
  ·exact ⟨b,c,cs,_,rfl,hb,by omega,by omega,fun r H1 r0 r1 hb1 k1=>q r H1 (fun ps=>.inl ⟨e1 h,r,rfl,r0,r1⟩) hb1 k1⟩
  ·exact ⟨b,c,cs,_,rfl,hb,by omega,by omega,fun r H1 r0 r1 hb1 k1=>q r H1 (fun ps=>.inr (.inl ⟨e1 h,r,rfl,r0,r1⟩)) hb1 k1⟩
  ·exact ⟨b,c,cs,_,rfl,hb,by omega,by omega,fun r H1 r0 r1 hb1 k1=>q r H1 (fun ps=>.inr (.inr (.inl ⟨e1 h,r,rfl,r0,r1⟩))) hb1 k1⟩
  ·have lp:=hf (e1 h)
   have ll:=hs.len
   exact ⟨b,c,cs,_,rfl,hb,by omega,by omega,fun r H1 r0 r1 hb1 k1=>q r H1 (fun ps=>.inr (.inr (.inr (.inl ⟨e1 h,r,rfl,r0,by omega⟩)))) hb1 k1⟩
  ·have hi:ch = 105:=by
    rcases hch with rfl | rfl | rfl | rfl | h
    ·exact absurd rfl n1
    ·exact absurd rfl n2
    ·exact absurd rfl n3
    ·exact absurd rfl n4
    ·exact h
   exact ⟨b,c,cs,rfl,hb,fun r H1 r0 r1 hb1 k1=>q r H1 (fun ps=>.inr (.inr (.inr (.inr (.inl ⟨hi,r,rfl,r0,r1⟩))))) hb1 k1⟩
end
section
variable {P:Program} {w:World} {K:PySem.W.Frag} {mg:Str->Option Value} {base:Heap} {a:Ad}
theorem LW_ok:∀ p ∈ LW,p.2.cps.size ≤ 3∧p.2.cps.all (· < 128) = true∧valV LET (.inr p.1) = some (.str p.2):=by
 intro p hp
 simp only [LW,List.mem_cons,List.not_mem_nil,or_false] at hp
 rcases hp with rfl | rfl | rfl | rfl | rfl | rfl | rfl | rfl | rfl | rfl | rfl | rfl | rfl | rfl | rfl | rfl | rfl | rfl | rfl | rfl | rfl
 all_goals exact ⟨by decide +kernel,by decide +kernel,by rfl⟩
theorem LW_letter:∀ p ∈ LW,∀ (i c:Nat),p.2.cps[i]? = some c->(c = 112 ∨ c = 107 ∨ c = 116 ∨ c = 102 ∨ c = 105) ∨ (c = 113∧i = 2∧p.2.cps[1]? = some 102):=by
 have key:(LW.all fun p=>(List.range 3).all fun i=>match p.2.cps[i]? with
  | none=>true
  | some c=>decide ((c = 112 ∨ c = 107 ∨ c = 116 ∨ c = 102 ∨ c = 105) ∨ (c = 113∧i = 2∧p.2.cps[1]? = some 102))) = true:=by decide +kernel
 intro p hp i c hc
 have h3:=(LW_ok p hp).1
 have hi:i < 3:=by
  have:=(Array.getElem?_eq_some_iff.mp hc).1
  omega
 have:=List.all_eq_true.mp (List.all_eq_true.mp key p hp) i (List.mem_range.mpr hi)
 rw [hc] at this
 exact of_decide_eq_true this
theorem BagAt.has {H:Hp} {b c:Addr} {cs:List Int} (x:BagAt H b c cs):∃ o,H b = some o:=by obtain ⟨⟨i,v,s,n,e,_⟩,_⟩:=x; exact ⟨_,e⟩
theorem BagAt.tup {H H':Hp} {b c q:Addr} {cs:List Int} {xs:List V} (x:BagAt H b c cs) (k:Kp b H H') (h:H q = some (.tup xs)):H' q = some (.tup xs):=by
 refine k q _ h (fun e=>?_)
 obtain ⟨⟨i,v,st,n,hb,_⟩,_⟩:=x
 rw [e,hb] at h
 cases h
theorem zdU.kp {H H':Hp} {b c:Addr} {cs:List Int} {v:V} {p:Part} (x:BagAt H b c cs) (k:Kp b H H') (h:zdU H v p):zdU H' v p:=by
 cases p with
 | inl y=>exact h
 | inr l=>obtain ⟨q,e,h⟩:=h; exact ⟨q,e,x.tup k h⟩
theorem PartsAt.kp {H H':Hp} {b c:Addr} {cs:List Int} {vs:List V} {ps:List Part} (x:BagAt H b c cs) (k:Kp b H H') (h:PartsAt H vs ps):PartsAt H' vs ps:=⟨h.len,fun i v p h1 h2=>(h.at_ i v p h1 h2).kp x k⟩
theorem zbg.kp {H H':Hp} {b c q:Addr} {cs:List Int} {r:Row} (x:BagAt H b c cs) (k:Kp b H H') (h:zbg H q r):zbg H' q r:=by
 obtain ⟨vs,e,h⟩:=h
 exact ⟨vs,x.tup k e,h.kp x k⟩
theorem SgAt.kp {H H':Hp} {b c sl:Addr} {cs:List Int} {as:List Addr} {sg:List Sg} (x:BagAt H b c cs) (k:Kp b H H') (n:sl ≠ b) (h:SgAt H sl as sg):SgAt H' sl as sg:=⟨k _ _ h.top n,h.len,fun i p y h1 h2=>x.tup k (h.row i p y h1 h2)⟩
theorem SgAt.at_ {H:Hp} {sl:Addr} {as:List Addr} {sg:List Sg} (x:SgAt H sl as sg) {f:Nat} {z:Sg} (h:sg[f]? = some z):∃ p,as[f]? = some p∧H p = some (.tup [.str z.1,.str z.2]):=by
 have hf:=(List.getElem?_eq_some_iff.mp h).1
 have hf':f < as.length:=by rw [x.len]; exact hf
 exact ⟨as[f],List.getElem?_eq_getElem hf',x.row f _ z (List.getElem?_eq_getElem hf') h⟩
theorem zbF.app {words many:Int} {sg:List Sg} {ps:List Part} {c:Nat} {p y:Part} (h:zbF words many sg ps c p):zbF words many sg (ps ++ [y]) c p:=by
 rcases h with h | h | h | h | h | ⟨e,f,l,z,h1,h2⟩
 ·exact .inl h
 ·exact .inr (.inl h)
 ·exact .inr (.inr (.inl h))
 ·exact .inr (.inr (.inr (.inl h)))
 ·exact .inr (.inr (.inr (.inr (.inl h))))
 ·refine .inr (.inr (.inr (.inr (.inr ⟨e,f,l,z,?_,h2⟩))))
  rw [List.getElem?_append_left (List.getElem?_eq_some_iff.mp h1).1]
  exact h1
theorem PartsFit.snoc {words many:Int} {sg:List Sg} {ls:Str} {ps:List Part} {c:Nat} {p:Part} (h:PartsFit words many sg ls ps) (hc:ls.cps[ps.length]? = some c) (hp:zbF words many sg (ps ++ [p]) c p):PartsFit words many sg ls (ps ++ [p]):=⟨fun i c' p' h1 h2=>by
 by_cases d:i < ps.length
 ·rw [List.getElem?_append_left d] at h2
  exact (h.at_ i c' p' h1 h2).app
 ·have e:i = ps.length:=by
   have:=(List.getElem?_eq_some_iff.mp h2).1
   rw [List.length_append,List.length_singleton] at this
   omega
  rw [e] at h1 h2
  rw [hc] at h1
  cases h1
  rw [List.getElem?_append_right (Nat.le_refl _),Nat.sub_self] at h2
  cases h2
  exact hp⟩
theorem PartsAt.snoc {H:Hp} {vs:List V} {ps:List Part} {v:V} {p:Part} (h:PartsAt H vs ps) (hp:zdU H v p):PartsAt H (vs ++ [v]) (ps ++ [p]):=⟨by rw [List.length_append,List.length_append,h.len]; rfl,fun i v' p' h1 h2=>by
 by_cases d:i < ps.length
 ·rw [List.getElem?_append_left d] at h2
  rw [List.getElem?_append_left (by rw [h.len]; exact d)] at h1
  exact h.at_ i v' p' h1 h2
 ·have e:i = ps.length:=by
   have:=(List.getElem?_eq_some_iff.mp h2).1
   rw [List.length_append,List.length_singleton] at this
   omega
  rw [e] at h1 h2
  rw [List.getElem?_append_right (Nat.le_refl _),Nat.sub_self] at h2
  rw [← h.len,List.getElem?_append_right (Nat.le_refl _),Nat.sub_self] at h1
  cases h1
  cases h2
  exact hp⟩
noncomputable def sp_row:Sp:=fun vs H Q _=>∃ (b c sl:Addr) (cs:List Int) (word ls:Str) (words many:Int) (as:List Addr) (sg:List Sg),vs = [.ref b,.str word,.int words,.int many,.ref sl]∧BagAt H b c cs∧SgAt H sl as sg∧sl ≠ b ∧
 (word,ls) ∈ LW∧0 ≤ words∧words ≤ 16∧0 < many∧many ≤ 1000∧(102 ∈ ls.cps.toList->0 < sg.length)∧sg.length ≤ 1000∧(∀ x ∈ sg,x.1.cps.size ≤ 6∧x.1.cps.all (· < 128) = true) ∧
 ∀ (p:Addr) (ps:List Part) (H':Hp),zbg H' p (word,ps)->zb3 words many sg (word,ps)->BagAt H' b c cs->Kp b H H'->Q (.ref p) H'
set_option maxHeartbeats 1000000 in
theorem zc9 (T:Txt K mg a):FnOk P w K mg base (CX1 P w) 4 a.f_law_row a.d_law_row ["bag","word","words","many","signs"] sp_row:=by
 refine T.F_law_row.okC sc_law_row (fun vs H Q E h=>?_) (fun cdv A outer s H vs Q E hr h=>?_)
 ·obtain ⟨b,c,sl,cs,word,ls,words,many,as,sg,rfl,_⟩:=h
  rfl
 ·obtain ⟨b,c,sl,cs,word,ls,words,many,as,sg,rfl,hb,hs,nb,hw,w0,w1,m0,m1,hf,sl1,tk,q⟩:=h
  have hu:=za0 hr
  refine ⟨_,(zab (zal (i:=5) sc_law_row.nd (by rfl) (Or.inl rfl) (zbo (zaa (pv 1) pa_nil)))
   (zab (zbd PassesOwn.never (by rfl) (zcT (zeJ hu (zbM (zaT T) (hr.mono (by decide)) (by rfl) T.m_law_letters T.F_law_letters.kp T.b_law_letters .nil zau) (pv 1) (fun _ _=>rfl))) (zav (i:=6) sc_law_row.nd (by rfl) (Or.inl rfl))
   (zae (zay (zai op_eq (pv 6) zaf (zan _)) (zab (zej (i:=7) sc_law_row.nd (by rfl) (Or.inl rfl) (N':=["one","bag","words"]) (cap:=[none,some 0,some 2]) ⟨rfl,(by decide +kernel),(by decide +kernel),(by rfl),rfl,(by rfl)⟩ (by rfl) (zcT (zar ix_F (zar ix_F (pv 4) (zar ix_F (pv 5) zac (fun _ _=>rfl)) (fun _ _=>rfl)) zac (fun _ _=>rfl))) (fun C_ ex_ s_ H_=>(zav (i:=0) (show (["one","bag","words"]:List Str).Nodup by decide +kernel) (by rfl) (Or.inl rfl))) zaH (fun C_ ex_ s_ H_=>zaU) (fun C_ ex_ s_ H_=>(zah (zag T) (by exact hr.mono (by decide)) (by rfl) T.m_law_draw T.F_law_draw.kp T.b_law_draw .nil zau (zaa (pv 1) (zaa (zam op_add zac (pv 2)) pa_nil)))))
   (zae (zal (i:=5) sc_law_row.nd (by rfl) (Or.inl rfl) (zam op_catT (pv 5) (zbo (zaa (zax call_tuple_of (by rfl) T.z_tuple (by decide +kernel) (zaa (pv 7) pa_nil)) pa_nil)))))) (zae (zal (i:=5) sc_law_row.nd (by rfl) (Or.inl rfl) (zam op_catT (pv 5) (zbo (zaa (zah (zd9 T) (hr.mono (by decide)) (by rfl) T.m_law_part T.F_law_part.kp T.b_law_part .nil zau (zaa (pv 0) (zaa (pv 6) (zaa (pv 2) (zaa (pv 3) (zaa (pv 4) pa_nil)))))) pa_nil))))))))
   (zae (zaq (pv 5))))),?_⟩
  obtain ⟨ls3,lsa,lsv⟩:=LW_ok _ hw
  have lsl:=LW_letter _ hw
  simp! []
  intro r0 hr0
  refine forS_ (fun z H1=>z = ls∧Same (upd H r0 (.tup [.str word])) H1) (fun Q2 hQ=>?_) ?_
  ·simp! []
   refine ⟨rfl,fun p H' S hp e=>?_⟩
   simp! [e,lsv]
   exact hQ _ _ ⟨rfl,S⟩
  rintro z H1 ⟨rfl,S1⟩
  have hb1:BagAt H1 b c cs:=(hb.laid hr0).keep S1
  have k1:Kp b H H1:=fun q o h _=>S1 _ _ (zaj h hr0)
  refine forS (H1:=H1) z (fun Q2 h2=>h2) lsa (fun i σ H2=>∃ (rp:Addr) (ps:List Part) (v6 v7:Option V),σ = [some (.ref b),some (.str word),some (.int words),some (.int many),some (.ref sl),some (.ref rp),v6,v7]∧ps.length = i∧zbg H2 rp (word,ps)∧PartsFit words many sg z ps∧BagAt H2 b c cs∧Kp b H H2)
   ⟨r0,[],_,_,rfl,rfl,⟨[],S1 _ _ zad,rfl,fun i v p h=>by simp at h⟩,⟨fun i c p _ h=>by simp at h⟩,hb1,k1⟩ ?_ ?_
  ·rintro i ch σ H2 hch ⟨rp,ps,v6,v7,rfl,li,R,F,hb2,k2⟩
   have hs2:=hs.kp hb k2 nb
   obtain ⟨vs,hrp,PA⟩:=R
   have vl:=PA.len
   have i3:i < 3:=by
    have:=(Array.getElem?_eq_some_iff.mp hch).1
    have:z.cps.size ≤ 3:=ls3
    omega
   simp! []
   rw [show Str.ofString "q" = ⟨#[113]⟩ by decide]
   have e1:∀ {x y:Nat},((⟨#[x]⟩:Str) = ⟨#[y]⟩)->x = y:=fun h=>by injection h with h; simpa using h
   refine ite2 (fun h=>?_) fun h=>?_
   ·have eq:=e1 h
    subst eq
    obtain ⟨_,rfl,h102⟩:(113:Nat) = 113∧i = 2∧z.cps[1]? = some 102:=by
     rcases lsl i 113 hch with hl | hl
     ·omega
     ·exact hl
    obtain ⟨f,hf1,f0,f1⟩:∃ f:Int,ps[1]? = some (.inl f)∧0 ≤ f∧f < sg.length:=by
     have h1:1 < ps.length:=by omega
     have:=F.at_ 1 102 ps[1] h102 (List.getElem?_eq_getElem h1)
     rcases this with ⟨e,_⟩ | ⟨e,_⟩ | ⟨e,_⟩ | ⟨_,x,e,x0,x1⟩ | ⟨e,_⟩ | ⟨e,_⟩
     ·omega
     ·omega
     ·omega
     ·exact ⟨x,by rw [List.getElem?_eq_getElem h1,e],x0,x1⟩
     ·omega
     ·omega
    obtain ⟨fN,rfl⟩:=Int.eq_ofNat_of_zero_le f0
    have hfN:fN < sg.length:=by omega
    have hz:=List.getElem?_eq_getElem hfN
    obtain ⟨tk1,tk2⟩:=tk _ (List.getElem_mem hfN)
    obtain ⟨sp',hsp,hspt⟩:=hs2.at_ hz
    revert hz hspt tk1 tk2
    generalize sg[fN] = zz
    intro hz tk1 tk2 hspt
    have hv1:vs[1]? = some (.int fN):=by
     have h1:1 < vs.length:=by rw [vl]; simp; omega
     have:=PA.at_ 1 vs[1] _ (List.getElem?_eq_getElem h1) hf1
     rw [List.getElem?_eq_getElem h1,this]
    have a1:atI (V.str word :: vs) 2 = some (.int fN):=zaQ (j:=2) (by rw [List.getElem?_cons_succ]; exact hv1)
    have top2:=hs2.top
    have a2:atI (as.map V.ref) ((fN:Nat):Int) = some (.ref sp'):=zaQ (by rw [List.getElem?_map,hsp]; rfl)
    refine ziz (H1:=H2) zz.1 (fun Q2 hQ=>by simp! [hrp,a1,top2,a2,hspt]; exact hQ) tk2 (fun D i ys H3=>∃ l:List Int,l.length = i∧ys = l.map V.int∧(∀ x ∈ l,0 ≤ x∧x < 8 + words)∧H3 D = some (.lst ys)∧BagAt H3 b c cs∧Kp b H2 H3)
     (fun D hD=>⟨[],rfl,rfl,by simp,zad,hb2.laid hD,Kp.refl.laid hD⟩) ?_ (by rw [sizeLine_eq]; omega) ?_ ?_
    ·rintro D hD i ys H3 hi ⟨l,l1,rfl,l2,hd,hb3,k3⟩
     exact ⟨hd,by rw [List.length_map]; omega⟩
    ·rintro D hD i ch ys H3 hi ⟨l,l1,rfl,l2,hd,hb3,k3⟩
     simp! [zaE,tTrue]
     refine ⟨b,c,cs,_,rfl,hb3,by omega,by omega,fun x H4 x0 x1 hb4 k4=>?_⟩
     have nD:D ≠ b:=fun e=>by
      obtain ⟨o,h⟩:=hb2.has
      rw [← e,hD] at h; cases h
     have nc:D ≠ c:=fun e=>by
      have h:=hb2.at_
      rw [← e,hD] at h; cases h
     have hd4:=k4 _ _ hd nD
     refine ⟨hd4,l ++ [x],by rw [List.length_append,l1]; rfl,by simp,fun y hy=>?_,hb4.other nD nc,fun q o h n=>?_⟩
     ·rcases List.mem_append.mp hy with h | h
      ·exact l2 y h
      ·rw [List.mem_singleton.mp h]; exact ⟨x0,x1⟩
     ·rw [zat (zaA h hD)]
      exact k4 _ _ (k3 _ _ h n) n
    ·rintro D hD ys H3 ⟨l,l1,rfl,l2,hd,hb3,k3⟩
     refine ⟨D,rfl,_,.inl ⟨.of hd,fun tq htq p1 hp1=>?_⟩⟩
     have hrp3:=hb2.tup k3 hrp
     refine ⟨rp,p1,_,_,rfl,rfl,.of (zaj (zaj hrp3 htq) hp1),.of zad,by simp,?_,(fun e=>by cases e),fun _ p2 hp2=>?_⟩
     ·rw [sizeLine_eq]; simp; simp at vl; omega
     ·have K4:=((k3.laid (u:=.tup (l.map V.int)) htq).laid (u:=.tup [.ref tq]) hp1).laid (u:=.tup (.str word :: vs ++ [.ref tq])) hp2
      have S4:=((Same.laid (u:=.tup (l.map V.int)) htq).step (u:=.tup [.ref tq]) hp1).step (u:=.tup (.str word :: vs ++ [.ref tq])) hp2
      refine ⟨p2,rfl,ps ++ [.inr l],by rw [List.length_append,li]; rfl,⟨vs ++ [.ref tq],zad,(PA.kp hb2 K4).snoc (v:=.ref tq) (p:=.inr l) ⟨tq,rfl,zaj (zaj zad hp1) hp2⟩⟩,F.snoc (by rw [li]; exact hch) ?_,hb3.keep S4,k2.trans K4⟩
      refine .inr (.inr (.inr (.inr (.inr ⟨rfl,fN,l,zz,?_,hz,rfl,l1,l2⟩))))
      rw [List.getElem?_append_left (by omega)]
      exact hf1
   ·have nq:ch ≠ 113:=fun e=>h (by rw [e])
    rcases lsl i ch hch with hl | ⟨hl,_⟩
    ·refine ⟨b,c,sl,cs,ch,words,many,as,sg,rfl,hb2,hs2,nb,hl,w0,w1,m0,m1,fun e=>hf (by rw [← e]; exact Array.mem_toList_iff.mpr (Array.mem_of_getElem? hch)),sl1,fun x H3 fit hb3 k3=>?_⟩
     simp! []
     intro p1 hp1
     have hrp3:=hb2.tup k3 hrp
     have P3:=PA.kp hb2 k3
     refine ⟨rp,p1,_,_,rfl,rfl,.of (zaj hrp3 hp1),.of zad,by simp,?_,(fun e=>by cases e),fun _ p2 hp2=>?_⟩
     ·rw [sizeLine_eq]; simp; simp at vl; omega
     ·have S4:Same H3 (upd (upd H3 p1 (.tup [.int x])) p2 (.tup (.str word :: vs ++ [.int x]))):=(Same.laid hp1).step hp2
      have K4:Kp b H2 (upd (upd H3 p1 (.tup [.int x])) p2 (.tup (.str word :: vs ++ [.int x]))):=(k3.laid hp1).laid hp2
      refine ⟨p2,rfl,ps ++ [.inl x],by rw [List.length_append,li]; rfl,⟨vs ++ [.int x],zad,(PA.kp hb2 K4).snoc (v:=.int x) (p:=.inl x) rfl⟩,F.snoc (by rw [li]; exact hch) (fit _),hb3.keep S4,k2.trans K4⟩
    ·exact absurd hl nq
  ·rintro σ H2 ⟨rp,ps,v6,v7,rfl,li,R,F,hb2,k2⟩
   simp! []
   exact q rp ps H2 R ⟨z,hw,li,F⟩ hb2 k2
end
section
variable {P:Program} {w:World} {K:PySem.W.Frag} {mg:Str->Option Value} {base:Heap} {a:Ad}
structure RowsOf (H:Hp) (rl:Addr) (rs:List Addr) (rws:List Row):Prop where
 top:H rl = some (.lst (rs.map V.ref))
 len:rs.length = rws.length
 row:∀ (i:Nat) (p:Addr) (r:Row),rs[i]? = some p->rws[i]? = some r->zbg H p r
theorem RowsOf.kp {H H':Hp} {b c rl:Addr} {cs:List Int} {rs:List Addr} {rws:List Row} (x:BagAt H b c cs) (k:Kp b H H') (n:rl ≠ b) (h:RowsOf H rl rs rws):RowsOf H' rl rs rws:=⟨k _ _ h.top n,h.len,fun i p y h1 h2=>(h.row i p y h1 h2).kp x k⟩
theorem zbg.fr {H H':Hp} {M:Addr->Prop} {q:Addr} {r:Row} (f:Fr M H H') (h:zbg H q r):zbg H' q r:=by
 obtain ⟨vs,e,hl,h⟩:=h
 refine ⟨vs,f.tups _ _ e,hl,fun i v p h1 h2=>?_⟩
 have:=h i v p h1 h2
 cases p with
 | inl y=>exact this
 | inr l=>obtain ⟨t,e,h⟩:=this; exact ⟨t,e,f.tups _ _ h⟩
theorem RowsOf.snoc {H H':Hp} {M:Addr->Prop} {rl p:Addr} {rs:List Addr} {rws:List Row} {r:Row} (f:Fr M H H') (h:∀ (i:Nat) (p:Addr) (r:Row),rs[i]? = some p->rws[i]? = some r->zbg H p r) (len:rs.length = rws.length) (top:H' rl = some (.lst (rs.map V.ref ++ [.ref p]))) (hr:zbg H' p r):RowsOf H' rl (rs ++ [p]) (rws ++ [r]):=⟨by rw [top,List.map_append]; rfl,by rw [List.length_append,List.length_append,len]; rfl,fun i q y h1 h2=>by
 by_cases d:i < rws.length
 ·rw [List.getElem?_append_left d] at h2
  rw [List.getElem?_append_left (by rw [len]; exact d)] at h1
  exact (h i q y h1 h2).fr f
 ·have e:i = rws.length:=by
   have:=(List.getElem?_eq_some_iff.mp h2).1
   rw [List.length_append,List.length_singleton] at this
   omega
  rw [e] at h1 h2
  rw [List.getElem?_append_right (Nat.le_refl _),Nat.sub_self] at h2
  rw [← len,List.getElem?_append_right (Nat.le_refl _),Nat.sub_self] at h1
  cases h1
  cases h2
  exact hr⟩
noncomputable def zhC (rws:List Row):Prop:=∃ r,rws.getLast? = some r∧(r.1 = "back" ∨ r.1 = "jump")
noncomputable def sp_rows:Sp:=fun vs H Q _=>∃ (b c sl:Addr) (cs:List Int) (words:Int) (many:Nat) (as:List Addr) (sg:List Sg),vs = [.ref b,.int words,.int many,.ref sl]∧BagAt H b c cs∧SgAt H sl as sg∧sl ≠ b ∧
 0 ≤ words∧words ≤ 16∧0 < many∧many ≤ 1000∧0 < sg.length∧sg.length ≤ 1000∧(∀ x ∈ sg,x.1.cps.size ≤ 6∧x.1.cps.all (· < 128) = true) ∧
 ∀ (rl:Addr) (rs:List Addr) (rws:List Row) (H':Hp),RowsOf H' rl rs rws->rws.length = many->(∀ r ∈ rws,zb3 words many sg r)->zhC rws->H rl = none->BagAt H' b c cs->Kp b H H'->Q (.ref rl) H'
theorem LET_keys:(LET.map fun p=>kV p.1) = LW.map fun p=>V.str p.1:=by
 rw [LET,List.map_map]
 rfl
set_option maxHeartbeats 1000000 in
theorem zep (T:Txt K mg a):FnOk P w K mg base (CX1 P w) 5 a.f_law_rows a.d_law_rows ["bag","words","many","signs"] sp_rows:=by
 refine T.F_law_rows.okC sc_law_rows (fun vs H Q E h=>?_) (fun cdv A outer s H vs Q E hr h=>?_)
 ·obtain ⟨b,c,sl,cs,words,many,as,sg,rfl,_⟩:=h
  rfl
 ·obtain ⟨b,c,sl,cs,words,many,as,sg,rfl,hb,hs,nb,w0,w1,m0,m1,g0,g1,tk,q⟩:=h
  have hu:=za0 hr
  refine ⟨_,(zab (zal (i:=4) sc_law_rows.nd (by rfl) (Or.inl rfl) (zaC pa_nil))
   (zab (zbd PassesOwn.never (by rfl) (zaI (by rfl) T.z_range (zaa (zam op_sub (pv 2) zac) pa_nil)) (zav (i:=5) sc_law_rows.nd (by rfl) (Or.inl rfl))
   (zab (zal (i:=6) sc_law_rows.nd (by rfl) (Or.inl rfl) (zar ix_F (zax (zbs (by rfl)) (by rfl) T.z_list (by decide +kernel) (zaa (zbM (zaT T) (hr.mono (by decide)) (by rfl) T.m_law_letters T.F_law_letters.kp T.b_law_letters .nil zau) pa_nil)) (zah (zag T) (hr.mono (by decide)) (by rfl) T.m_law_draw T.F_law_draw.kp T.b_law_draw .nil zau (zaa (pv 0) (zaa zac pa_nil))) (fun _ _=>rfl)))
   (zae (zaZ (zaR PySem.F.plainAttrs_list PySem.F.slot_list_append PySem.F.type_list_append mt_append (pv 4) (zaa (zah (zc9 T) (hr.mono (by decide)) (by rfl) T.m_law_row T.F_law_row.kp T.b_law_row .nil zau (zaa (pv 0) (zaa (pv 6) (zaa (pv 1) (zaa (pv 2) (zaa (pv 3) pa_nil)))))) pa_nil))))))
   (zab (zaZ (zaR PySem.F.plainAttrs_list PySem.F.slot_list_append PySem.F.type_list_append mt_append (pv 4) (zaa (zah (zc9 T) (hr.mono (by decide)) (by rfl) T.m_law_row T.F_law_row.kp T.b_law_row .nil zau (zaa (pv 0) (zaa (zar ix_F (zaC (zaa zaf (zaa zaf pa_nil))) (zah (zag T) (hr.mono (by decide)) (by rfl) T.m_law_draw T.F_law_draw.kp T.b_law_draw .nil zau (zaa (pv 0) (zaa zac pa_nil))) (fun _ _=>rfl)) (zaa (pv 1) (zaa (pv 2) (zaa (pv 3) pa_nil)))))) pa_nil)))
   (zae (zaq (pv 4)))))),?_⟩
  simp! []
  intro rl hrl
  have nrl:rl ≠ b:=fun e=>by
   obtain ⟨o,h⟩:=hb.has
   rw [← e,hrl] at h; cases h
  have nrc:rl ≠ c:=fun e=>by
   have h:=hb.at_
   rw [← e,hrl] at h; cases h
  have step:∀ {H2 H3 H4:Hp} {rs:List Addr} {rws:List Row} {p:Addr} {r:Row},RowsOf H2 rl rs rws->BagAt H2 b c cs->Kp b H H2->Kp b H2 H3->BagAt H3 b c cs->zbg H3 p r->H3 rl = some (.lst (rs.map V.ref))∧RowsOf (upd H3 rl (.lst (rs.map V.ref ++ [.ref p]))) rl (rs ++ [p]) (rws ++ [r])∧BagAt (upd H3 rl (.lst (rs.map V.ref ++ [.ref p]))) b c cs∧Kp b H (upd H3 rl (.lst (rs.map V.ref ++ [.ref p]))):=by
   intro H2 H3 H4 rs rws p r R hb2 k2 k3 hb3 hr
   have R3:=R.kp hb2 k3 nrl
   have F:Fr (· = rl) H3 (upd H3 rl (.lst (rs.map V.ref ++ [.ref p]))):=.put rfl (zcg R3.top)
   refine ⟨R3.top,RowsOf.snoc F R3.row R3.len zad (hr.fr F),hb3.other nrl nrc,fun q o h n=>?_⟩
   rw [zat (zaA h hrl)]
   exact k3 _ _ (k2 _ _ h n) n
  refine for1 (H1:=upd H rl (.lst [])) ((many:Int) - 1) (fun Q2 h2=>by simp! []; exact h2) (by omega) (by omega) (fun i σ H2=>∃ (rs:List Addr) (rws:List Row) (v5 v6:Option V),σ = [some (.ref b),some (.int words),some (.int many),some (.ref sl),some (.ref rl),v5,v6]∧RowsOf H2 rl rs rws∧rws.length = i∧(∀ r ∈ rws,zb3 words many sg r)∧BagAt H2 b c cs∧Kp b H H2)
   ⟨[],[],_,_,rfl,⟨zad,rfl,fun i p r h=>by simp at h⟩,rfl,by simp,hb.laid hrl,Kp.refl.laid hrl⟩ ?_ ?_
  ·rintro i σ H2 hi ⟨rs,rws,v5,v6,rfl,R,lr,rf,hb2,k2⟩
   simp! []
   refine ⟨rfl,fun p H3 S3 np e3=>?_⟩
   simp! [e3]
   intro l hl
   rw [LET_keys]
   have nl:l ≠ b:=fun e=>by
    obtain ⟨o,h⟩:=(hb2.keep S3).has
    rw [← e,hl] at h; cases h
   refine ⟨b,c,cs,21,rfl,(hb2.keep S3).laid hl,by decide,by decide,fun x H4 x0 x1 hb4 k4=>?_⟩
   have k24:Kp b H2 H4:=(Kp.laid (fun q o h _=>S3 q o h) hl).trans k4
   have hl4:=k4 _ _ zad nl
   obtain ⟨xN,rfl⟩:=Int.eq_ofNat_of_zero_le x0
   have hx:xN < LW.length:=by
    have:LW.length = 21:=by decide +kernel
    omega
   have hwm:=List.getElem_mem hx
   have a1:atI (LW.map fun p=>V.str p.1) ((xN:Nat):Int) = some (.str LW[xN].1):=zaQ (by rw [List.getElem?_map,List.getElem?_eq_getElem hx]; rfl)
   revert hwm a1
   generalize LW[xN] = wd
   intro hwm a1
   simp! [hl4,a1,tBM]
   have R4:=R.kp hb2 k24 nrl
   refine ⟨.inl ⟨rfl,_,.of R4.top⟩,b,c,sl,cs,wd.1,wd.2,words,many,as,sg,rfl,hb4,hs.kp hb (k2.trans k24) nb,nb,hwm,w0,w1,by omega,by omega,fun _=>g0,g1,tk,fun p ps H5 RA RF hb5 k5=>?_⟩
   obtain ⟨t5,R5,hb5',k5'⟩:=step (H4:=H5) R4 hb4 (k2.trans k24) k5 hb5 RA
   refine ⟨rl,_,_,rfl,rfl,t5,?_,rs ++ [p],rws ++ [(wd.1,ps)],R5,by rw [List.length_append,lr]; rfl,fun r hr=>?_,hb5',k5'⟩
   ·rw [sizeLine_eq,List.length_map,R.len]; omega
   ·rcases List.mem_append.mp hr with h | h
    ·exact rf r h
    ·rw [List.mem_singleton.mp h]; exact RF
  ·rintro σ H2 ⟨rs,rws,v5,v6,rfl,R,lr,rf,hb2,k2⟩
   simp! [tBM]
   refine ⟨.inl ⟨rfl,_,.of R.top⟩,fun l hl=>?_⟩
   have nl:l ≠ b:=fun e=>by
    obtain ⟨o,h⟩:=hb2.has
    rw [← e,hl] at h; cases h
   refine ⟨b,c,cs,2,rfl,hb2.laid hl,by decide,by decide,fun x H4 x0 x1 hb4 k4=>?_⟩
   have k24:Kp b H2 H4:=(Kp.refl.laid hl).trans k4
   have hl4:=k4 _ _ zad nl
   obtain ⟨xN,rfl⟩:=Int.eq_ofNat_of_zero_le x0
   have R4:=R.kp hb2 k24 nrl
   obtain ⟨wd,a1,wm,wo⟩:∃ wd:Str × Str,atI [V.str "back",V.str "jump"] ((xN:Nat):Int) = some (.str wd.1)∧wd ∈ LW∧(wd.1 = "back" ∨ wd.1 = "jump"):=by
    match xN,x1 with
    | 0,_=>exact ⟨("back","p"),zc4,by decide +kernel,.inl rfl⟩
    | 1,_=>exact ⟨("jump","t"),zdC,by decide +kernel,.inr rfl⟩
    | n + 2,h=>omega
   simp! [hl4,a1]
   refine ⟨b,c,sl,cs,wd.1,wd.2,words,many,as,sg,rfl,hb4,hs.kp hb (k2.trans k24) nb,nb,wm,w0,w1,by omega,by omega,fun _=>g0,g1,tk,fun p ps H5 RA RF hb5 k5=>?_⟩
   obtain ⟨t5,R5,hb5',k5'⟩:=step (H4:=H5) R4 hb4 (k2.trans k24) k5 hb5 RA
   refine ⟨rl,_,_,rfl,rfl,t5,?_,?_⟩
   ·rw [sizeLine_eq,List.length_map,R.len]; omega
   ·simp! []
    refine q rl _ (rws ++ [(wd.1,ps)]) _ R5 (by rw [List.length_append,lr,List.length_singleton]; omega) (fun r hr=>?_) ⟨_,by rw [List.getLast?_append]; rfl,wo⟩ hrl hb5' k5'
    rcases List.mem_append.mp hr with h | h
    ·exact rf r h
    ·rw [List.mem_singleton.mp h]; exact RF
end
section
variable {P:Program} {w:World} {K:PySem.W.Frag} {mg:Str->Option Value} {base:Heap} {a:Ad}
theorem zd2 (l:List Nat):PySem.Txt.join "" (l.map fun c=>(⟨#[c]⟩:Str)) = ⟨l.toArray⟩:=by
 have key:∀ (r:List Nat) (acc:Array Nat),(r.map fun c=>(⟨#[c]⟩:Str)).foldl (fun acc p=>acc ++ (Str.ofString "").cps ++ p.cps) acc = acc ++ r.toArray:=by
  intro r
  induction r with
  | nil=>intro acc; simp
  | cons c r ih =>
   intro acc
   rw [List.map_cons,List.foldl_cons,ih]
   rw [show (Str.ofString "").cps = #[] by decide]
   simp
 cases l with
 | nil=>rfl
 | cons c r =>
  show (⟨(r.map fun c=>(⟨#[c]⟩:Str)).foldl (fun acc p=>acc ++ (Str.ofString "").cps ++ p.cps) #[c]⟩:Str) = _
  rw [key]
  simp
noncomputable def NH (c:Nat):Prop:=c = 110 ∨ c = 104
structure SgFit (sg:List Sg):Prop where
 sz:∀ x ∈ sg,x.1.cps.size ≤ 6
 let_:∀ x ∈ sg,∀ c ∈ x.1.cps.toList,NH c
 gives:∀ x ∈ sg,x.2 = ⟨#[110]⟩ ∨ x.2 = ⟨#[104]⟩
 first:∀ x:Sg,sg[0]? = some x->(∀ c ∈ x.1.cps.toList,c = 110)∧x.2 = ⟨#[110]⟩
theorem SgFit.asc {sg:List Sg} (x:SgFit sg):∀ y ∈ sg,y.1.cps.size ≤ 6∧y.1.cps.all (· < 128) = true:=fun y hy=>⟨x.sz y hy,by
 rw [← Array.all_toList,List.all_eq_true]
 intro c hc
 rcases x.let_ y hy c hc with h | h <;> rw [h] <;> decide⟩
noncomputable def sp_signs:Sp:=fun vs H Q _=>∃ (b c:Addr) (cs:List Int) (many:Nat),vs = [.ref b,.int many]∧BagAt H b c cs∧0 < many∧many ≤ 1000 ∧
 ∀ (sl:Addr) (as:List Addr) (sg:List Sg) (H':Hp),SgAt H' sl as sg->sg.length = many->SgFit sg->H sl = none->BagAt H' b c cs->Kp b H H'->Q (.ref sl) H'
theorem six_n:∀ k:Nat,k < 7->(PySem.Txt.slice (Str.ofString "nnnnnn") none (some (k:Int))).cps.size ≤ 6∧∀ c ∈ (PySem.Txt.slice (Str.ofString "nnnnnn") none (some (k:Int))).cps.toList,c = 110:=by decide +kernel
set_option maxHeartbeats 1000000 in
theorem zdT (T:Txt K mg a):FnOk P w K mg base (CX1 P w) 2 a.f_law_signs a.d_law_signs ["bag","many"] sp_signs:=by
 refine T.F_law_signs.okC sc_law_signs (fun vs H Q E h=>?_) (fun cdv A outer s H vs Q E hr h=>?_)
 ·obtain ⟨b,c,cs,many,rfl,_⟩:=h
  rfl
 ·obtain ⟨b,c,cs,many,rfl,hb,m0,m1,q⟩:=h
  have hu:=za0 hr
  refine ⟨_,(zab (zal (i:=2) sc_law_signs.nd (by rfl) (Or.inl rfl) (zaC (zaa (zbo (zaa (zas sl_str zaf po_none (zaw (zah (zag T) (hr.mono (by decide)) (by rfl) T.m_law_draw T.F_law_draw.kp T.b_law_draw .nil zau (zaa (pv 0) (zaa zac pa_nil))))) (zaa zaf pa_nil))) pa_nil)))
   (zab (zbd PassesOwn.never (by rfl) (zaI (by rfl) T.z_range (zaa (zam op_sub (pv 1) zac) pa_nil)) (zav (i:=3) sc_law_signs.nd (by rfl) (Or.inl rfl))
   (zab (zal (i:=4) sc_law_signs.nd (by rfl) (Or.inl rfl) (zaR PySem.F.plainAttrs_str PySem.F.slot_str_join PySem.F.type_str_join mt_join zaf (zaa (za7 (N':=["j","bag"]) (cap:=[none,some 0]) ⟨rfl,(by decide +kernel),(by decide +kernel),(by rfl),rfl,(by rfl)⟩ (by rfl) (zaI (by rfl) T.z_range (zaa (zah (zag T) (hr.mono (by decide)) (by rfl) T.m_law_draw T.F_law_draw.kp T.b_law_draw .nil zau (zaa (pv 0) (zaa zac pa_nil))) pa_nil)) (fun C_ ex_ s_ H_=>(zav (i:=0) (show (["j","bag"]:List Str).Nodup by decide +kernel) (by rfl) (Or.inl rfl))) zaH (fun C_ ex_ s_ H_=>zaU) (fun C_ ex_ s_ H_=>(zar ix_str zaf (zah (zag T) (by exact hr.mono (by decide)) (by rfl) T.m_law_draw T.F_law_draw.kp T.b_law_draw .nil zau (zaa (pv 1) (zaa zac pa_nil))) (fun _ _=>rfl)))) pa_nil)))
   (zae (zaZ (zaR PySem.F.plainAttrs_list PySem.F.slot_list_append PySem.F.type_list_append mt_append (pv 2) (zaa (zbo (zaa (pv 4) (zaa (zar ix_str zaf (zah (zag T) (hr.mono (by decide)) (by rfl) T.m_law_draw T.F_law_draw.kp T.b_law_draw .nil zau (zaa (pv 0) (zaa zac pa_nil))) (fun _ _=>rfl)) pa_nil))) pa_nil))))))
   (zae (zaq (pv 2))))),?_⟩
  simp! [tSl,tNoPart,zbv,rSlS]
  have nh:Str.ofString "nh" = ⟨#[110,104]⟩:=by decide
  have pick:∀ x:Nat,(x:Int) < 2->∃ c,atI (Str.ofString "nh").cps.toList (x:Int) = some c∧NH c:=fun x hx=>by
   rw [nh]
   match x,hx with
   | 0,_=>exact ⟨110,zc4,.inl rfl⟩
   | 1,_=>exact ⟨104,zdC,.inr rfl⟩
   | n + 2,h=>omega
  refine ⟨b,c,cs,7,rfl,hb,by decide,by decide,fun d H1 d0 d1 hb1 k1=>⟨d,rfl,by decide,?_⟩⟩
  obtain ⟨dN,rfl⟩:=Int.eq_ofNat_of_zero_le d0
  obtain ⟨z1,z2⟩:=six_n dN (by omega)
  revert z1 z2
  generalize PySem.Txt.slice (Str.ofString "nnnnnn") none (some (dN:Int)) = t0
  intro z1 z2
  intro p0 hp0 sl hsl
  have n1:H sl = none:=by
   cases e:H sl with
   | none=>rfl
   | some o =>
    by_cases eb:sl = b
    ·obtain ⟨o',h'⟩:=hb1.has
     have:=zaj (u:=.tup [V.str t0,V.str (Str.ofString "n")]) h' hp0
     rw [← eb,hsl] at this; cases this
    ·have:=zaj (u:=.tup [V.str t0,V.str (Str.ofString "n")]) (k1 _ _ e eb) hp0
     rw [hsl] at this; cases this
  have nb:sl ≠ b:=fun e=>by
   obtain ⟨o,h⟩:=hb.has
   rw [← e,n1] at h; cases h
  have nc:sl ≠ c:=fun e=>by
   have h:=hb.at_
   rw [← e,n1] at h; cases h
  have en:Str.ofString "n" = ⟨#[110]⟩:=by decide
  rw [en] at hsl ⊢
  refine for1 ((many:Int) - 1) (fun Q2 h2=>by simp! []; exact h2) (by omega) (by omega) (fun i σ H2=>∃ (as:List Addr) (sg:List Sg) (v3 v4:Option V),σ = [some (.ref b),some (.int many),some (.ref sl),v3,v4]∧SgAt H2 sl as sg∧sg.length = i + 1∧SgFit sg∧BagAt H2 b c cs∧Kp b H H2)
   ⟨[p0],[(t0,⟨#[110]⟩)],_,_,rfl,⟨zad,rfl,fun i p x h1 h2=>?_⟩,rfl,⟨?_,?_,?_,?_⟩,(hb1.laid hp0).laid hsl,(k1.laid hp0).laid hsl⟩ ?_ ?_
  ·match i,h1,h2 with
   | 0,h1,h2 =>
    cases h1; cases h2
    exact zaj zad hsl
   | i + 1,h1,h2=>simp at h1
  ·intro x hx
   rw [List.mem_singleton.mp hx]; exact z1
  ·intro x hx y hy
   rw [List.mem_singleton.mp hx] at hy; exact .inl (z2 y hy)
  ·intro x hx
   rw [List.mem_singleton.mp hx]; exact .inl rfl
  ·intro x hx
   cases hx
   exact ⟨z2,rfl⟩
  ·rintro i σ H2 hi ⟨as,sg,v3,v4,rfl,S,ls,sf,hb2,k2⟩
   simp! [tBM]
   refine ⟨rfl,?_⟩
   refine ziZ (fun n H3=>0 ≤ n∧n < 7∧BagAt H3 b c cs∧Kp b H2 H3) (fun Q2 hQ=>?_) ?_
   ·simp! []
    exact ⟨b,c,cs,7,rfl,hb2,by decide,by decide,fun r H3 r0 r1 B3 k3=>hQ _ _ ⟨r0,r1,B3,k3⟩⟩
   rintro n H3 ⟨n0,n7,hb3,k3⟩
   refine zeu (H1:=H3) n (fun Q2 h2=>h2) (by omega) (by omega) (fun D i ys H4=>∃ l:List Nat,l.length = i∧ys = (l.map fun c=>(⟨#[c]⟩:Str)).map V.str∧(∀ x ∈ l,NH x)∧H4 D = some (.lst ys)∧BagAt H4 b c cs∧Kp b H3 H4)
    (fun D hD=>⟨[],rfl,rfl,by simp,zad,hb3.laid hD,Kp.refl.laid hD⟩) ?_ (by rw [sizeLine_eq]; omega) ?_ ?_
   ·rintro D hD i ys H4 hi ⟨l,l1,rfl,l2,hd,hb4,k4⟩
    exact ⟨hd,by rw [List.length_map,List.length_map]; omega⟩
   ·rintro D hD i ys H4 hi ⟨l,l1,rfl,l2,hd,hb4,k4⟩
    simp! [zaE,tTrue]
    refine ⟨b,c,cs,_,rfl,hb4,by omega,by omega,fun x H5 x0 x1 hb5 k5=>?_⟩
    have nD:D ≠ b:=fun e=>by
     obtain ⟨o,h⟩:=hb3.has
     rw [← e,hD] at h; cases h
    have nDc:D ≠ c:=fun e=>by
     have h:=hb3.at_
     rw [← e,hD] at h; cases h
    have hd5:=k5 _ _ hd nD
    obtain ⟨xN,rfl⟩:=Int.eq_ofNat_of_zero_le x0
    obtain ⟨ch,hc1,hc2⟩:=pick xN x1
    refine ⟨_,_,ch,rfl,rfl,by decide,hc1,hd5,l ++ [ch],by rw [List.length_append,l1]; rfl,by simp,fun y hy=>?_,hb5.other nD nDc,fun q o h n=>?_⟩
    ·rcases List.mem_append.mp hy with h | h
     ·exact l2 y h
     ·rw [List.mem_singleton.mp h]; exact hc2
    ·rw [zat (zaA h hD)]
     exact k5 _ _ (k4 _ _ h n) n
   ·rintro D hD ys H4 ⟨l,l1,rfl,l2,hd,hb4,k4⟩
    refine ⟨_,D,_,rfl,rfl,hd,?_,?_⟩
    ·rw [show (Str.ofString "").length = 0 by decide,Nat.mul_zero,List.map_map]
     have e1:(l.map ((fun x:Str=>x.length) ∘ fun c=>(⟨#[c]⟩:Str))) = l.map fun _=>1:=rfl
     have e2:(l.map fun _=>1).sum = l.length:=by
      clear l1 l2 hd e1
      induction l with
      | nil=>rfl
      | cons x r ih=>rw [List.map_cons,List.sum_cons,ih,List.length_cons]; omega
     rw [e1,e2]
     omega
    ·rw [zd2]
     have k24:=k3.trans k4
     have S4:=S.kp hb2 k24 nb
     have top4:=S4.top
     simp! []
     refine ⟨.inl ⟨rfl,_,.of top4⟩,b,c,cs,2,rfl,hb4,by decide,by decide,fun x H5 x0 x1 hb5 k5=>?_⟩
     obtain ⟨xN,rfl⟩:=Int.eq_ofNat_of_zero_le x0
     obtain ⟨ch,hc1,hc2⟩:=pick xN x1
     refine ⟨_,_,ch,rfl,rfl,by decide,hc1,fun p hp=>?_⟩
     have k45:=k24.trans k5
     have S5:=S4.kp hb4 k5 nb
     have top5:=zaj (u:=.tup [V.str ⟨l.toArray⟩,V.str ⟨#[ch]⟩]) S5.top hp
     have F:Fr (· = sl) (upd H5 p (.tup [V.str ⟨l.toArray⟩,V.str ⟨#[ch]⟩])) (upd (upd H5 p (.tup [V.str ⟨l.toArray⟩,V.str ⟨#[ch]⟩])) sl (.lst (as.map V.ref ++ [.ref p]))):=.put rfl (zcg top5)
     have F2:=(Fr.laid (M:=(· = sl)) (u:=.tup [V.str ⟨l.toArray⟩,V.str ⟨#[ch]⟩]) hp).trans F
     refine ⟨sl,_,_,rfl,rfl,top5,by rw [sizeLine_eq,List.length_map,S.len]; omega,as ++ [p],sg ++ [(⟨l.toArray⟩,⟨#[ch]⟩)],⟨?_,?_,?_⟩,by rw [List.length_append,ls]; rfl,⟨?_,?_,?_,?_⟩,(hb5.laid hp).other nb nc,fun q o h n=>?_⟩
     ·rw [zad,List.map_append]; rfl
     ·rw [List.length_append,List.length_append,S.len]; rfl
     ·intro j pj xj h1 h2
      by_cases d:j < sg.length
      ·rw [List.getElem?_append_left d] at h2
       rw [List.getElem?_append_left (by rw [S.len]; exact d)] at h1
       exact F2.tups _ _ (S5.row j pj xj h1 h2)
      ·have e:j = sg.length:=by
        have:=(List.getElem?_eq_some_iff.mp h2).1
        rw [List.length_append,List.length_singleton] at this
        omega
       rw [e] at h1 h2
       rw [List.getElem?_append_right (Nat.le_refl _),Nat.sub_self] at h2
       rw [← S.len,List.getElem?_append_right (Nat.le_refl _),Nat.sub_self] at h1
       cases h1
       cases h2
       exact F.tups _ _ zad
     ·intro x hx
      rcases List.mem_append.mp hx with h | h
      ·exact sf.sz x h
      ·rw [List.mem_singleton.mp h]
       show l.toArray.size ≤ 6
       rw [List.size_toArray]; omega
     ·intro x hx y hy
      rcases List.mem_append.mp hx with h | h
      ·exact sf.let_ x h y hy
      ·rw [List.mem_singleton.mp h] at hy
       exact l2 y hy
     ·intro x hx
      rcases List.mem_append.mp hx with h | h
      ·exact sf.gives x h
      ·rw [List.mem_singleton.mp h]
       rcases hc2 with e | e
       ·exact .inl (by rw [e])
       ·exact .inr (by rw [e])
     ·intro x hx
      rw [List.getElem?_append_left (by omega)] at hx
      exact sf.first x hx
     ·rw [zat (zaA h n1)]
      exact zaj (k45 _ _ (k2 _ _ h n) n) hp
  ·rintro σ H2 ⟨as,sg,v3,v4,rfl,S,ls,sf,hb2,k2⟩
   simp! []
   exact q sl as sg H2 S (by omega) sf n1 hb2 k2
end
section
variable {P:Program} {w:World} {K:PySem.W.Frag} {mg:Str->Option Value} {base:Heap} {a:Ad}
abbrev Df:=Sg × Int × List Row
structure ProgAt (H:Hp) (pl:Addr) (das:List (Addr × Addr × List Addr)) (ds:List Df):Prop where
 top:H pl = some (.lst (das.map fun a=>V.ref a.1))
 len:das.length = ds.length
 def_:∀ (i:Nat) (a:Addr × Addr × List Addr) (d:Df),das[i]? = some a->ds[i]? = some d->H a.1 = some (.tup [.str d.1.1,.str d.1.2,.int d.2.1,.ref a.2.1])∧RowsOf H a.2.1 a.2.2 d.2.2
structure DfFit (sg:List Sg) (d:Df):Prop where
 w0:0 ≤ d.2.1
 w1:d.2.1 ≤ 16
 n0:0 < d.2.2.length
 n1:d.2.2.length ≤ 40
 rows:∀ r ∈ d.2.2,zb3 d.2.1 d.2.2.length sg r
 last:zhC d.2.2
structure ProgFit (ds:List Df):Prop where
 sg:SgFit (ds.map (·.1))
 n0:0 < ds.length
 n1:ds.length ≤ 8
 defs:∀ d ∈ ds,DfFit (ds.map (·.1)) d
theorem RowsOf.fr {H H':Hp} {M:Addr->Prop} {rl:Addr} {rs:List Addr} {rws:List Row} (f:Fr M H H') (h:RowsOf H rl rs rws) (n:¬ M rl):RowsOf H' rl rs rws:=⟨f.keep _ _ h.top n,h.len,fun i p r h1 h2=>(h.row i p r h1 h2).fr f⟩
theorem BagAt.kfr' {b c:Addr} {cs:List Int} {H H':Hp} (x:BagAt H b c cs) (k:Kp b H H'):Fr (· = b) H H':=⟨k,fun q xs h=>x.tup k h⟩
noncomputable def sp_program:Sp:=fun vs H Q _=>∃ (b c:Addr) (cs:List Int),vs = [.ref b]∧BagAt H b c cs ∧
 ∀ (pl:Addr) (das:List (Addr × Addr × List Addr)) (ds:List Df) (H':Hp),ProgAt H' pl das ds->ProgFit ds->H pl = none->(∀ (i:Nat) (a:Addr × Addr × List Addr),das[i]? = some a->H a.2.1 = none)->BagAt H' b c cs->Kp b H H'->Q (.ref pl) H'
theorem zc7 {b q:Addr} {H H':Hp} (k:Kp b H H') (n:q ≠ b) (h:H' q = none):H q = none:=by
 cases e:H q with
 | none=>rfl
 | some o=>rw [k _ _ e n] at h; cases h
theorem zit {c X:Prop} [Decidable c] {R:Int->Hp->Prop} {m:Int} {H:Hp} (G:Int->Hp->Prop) (h:(∀ x H',G x H'->R x H')->X) (g:G m H) (r:∀ x H',G x H'->R x H'):if c then X else R m H:=by
 split
 ·exact h r
 ·exact r _ _ g
theorem zgv {c d X Y:Prop} [Decidable c] [Decidable d] {R:Int->Hp->Prop} {m:Int} {H:Hp} (G:Int->Hp->Prop) (h:(∀ x H',G x H'->R x H')->X) (h':(∀ x H',G x H'->R x H')->Y) (g:G m H) (r:∀ x H',G x H'->R x H'):if c then X else if d then Y else R m H:=by
 split
 ·exact h r
 ·split
  ·exact h' r
  ·exact r _ _ g
set_option maxHeartbeats 1000000 in
theorem zc3 (T:Txt K mg a):FnOk P w K mg base (CX1 P w) 6 a.f_law_program a.d_law_program ["bag"] sp_program:=by
 refine T.F_law_program.okC sc_law_program (fun vs H Q E h=>?_) (fun cdv A outer s H vs Q E hr h=>?_)
 ·obtain ⟨b,c,cs,rfl,_⟩:=h
  rfl
 ·obtain ⟨b,c,cs,rfl,hb,q⟩:=h
  have hu:=za0 hr
  refine ⟨_,(zab (zal (i:=1) sc_law_program.nd (by rfl) (Or.inl rfl) (zah (zag T) (hr.mono (by decide)) (by rfl) T.m_law_draw T.F_law_draw.kp T.b_law_draw .nil zau (zaa (pv 0) (zaa zac pa_nil))))
   (zab (zal (i:=2) sc_law_program.nd (by rfl) (Or.inl rfl) (zam op_add zac (zah (zag T) (hr.mono (by decide)) (by rfl) T.m_law_draw T.F_law_draw.kp T.b_law_draw .nil zau (zaa (pv 0) (zaa zac pa_nil)))))
   (zab (zay (zai op_eq (pv 1) zac (zan _)) (zae (zal (i:=2) sc_law_program.nd (by rfl) (Or.inl rfl) (zam op_add zac (zah (zag T) (hr.mono (by decide)) (by rfl) T.m_law_draw T.F_law_draw.kp T.b_law_draw .nil zau (zaa (pv 0) (zaa zac pa_nil)))))) pss_nil)
   (zab (zal (i:=3) sc_law_program.nd (by rfl) (Or.inl rfl) (zah (zdT T) (hr.mono (by decide)) (by rfl) T.m_law_signs T.F_law_signs.kp T.b_law_signs .nil zau (zaa (pv 0) (zaa (pv 2) pa_nil))))
   (zab (zal (i:=4) sc_law_program.nd (by rfl) (Or.inl rfl) (zaC pa_nil))
   (zab (zbd PassesOwn.never (by rfl) (zbm (pv 3)) (zf5 (n:=2) (by rfl) (zbp (zav (i:=5) sc_law_program.nd (by rfl) (Or.inl rfl)) (zbp (zav (i:=6) sc_law_program.nd (by rfl) (Or.inl rfl)) pgs_nil)))
   (zab (zal (i:=7) sc_law_program.nd (by rfl) (Or.inl rfl) (zah (zag T) (hr.mono (by decide)) (by rfl) T.m_law_draw T.F_law_draw.kp T.b_law_draw .nil zau (zaa (pv 0) (zaa zac pa_nil))))
   (zab (zal (i:=8) sc_law_program.nd (by rfl) (Or.inl rfl) (zam op_add (zam op_add zac (zah (zag T) (hr.mono (by decide)) (by rfl) T.m_law_draw T.F_law_draw.kp T.b_law_draw .nil zau (zaa (pv 0) (zaa zac pa_nil)))) (zam op_fdivB (zao call_lenF (by rfl) T.z_len (by decide +kernel) (zaa (zar ix_F (pv 0) zac (fun _ _=>rfl)) pa_nil)) zac)))
   (zab (zay (PW.pt (zck (zai op_eq (pv 1) zac (zan _)) (zbJ (PW.pt (zbT (zai op_eq (pv 1) zac (zan _)) (zbt (zai op_eq (zah (zag T) (hr.mono (by decide)) (by rfl) T.m_law_draw T.F_law_draw.kp T.b_law_draw .nil zau (zaa (pv 0) (zaa zac pa_nil))) zac (zan _)))))))) (zae (zal (i:=8) sc_law_program.nd (by rfl) (Or.inl rfl) (zam op_add zac (zah (zag T) (hr.mono (by decide)) (by rfl) T.m_law_draw T.F_law_draw.kp T.b_law_draw .nil zau (zaa (pv 0) (zaa zac pa_nil)))))) pss_nil)
   (zae (zaZ (zaR PySem.F.plainAttrs_list PySem.F.slot_list_append PySem.F.type_list_append mt_append (pv 4) (zaa (zbo (zaa (pv 5) (zaa (pv 6) (zaa (pv 7) (zaa (zah (zep T) (hr.mono (by decide)) (by rfl) T.m_law_rows T.F_law_rows.kp T.b_law_rows .nil zau (zaa (pv 0) (zaa (pv 7) (zaa (pv 8) (zaa (pv 3) pa_nil))))) pa_nil))))) pa_nil))))))))
   (zae (zaq (pv 4))))))))),?_⟩
  simp! []
  refine ⟨b,c,cs,8,rfl,hb,by decide,by decide,fun big H1 _ _ hb1 k1=>?_⟩
  simp! []
  refine ⟨b,c,cs,3,rfl,hb1,by decide,by decide,fun m H2 m0 m1 hb2 k2=>?_⟩
  simp! []
  apply zit (H:=H2) (m:=m) (fun x H'=>0 ≤ x∧x < 8∧BagAt H' b c cs∧Kp b H H')
  ·exact fun key=>⟨b,c,cs,8,rfl,hb2,by decide,by decide,fun x H3 x0 x1 hb3 k3=>⟨x,rfl,key x H3 ⟨x0,x1,hb3,(k1.trans k2).trans k3⟩⟩⟩
  ·exact ⟨m0,by omega,hb2,k1.trans k2⟩
  clear m0 m1 hb2 k2 hb1 k1 H2 H1
  rintro m H1 ⟨m0,m1,hb1,k1⟩
  obtain ⟨mN,rfl⟩:=Int.eq_ofNat_of_zero_le m0
  refine ⟨b,c,cs,1 + mN,by rw [Int.natCast_add]; rfl,hb1,by omega,by omega,fun sl as sg H2 S ls sf nsl hb2 k2=>?_⟩
  intro pl npl
  have nslb:sl ≠ b:=fun e=>by
   obtain ⟨o,h⟩:=hb1.has
   rw [← e,nsl] at h; cases h
  have nplb:pl ≠ b:=fun e=>by
   obtain ⟨o,h⟩:=hb2.has
   rw [← e,npl] at h; cases h
  have nplc:pl ≠ c:=fun e=>by
   have h:=hb2.at_
   rw [← e,npl] at h; cases h
  have nplsl:sl ≠ pl:=fun e=>by
   have h:=S.top
   rw [e,npl] at h; cases h
  have k12:=k1.trans k2
  have npl0:H pl = none:=zc7 k12 nplb npl
  refine forL (H1:=upd H2 pl (.lst [])) sl _ (fun Q2 h2=>by simp! []; exact h2) (fun i σ H3=>∃ (das:List (Addr × Addr × List Addr)) (ds:List Df) (v5 v6 v7 v8:Option V),σ = [some (.ref b),some (.int big),some (.int (1 + mN)),some (.ref sl),some (.ref pl),v5,v6,v7,v8]∧ProgAt H3 pl das ds∧ds.map (·.1) = sg.take i∧ds.length = i∧(∀ d ∈ ds,DfFit sg d)∧(∀ (j:Nat) (x:Addr × Addr × List Addr),das[j]? = some x->H x.2.1 = none∧x.2.1 ≠ pl)∧SgAt H3 sl as sg∧BagAt H3 b c cs∧Kp b H H3)
   ⟨[],[],_,_,_,_,rfl,⟨zad,rfl,fun i a d h=>by simp at h⟩,rfl,rfl,by simp,fun j x h=>by simp at h,⟨zaj S.top npl,S.len,fun i p x h1 h2=>zaj (S.row i p x h1 h2) npl⟩,hb2.laid npl,k12.laid npl⟩ (fun i σ H3 _ ⟨_,_,_,_,_,_,_,_,_,_,_,_,h,_⟩=>.of h.top) ?_ ?_
  ·rintro i x σ H3 hx ⟨das,ds,v5,v6,v7,v8,rfl,PA,dm,dl,df,dn,S3,hb3,k3⟩
   obtain ⟨p,hp,rfl⟩:=zaD hx
   have hi:i < sg.length:=by rw [← S3.len]; exact (List.getElem?_eq_some_iff.mp hp).1
   have hsg:=List.getElem?_eq_getElem hi
   have htp:=S3.row i p _ hp hsg
   revert hsg htp
   generalize sg[i] = sgi
   intro hsg htp
   refine zdv htp rfl ?_
   simp! []
   refine ⟨b,c,cs,17,rfl,hb3,by decide,by decide,fun words H4 w0 w1 hb4 k4=>?_⟩
   simp! []
   refine ⟨b,c,cs,5,rfl,hb4,by decide,by decide,fun sz H5 z0 z1 hb5 k5=>?_⟩
   obtain ⟨⟨bi,bv,bst,bn,hb5b,_⟩,hb5c,_,_,cl⟩:=id hb5
   simp! [hb5b,hb5c,bagL,List.length_map]
   refine ⟨⟨by decide,by decide⟩,?_⟩
   have zz0:1 ≤ 1 + sz + (cs.length:Int) / 8:=by omega
   have zz1:1 + sz + (cs.length:Int) / 8 ≤ 40:=by omega
   revert zz0 zz1
   generalize 1 + sz + (cs.length:Int) / 8 = zv
   intro zz0 zz1
   apply zgv (m:=zv) (H:=H5) (fun x H'=>1 ≤ x∧x ≤ 40∧BagAt H' b c cs∧Kp b H5 H')
   ·exact fun key=>⟨b,c,cs,40,rfl,hb5,by decide,by decide,fun x H6 x0 x1 hb6 k6=>⟨x,rfl,key (1 + x) H6 ⟨by omega,by omega,hb6,k6⟩⟩⟩
   ·refine fun key=>⟨b,c,cs,4,rfl,hb5,by decide,by decide,fun x H6 x0 x1 hb6 k6=>⟨rfl,ite2 (fun _=>?_) fun _=>key zv H6 ⟨zz0,zz1,hb6,k6⟩⟩⟩
    exact ⟨b,c,cs,40,rfl,hb6,by decide,by decide,fun x H7 x0 x1 hb7 k7=>⟨x,rfl,key (1 + x) H7 ⟨by omega,by omega,hb7,k6.trans k7⟩⟩⟩
   ·exact ⟨zz0,zz1,hb5,Kp.refl⟩
   clear zz0 zz1 hb5b hb5c
   rintro zv' H6 ⟨y0,y1,hb6,k6⟩
   obtain ⟨yN,rfl⟩:=Int.eq_ofNat_of_zero_le (by omega:0 ≤ zv')
   have k36:=(k4.trans k5).trans k6
   have S6:=S3.kp hb3 k36 nslb
   have top3:=PA.top
   have top6:=k36 _ _ top3 nplb
   simp! [tBM]
   refine ⟨.inl ⟨rfl,_,.of top6⟩,b,c,sl,cs,words,yN,as,sg,rfl,hb6,S6,nslb,w0,by omega,by omega,by omega,by omega,by omega,sf.asc,fun rl rs rws H7 RO rln rf rlast nrl hb7 k7=>?_⟩
   intro tp htp'
   have k37:=k36.trans k7
   have nrlb:rl ≠ b:=fun e=>by
    obtain ⟨o,h⟩:=hb6.has
    rw [← e,nrl] at h; cases h
   have nrlpl:rl ≠ pl:=fun e=>by
    rw [← e,nrl] at top6; cases top6
   have top7:=k37 _ _ top3 nplb
   have F1:Fr (· = b) H3 (upd H7 tp (.tup [.str sgi.1,.str sgi.2,.int words,.ref rl])):=(hb3.kfr' k37).trans (.laid htp')
   have top8:=zaj (u:=.tup [.str sgi.1,.str sgi.2,.int words,.ref rl]) top7 htp'
   have F2:Fr (· = pl) (upd H7 tp (.tup [.str sgi.1,.str sgi.2,.int words,.ref rl])) (upd (upd H7 tp (.tup [.str sgi.1,.str sgi.2,.int words,.ref rl])) pl (.lst (das.map (fun a=>V.ref a.1) ++ [.ref tp]))):=.put rfl (zcg top8)
   refine ⟨pl,_,_,rfl,rfl,top8,by rw [sizeLine_eq,List.length_map,PA.len]; omega,das ++ [(tp,rl,rs)],ds ++ [(sgi,words,rws)],⟨?_,?_,?_⟩,?_,?_,?_,?_,?_,?_,?_⟩
   ·rw [zad,List.map_append]; rfl
   ·rw [List.length_append,List.length_append,PA.len]; rfl
   ·intro j aj dj h1 h2
    by_cases d:j < ds.length
    ·rw [List.getElem?_append_left d] at h2
     rw [List.getElem?_append_left (by rw [PA.len]; exact d)] at h1
     obtain ⟨g1,g2⟩:=PA.def_ j aj dj h1 h2
     obtain ⟨n1,n2⟩:=dn j aj h1
     have n3:aj.2.1 ≠ b:=fun e=>by
      obtain ⟨o,h⟩:=hb.has
      rw [← e,n1] at h; cases h
     exact ⟨F2.tups _ _ (F1.tups _ _ g1),(g2.fr F1 n3).fr F2 n2⟩
    ·have e:j = ds.length:=by
      have:=(List.getElem?_eq_some_iff.mp h2).1
      rw [List.length_append,List.length_singleton] at this
      omega
     rw [e] at h1 h2
     rw [List.getElem?_append_right (Nat.le_refl _),Nat.sub_self] at h2
     rw [← PA.len,List.getElem?_append_right (Nat.le_refl _),Nat.sub_self] at h1
     cases h1
     cases h2
     exact ⟨F2.tups _ _ zad,(RO.fr (Fr.laid (M:=fun _=>False) htp') (fun z=>z)).fr F2 nrlpl⟩
   ·rw [List.map_append,dm,List.take_succ,hsg]; rfl
   ·rw [List.length_append,dl]; rfl
   ·intro d hd
    rcases List.mem_append.mp hd with h | h
    ·exact df d h
    ·rw [List.mem_singleton.mp h]
     exact ⟨w0,by show words ≤ 16; omega,by show 0 < rws.length; omega,by show rws.length ≤ 40; omega,by show ∀ r ∈ rws,zb3 words rws.length sg r; rw [rln]; exact rf,rlast⟩
   ·intro j x h1
    by_cases d:j < das.length
    ·rw [List.getElem?_append_left d] at h1
     exact dn j x h1
    ·have e:j = das.length:=by
      have:=(List.getElem?_eq_some_iff.mp h1).1
      rw [List.length_append,List.length_singleton] at this
      omega
     rw [e,List.getElem?_append_right (Nat.le_refl _),Nat.sub_self] at h1
     cases h1
     exact ⟨zc7 (k3.trans k36) nrlb nrl,nrlpl⟩
   ·have S7:=S3.kp hb3 k37 nslb
    exact ⟨F2.keep _ _ (zaj S7.top htp') nplsl,S7.len,fun j p x h1 h2=>F2.tups _ _ (zaj (S7.row j p x h1 h2) htp')⟩
   ·exact (hb7.laid htp').other nplb nplc
   ·intro c' o h n
    rw [zat (zaA h npl0)]
    exact zaj (k37 _ _ (k3 _ _ h n) n) htp'
  ·rintro σ H3 ⟨das,ds,v5,v6,v7,v8,rfl,PA,dm,dl,df,dn,S3,hb3,k3⟩
   simp! []
   rw [List.length_map,S3.len] at dl dm
   rw [List.take_length] at dm
   exact q pl das ds H3 PA ⟨by rw [dm]; exact sf,by omega,by omega,by rw [dm]; exact df⟩ npl0 (fun j x h=>(dn j x h).1) hb3 k3
end
section
variable {P:Program} {w:World} {K:PySem.W.Frag} {mg:Str->Option Value} {base:Heap} {a:Ad}
noncomputable def scV:V->Bool
 | .int _=>true
 | .bl _=>true
 | .str _=>true
 | .non=>true
 | _=>false
noncomputable def Al (H:Hp):Nat->V->V->Prop
 | 0,_,_=>False
 | n + 1,x,y=>(x = y∧scV x = true) ∨ ∃ p q xs ys,x = .ref p∧y = .ref q∧((H p = some (.lst xs)∧H q = some (.lst ys)) ∨ (H p = some (.tup xs)∧H q = some (.tup ys)))∧xs.length = ys.length∧ys.length ≤ 2000000∧∀ (i:Nat) (a b:V),xs[i]? = some a->ys[i]? = some b->Al H n a b
noncomputable def zhb (n:Nat):Sp:=fun vs H Q _=>∃ x y,vs = [x,y]∧Al H n x y∧Q (.bl true) H
set_option maxHeartbeats 2000000 in
theorem zcr (T:Txt K mg a):∀ n:Nat,FnOk P w K mg base (CX1 P w) n a.f_law_alike a.d_law_alike ["found","due"] (zhb n)
 | 0=>⟨fun vs H Q E h=>by obtain ⟨x,y,_,z,_⟩:=h; exact z.elim,fun A outer s H args us vs Q E hr I b r h=>by obtain ⟨x,y,_,z,_⟩:=h; exact z.elim⟩
 | n + 1=>by
  refine T.F_law_alike.okC sc_law_alike (fun vs H Q E h=>?_) (fun cdv A outer s H vs Q E hr h=>?_)
  ·obtain ⟨x,y,rfl,_⟩:=h
   rfl
  ·obtain ⟨x,y,rfl,al,q⟩:=h
   have hu:=za0 hr
   refine ⟨_,(zab (zay (zbZ (zco (pv 1))) (zae (zaq (ziJ (zco (pv 0))))) pss_nil)
   (zab (zay (zbz (zao call_isF (by rfl) T.z_isinstance (by decide +kernel) (zaa (pv 1) (zaa (zbe (v:=.ty "bool") (u:=.type "bool") (by rfl) T.z_bool (by decide +kernel) (by rfl)) pa_nil)))) (zae (zaq (zeB (zao call_isF (by rfl) T.z_isinstance (by decide +kernel) (zaa (pv 0) (zaa (zbe (v:=.ty "bool") (u:=.type "bool") (by rfl) T.z_bool (by decide +kernel) (by rfl)) pa_nil))) (zf2 (za6 op_eq (pv 0) (pv 1) (zan _)))))) pss_nil)
   (zab (zay (zbz (zao call_isF (by rfl) T.z_isinstance (by decide +kernel) (zaa (pv 1) (zaa (zbe (v:=.ty "int") (u:=.type "int") (by rfl) T.z_int (by decide +kernel) (by rfl)) pa_nil)))) (zae (zaq (zeB (zao call_isF (by rfl) T.z_isinstance (by decide +kernel) (zaa (pv 0) (zaa (zbe (v:=.ty "int") (u:=.type "int") (by rfl) T.z_int (by decide +kernel) (by rfl)) pa_nil))) (zeB (ziD (zao call_isF (by rfl) T.z_isinstance (by decide +kernel) (zaa (pv 0) (zaa (zbe (v:=.ty "bool") (u:=.type "bool") (by rfl) T.z_bool (by decide +kernel) (by rfl)) pa_nil)))) (zf2 (za6 op_eq (pv 0) (pv 1) (zan _))))))) pss_nil)
   (zab (zay (zbz (zao call_isF (by rfl) T.z_isinstance (by decide +kernel) (zaa (pv 1) (zaa (zbe (v:=.ty "str") (u:=.type "str") (by rfl) T.z_str (by decide +kernel) (by rfl)) pa_nil)))) (zae (zaq (zeB (zao call_isF (by rfl) T.z_isinstance (by decide +kernel) (zaa (pv 0) (zaa (zbe (v:=.ty "str") (u:=.type "str") (by rfl) T.z_str (by decide +kernel) (by rfl)) pa_nil))) (zf2 (za6 op_eq (pv 0) (pv 1) (zan _)))))) pss_nil)
   (zab (zay (zbz (zao call_isF (by rfl) T.z_isinstance (by decide +kernel) (zaa (pv 1) (zaa (zbe (v:=.ty "tuple") (u:=.type "tuple") (by rfl) T.z_tuple (by decide +kernel) (by rfl)) pa_nil)))) (zae (zay (zcY (zbz (zao call_isF (by rfl) T.z_isinstance (by decide +kernel) (zaa (pv 0) (zaa (zbe (v:=.ty "tuple") (u:=.type "tuple") (by rfl) T.z_tuple (by decide +kernel) (by rfl)) pa_nil))))) (zae (zaq zcw)) pss_nil)) (zae (zay (zcY (zbz (zao call_isF (by rfl) T.z_isinstance (by decide +kernel) (zaa (pv 0) (zaa (zbe (v:=.ty "list") (u:=.type "list") (by rfl) T.z_list (by decide +kernel) (by rfl)) pa_nil))))) (zae (zaq zcw)) pss_nil)))
   (zab (zay (zai op_ne (zao call_lenF (by rfl) T.z_len (by decide +kernel) (zaa (pv 0) pa_nil)) (zao call_lenF (by rfl) T.z_len (by decide +kernel) (zaa (pv 1) pa_nil)) (zan _)) (zae (zaq zcw)) pss_nil)
   (zab (zbd PassesOwn.never (by rfl) (zaI (by rfl) T.z_range (zaa (zao call_lenF (by rfl) T.z_len (by decide +kernel) (zaa (pv 1) pa_nil)) pa_nil)) (zav (i:=2) sc_law_alike.nd (by rfl) (Or.inl rfl))
   (zae (zay (zcY (zbz (zah (zcr T n) (hr.mono (Nat.le_refl _)) (by rfl) T.m_law_alike T.F_law_alike.kp T.b_law_alike .nil zau (zaa (zar ix_F (pv 0) (pv 2) (fun _ _=>rfl)) (zaa (zar ix_F (pv 1) (pv 2) (fun _ _=>rfl)) pa_nil))))) (zae (zaq zcw)) pss_nil)))
   (zae (zaq zcw))))))))),?_⟩
   rcases al with ⟨rfl,sc⟩ | ⟨p,q',xs,ys,rfl,rfl,hh,ll,l1,el⟩
   ·cases x with
    | non =>
     simp! []
     exact q
    | bl c =>
     simp! []
     exact q
    | int c =>
     simp! []
     exact q
    | str c =>
     simp! []
     exact q
    | _=>cases sc
   ·rcases hh with ⟨h1,h2⟩ | ⟨h1,h2⟩
    all_goals
     simp! [h1,h2]
     rw [if_neg (fun z=>z (by rw [ll]))]
     refine for1 (H1:=H) (ys.length:Int) (fun Q2 h3=>by simp! [h2]; exact h3) (by omega) (by omega) (fun i σ H2=>∃ v2:Option V,σ = [some (.ref p),some (.ref q'),v2]∧H2 = H) ⟨_,rfl,rfl⟩ ?_ ?_
     ·rintro i σ H2 hi ⟨v2,rfl,rfl⟩
      have hiy:i < ys.length:=by omega
      have hix:i < xs.length:=by omega
      have a1:atI xs ((i:Nat):Int) = some xs[i]:=zaQ (List.getElem?_eq_getElem hix)
      have a2:atI ys ((i:Nat):Int) = some ys[i]:=zaQ (List.getElem?_eq_getElem hiy)
      simp! [h1,h2,Int.zero_add,a1,a2]
      refine ⟨xs[i],ys[i],rfl,el i _ _ (List.getElem?_eq_getElem hix) (List.getElem?_eq_getElem hiy),true,rfl,?_⟩
      rw [if_neg (by simp)]
     ·rintro σ H2 ⟨v2,rfl,rfl⟩
      simp! []
      exact q
end
section
variable {P:Program} {w:World} {K:PySem.W.Frag} {mg:Str->Option Value} {base:Heap} {a:Ad}
theorem zbX (z:Str) (lo hi:Option Int):(PySem.Txt.slice z lo hi).cps.size ≤ z.cps.size∧∀ c ∈ (PySem.Txt.slice z lo hi).cps.toList,c ∈ z.cps.toList:=by
 refine ⟨PySem.Txt.slice_le z lo hi,?_⟩
 unfold PySem.Txt.slice
 intro c hc
 split at hc
 ·exact hc
 ·have hc':c ∈ List.filterMap (fun x=>z.cps[x]?) (Builtin.Str.strSliceIndices lo hi 1 z.length):=by simpa using hc
  obtain ⟨x,_,hx⟩:=List.mem_filterMap.mp hc'
  exact Array.mem_toList_iff.mpr (Array.mem_of_getElem? hx)
theorem zaO {z:Str}:z.cps.all (· < 128) = true ↔ ∀ c ∈ z.cps.toList,c < 128:=by
 rw [← Array.all_toList,List.all_eq_true]
 exact ⟨fun h c hc=>by simpa using h c hc,fun h c hc=>by simpa using h c hc⟩
theorem zik {x y:Str} {c:Nat}:c ∈ (x ++ y).cps.toList ↔ c ∈ x.cps.toList ∨ c ∈ y.cps.toList:=by
 show c ∈ (x.cps ++ y.cps).toList ↔ _
 rw [Array.toList_append,List.mem_append]
theorem zcD {x y:Str}:(x ++ y).cps.size = x.cps.size + y.cps.size:=by
 show (x.cps ++ y.cps).size = _
 rw [Array.size_append]
abbrev Asc (z:Str):Prop:=z.cps.all (· < 128) = true
theorem zaz (z:Str):z.length = z.cps.size:=rfl
theorem zbf {x y:Str} (h1:Asc x) (h2:Asc y):Asc (x ++ y):=zaO.mpr fun c hc=>(zik.mp hc).elim (zaO.mp h1 c) (zaO.mp h2 c)
theorem zbl {x:Str} {lo hi:Option Int} (h1:Asc x):Asc (PySem.Txt.slice x lo hi):=zaO.mpr fun c hc=>zaO.mp h1 c ((zbX x lo hi).2 c hc)
theorem zg0 (z:Str):(PySem.Txt.slice z (some 1) none).cps.toList = z.cps.toList.drop 1:=by
 by_cases e:z.cps.toList.length = 0
 ·have e1:z.cps.toList = []:=List.length_eq_zero_iff.mp e
  have:=(zbX z (some 1) none).2
  rw [e1] at this ⊢
  rw [List.drop_nil]
  exact List.eq_nil_iff_forall_not_mem.mpr fun c hc=>absurd (this c hc) List.not_mem_nil
 ·have:=PyProof.Rows.slice_closes_from (x:=z) (i:=1) ⟨by decide,by omega⟩
  have:=beq_iff_eq.mp this
  rw [this]
  show List.take _ (List.drop 1 _) = _
  exact List.take_of_length_le (by rw [List.length_drop]; omega)
theorem zeO (z:Str):(PySem.Txt.slice z none (some 1)).cps.toList = z.cps.toList.take 1:=by
 by_cases e:z.cps.toList.length = 0
 ·have e1:z.cps.toList = []:=List.length_eq_zero_iff.mp e
  have:=(zbX z none (some 1)).2
  rw [e1] at this ⊢
  rw [List.take_nil]
  exact List.eq_nil_iff_forall_not_mem.mpr fun c hc=>absurd (this c hc) List.not_mem_nil
 ·have:=PyProof.Rows.slice_closes_to (x:=z) (j:=1) ⟨by decide,by omega⟩
  have:=beq_iff_eq.mp this
  rw [this]
  rfl
theorem zce {x y:Str} (h:x.cps.toList = y.cps.toList):x = y:=by
 obtain ⟨a⟩:=x
 obtain ⟨b⟩:=y
 have:a = b:=Array.toList_inj.mp h
 rw [this]
noncomputable def Mn (z:Str):Prop:=z.cps.toList.head? = some 45
instance (z:Str):Decidable (Mn z):=inferInstanceAs (Decidable (_ = _))
noncomputable def figs (z:Str):List Nat:=if Mn z then z.cps.toList.drop 1 else z.cps.toList
theorem hd_eq (z:Str):PySem.Txt.slice z none (some 1) = ("-":Str) ↔ Mn z:=by
 constructor
 ·intro h
  have e:=zeO z
  rw [h] at e
  unfold Mn
  cases c:z.cps.toList with
  | nil=>rw [c] at e; exact absurd e (by decide)
  | cons a r =>
   rw [c] at e
   have:("-":Str).cps.toList = [a]:=e
   have e2:("-":Str).cps.toList = [45]:=by decide
   rw [e2] at this
   injection this with h1 _
   rw [List.head?_cons,h1]
 ·intro h
  refine zce ?_
  rw [zeO]
  unfold Mn at h
  cases c:z.cps.toList with
  | nil=>rw [c] at h; cases h
  | cons a r =>
   rw [c,List.head?_cons] at h
   injection h with h
   rw [h]
   show [45] = _
   decide
theorem zfW (z:Str):PySem.Txt.startswith z ("-":Str) = decide (Mn z):=by
 have ex:(z.cps.extract 0 (0 + ("-":Str).length)).toList = z.cps.toList.take 1:=by
  rw [Array.toList_extract]
  rfl
 have e2:("-":Str).cps.toList = [45]:=by decide
 unfold PySem.Txt.startswith Builtin.Str.subAt
 rw [Bool.eq_iff_iff,Bool.and_eq_true,decide_eq_true_eq,decide_eq_true_eq,beq_iff_eq]
 unfold Mn
 constructor
 ·rintro ⟨_,h⟩
  have:=congrArg Array.toList h
  rw [ex,e2] at this
  cases c:z.cps.toList with
  | nil=>rw [c] at this; cases this
  | cons a r =>
   rw [c] at this
   injection this with h1 _
   rw [List.head?_cons,h1]
 ·intro h
  cases c:z.cps.toList with
  | nil=>rw [c] at h; cases h
  | cons a r =>
   rw [c,List.head?_cons] at h
   injection h with h
   refine ⟨?_,Array.toList_inj.mp ?_⟩
   ·have:z.length = z.cps.toList.length:=by rw [zaz,← Array.length_toList]
    rw [this,c]
    show 0 + 1 ≤ r.length + 1
    omega
   ·rw [ex,e2,c,h]
    rfl
structure OkT (z:Str) (most:Int):Prop where
 l1:1 ≤ (figs z).length
 l2:((figs z).length:Int) ≤ most
 dg:∀ c ∈ figs z,48 ≤ c∧c ≤ 57
 zr:¬ ((figs z).head? = some 48∧1 < z.length)
noncomputable instance (z:Str) (most:Int):Decidable (OkT z most):=decidable_of_iff (1 ≤ (figs z).length∧((figs z).length:Int) ≤ most∧(∀ c ∈ figs z,48 ≤ c∧c ≤ 57)∧¬ ((figs z).head? = some 48∧1 < z.length)) ⟨fun ⟨a,b,c,d⟩=>⟨a,b,c,d⟩,fun x=>⟨x.l1,x.l2,x.dg,x.zr⟩⟩
theorem OkT.num {z:Str} {most:Int} (h:OkT z most) (m:most ≤ 600):∃ n,intText? z = some n∧z.length ≤ 640:=by
 have l2:=h.l2
 have dg:=h.dg
 have l1:=h.l1
 unfold figs at l1 l2 dg
 by_cases c:Mn z
 ·rw [if_pos c] at l1 l2 dg
  unfold Mn at c
  cases e:z.cps.toList with
  | nil=>rw [e] at c; cases c
  | cons a r =>
   rw [e] at c l1 l2 dg
   injection c with c
   subst c
   have lz:z.length = r.length + 1:=by rw [zaz,← Array.length_toList,e]; rfl
   have l2':(r.length:Int) ≤ most:=l2
   exact ⟨_,intText_neg e dg (fun z=>by rw [z] at l1; exact absurd l1 (by decide)) (by omega),by omega⟩
 ·rw [if_neg c] at l1 l2 dg
  have lz:z.length = z.cps.toList.length:=by rw [zaz,← Array.length_toList]
  exact ⟨_,intText_digits dg (fun z=>by rw [z] at l1; exact absurd l1 (by decide)) (by omega),by omega⟩
end
section
variable {P:Program} {w:World} {K:PySem.W.Frag} {mg:Str->Option Value} {base:Heap} {a:Ad}
theorem zhI (c:Nat):(!(Builtin.Str.occurrences ("0123456789":Str) { cps:=#[c] } 0 ("0123456789":Str).length 1).isEmpty) = decide (48 ≤ c∧c ≤ 57):=by
 rw [PyProof.Rows.empty_one,Bool.not_not]
 have e:("0123456789":Str).cps.toList = [48,49,50,51,52,53,54,55,56,57]:=by decide
 rw [e]
 rw [Bool.eq_iff_iff,decide_eq_true_eq,decide_eq_true_eq]
 simp only [List.mem_cons,List.not_mem_nil,or_false]
 omega
noncomputable def figS (z:Str):Str:=if Mn z then PySem.Txt.slice z (some 1) none else z
theorem zbx (z:Str):(figS z).cps.toList = figs z:=by
 unfold figS figs
 split
 ·exact zg0 z
 ·rfl
theorem zeL {z:Str} (h:Asc z):Asc (figS z):=by
 unfold figS
 split
 ·exact zbl h
 ·exact h
theorem zeS (z:Str):(figS z).length = (figs z).length:=by rw [← zbx,zaz,Array.length_toList]
theorem zgu (z:Str):(figS z).length ≤ z.length:=by
 unfold figS
 split
 ·exact PySem.Txt.slice_le _ _ _
 ·exact Nat.le_refl _
theorem zf4 {z:Str} (h:(figs z).head? = some 48):z = ("0":Str) ↔ ¬ 1 < z.length:=by
 have e2:("0":Str).cps.toList = [48]:=by decide
 have lz:z.length = z.cps.toList.length:=by rw [zaz,← Array.length_toList]
 constructor
 ·rintro rfl
  decide
 ·intro n
  refine zce ?_
  rw [e2]
  unfold figs at h
  by_cases c:Mn z
  ·rw [if_pos c] at h
   cases e:z.cps.toList with
   | nil=>rw [e] at h; cases h
   | cons a r =>
    rw [e] at h lz
    cases r with
    | nil=>cases h
    | cons b r=>rw [List.length_cons,List.length_cons] at lz; omega
  ·rw [if_neg c] at h
   cases e:z.cps.toList with
   | nil=>rw [e] at h; cases h
   | cons a r =>
    rw [e] at h lz
    injection h with h
    cases r with
    | nil=>rw [h]
    | cons b r=>rw [List.length_cons,List.length_cons] at lz; omega
noncomputable def sp_value:Sp:=fun vs H Q _=>∃ (z:Str) (most:Int),vs = [.str z,.int most]∧Asc z∧z.length ≤ 2000000∧0 ≤ most∧most ≤ 600∧(¬ OkT z most->∀ H',Same H H'->Q .non H')∧(OkT z most->∀ n H',intText? z = some n->Same H H'->Q (.int n) H')
set_option maxHeartbeats 2000000 in
theorem zcn (T:Txt K mg a):FnOk P w K mg base (CX1 P w) 1 a.f_law_value a.d_law_value ["text","most"] sp_value:=by
 refine T.F_law_value.okC sc_law_value (fun vs H Q E h=>?_) (fun cdv A outer s H vs Q E hr h=>?_)
 ·obtain ⟨z,most,rfl,_⟩:=h
  rfl
 ·obtain ⟨z,most,rfl,az,lz,m0,m1,qn,q⟩:=h
  have hu:=za0 hr
  have lz':z.length ≤ sizeLine:=by rw [sizeLine_eq]; omega
  have fle:=zgu z
  have lenS:∀ {y:Str} {H2:Hp},y.length ≤ sizeLine->lenF (.str y) H2 = some y.length:=fun h=>if_pos h
  refine ⟨_,(zab (zal (i:=2) sc_law_value.nd (by rfl) (Or.inl rfl) (pv 0))
   (zab (zay (zai op_eq (zas sl_str (pv 0) po_none (zaw zac)) zaf (zan _)) (zae (zal (i:=2) sc_law_value.nd (by rfl) (Or.inl rfl) (zas sl_str (pv 0) (zaw zac) po_none))) pss_nil)
   (zab (zay (PW.pt (zck (zai op_eq (pv 2) zaf (zan _)) (zck (zai op_gt (zao call_lenF (by rfl) T.z_len (by decide +kernel) (zaa (pv 2) pa_nil)) (pv 1) (zan _)) (zbJ (zai (zgf hu) (za7 (N':=["sign"]) (cap:=[none]) ⟨rfl,(by decide +kernel),(by decide +kernel),(by rfl),rfl,(by rfl)⟩ (by rfl) (zcT (pv 2)) (fun C_ ex_ s_ H_=>(zav (i:=0) (show (["sign"]:List Str).Nodup by decide +kernel) (by rfl) (Or.inl rfl))) zaH (fun C_ ex_ s_ H_=>(zds (zai op_notIn_str (pv 0) zaf (by with_unfolding_all rfl)))) (fun C_ ex_ s_ H_=>(pv 0))) (zaC pa_nil) (zan _)))))) (zae (zaq zbH)) pss_nil)
   (zab (zay (PW.pt (zbT (zai op_eq (zar ix_str (pv 2) zac (fun _ _=>rfl)) zaf (zan _)) (zbt (zai op_gt (zao call_lenF (by rfl) T.z_len (by decide +kernel) (zaa (pv 0) pa_nil)) zac (zan _))))) (zae (zaq zbH)) pss_nil)
   (zae (zaq (zax call_intT (by rfl) T.z_int (by decide +kernel) (zaa (pv 0) pa_nil)))))))),?_⟩
  generalize hG:tSeq (tIfS (tOr _ _) _ _) _ = tail
  have FIN:tail { nx:=fun _ H'=>Q .non H',rt:=Q } [some (.str z),some (.int most),some (.str (figS z))] H:=by
   subst hG
   have fl:=zeS z
   have fa:=zeL az
   simp! []
   have e0:figS z = ("":Str) ↔ figs z = []:=by
    rw [← zbx]
    constructor
    ·intro h; rw [h]; decide
    ·intro h; exact zce (by rw [h]; decide)
   refine ite2 (fun c=>qn (fun o=>by have:=o.l1; rw [e0.mp c] at this; exact absurd this (by decide)) _ (Same.refl _)) fun c0=>?_
   refine ⟨_,lenS (by omega),ite2 (fun c=>qn (fun o=>by have:=o.l2; omega) _ (Same.refl _)) fun c1=>?_⟩
   refine zeN (figS z) (fun c=>if 48 ≤ c∧c ≤ 57 then none else some (.str ⟨#[c]⟩)) (fun Q2 h2=>by simp! []; exact h2) fa (by rw [sizeLine_eq,← zaz]; omega) ?_ ?_
   ·intro c H2 R N hc S hR hN
    have fi:=zhI c
    simp! [zaE]
    rw [fi]
    by_cases d:48 ≤ c∧c ≤ 57
    ·rw [decide_eq_true d]
     exact hN (if_pos d) _ (Same.refl _)
    ·rw [decide_eq_false d]
     exact hR _ _ (if_neg d) (Same.refl _)
   ·intro D H2 hD S e p np
    have e':=zaj (u:=.lst []) e np
    have S2:=S.step np (u:=.lst [])
    revert e' S2
    generalize upd H2 p (.lst []) = H3
    intro e' S2
    refine ⟨D,rfl,_,by rw [e']; rfl,by rw [e']; rfl,?_⟩
    rw [zbx]
    by_cases dg:∀ c ∈ figs z,48 ≤ c∧c ≤ 57
    ·have em:(figs z).filterMap (fun c=>if 48 ≤ c∧c ≤ 57 then none else some (V.str ⟨#[c]⟩)) = []:=List.filterMap_eq_nil_iff.mpr fun c hc=>if_pos (dg c hc)
     rw [em,if_neg (by simp)]
     cases ef:figs z with
     | nil=>exact absurd (e0.mpr ef) c0
     | cons c r =>
      have ea:atI (figS z).cps.toList 0 = some c:=by rw [zbx,ef]; exact zc4
      refine ⟨figS z,0,c,rfl,rfl,by rw [sizeLine_eq]; omega,ea,rfl,?_⟩
      have hd:(figs z).head? = some 48 ↔ (V.str ⟨#[c]⟩ = V.str ("0":Str)):=by
       rw [ef,List.head?_cons]
       constructor
       ·intro h; injection h with h; rw [h]; rfl
       ·intro h
        injection h with h
        have:#[c] = ("0":Str).cps:=congrArg Str.cps h
        have:=congrArg Array.toList this
        have e2:("0":Str).cps.toList = [48]:=by decide
        rw [e2] at this
        injection this with h1 _
        rw [h1]
      have ok0:¬ ((figs z).head? = some 48∧1 < z.length)->OkT z most:=fun n=>⟨by rw [ef]; simp,by omega,dg,n⟩
      have fin:OkT z most->∃ x,intText? z = some x∧z.length ≤ 640∧Q (.int x) H3:=fun o=>by
       obtain ⟨n,h1,h2⟩:=o.num m1
       exact ⟨n,h1,h2,q o n H3 h1 S2⟩
      refine ite2 (fun h0=>⟨_,lenS lz',ite2 (fun l1=>qn (fun o=>o.zr ⟨hd.mpr h0,by omega⟩) _ S2) fun l1=>fin (ok0 fun n=>l1 (by have:=n.2; omega))⟩) fun h0=>fin (ok0 fun n=>h0 (hd.mp n.1))
    ·rw [if_pos ?_]
     ·exact qn (fun o=>dg o.dg) _ S2
     ·cases ef:(figs z).filterMap (fun c=>if 48 ≤ c∧c ≤ 57 then none else some (V.str ⟨#[c]⟩)) with
      | nil =>
       refine absurd (fun c hc=>?_) dg
       have:=List.filterMap_eq_nil_iff.mp ef c hc
       by_cases d:48 ≤ c∧c ≤ 57
       ·exact d
       ·rw [if_neg d] at this; cases this
      | cons _ _=>rfl
  have hdq:=hd_eq z
  simp! [tSl,zbv,tNoPart]
  refine ⟨z,rfl,by rw [sizeLine_eq]; omega,rfl,ite2 (fun c=>⟨z,rfl,by rw [sizeLine_eq]; omega,?_⟩) fun c=>?_⟩
  ·have m:Mn z:=hdq.mp (by injection c)
   have e:figS z = PySem.Txt.slice z (some 1) none:=if_pos m
   rw [← e]
   exact FIN
  ·have m:¬ Mn z:=fun m=>c (by rw [hdq.mpr m])
   have e:figS z = z:=if_neg m
   rw [← e]
   rw [e] at FIN ⊢
   exact FIN
noncomputable def zh9 (X:Addr):Sp:=fun vs H Q E=>∃ (z:Str) (most:Int),vs = [.str z,.int most]∧Asc z∧z.length ≤ 2000000∧0 ≤ most∧most ≤ 600∧(¬ OkT z most->∀ H',Same H H'->E (.ref X) none H')∧(OkT z most->∀ n H',intText? z = some n->Same H H'->Q (.int n) H')
set_option maxHeartbeats 2000000 in
theorem zb5 (T:Txt K mg a):FnOk P w K mg base (CX1 P w) 1 a.f_read_whole a.d_read_whole ["text","most"] (zh9 a.c_NoText):=by
 refine T.F_read_whole.okX sc_read_whole (fun vs H Q E h=>?_) (fun cdv A outer s H vs Q E hr h=>?_)
 ·obtain ⟨z,most,rfl,_⟩:=h
  rfl
 ·obtain ⟨z,most,rfl,az,lz,m0,m1,qn,q⟩:=h
  have hu:=za0 hr
  have lz':z.length ≤ sizeLine:=by rw [sizeLine_eq]; omega
  have fle:=zgu z
  have lenS:∀ {y:Str} {H2:Hp},y.length ≤ sizeLine->lenF (.str y) H2 = some y.length:=fun h=>if_pos h
  refine ⟨_,(zab (zal (i:=2) sc_read_whole.nd (by rfl) (Or.inl rfl) (zhc (zbz (zaR PySem.F.plainAttrs_str PySem.F.slot_str_startswith PySem.F.type_str_startswith mt_starts (pv 0) (zaa zaf pa_nil))) (zas sl_str (pv 0) (zaw zac) po_none) (pv 0)))
   (zab (zay (PW.pt (zck (zcY (zhf op_le op_le zac (zao call_lenF (by rfl) T.z_len (by decide +kernel) (zaa (pv 2) pa_nil)) (pv 1))) (zbJ (zcY (zbz (zao (zeF (by rfl)) (by rfl) T.z_all (by decide +kernel) (zaa (za7 (N':=["sign"]) (cap:=[none]) ⟨rfl,(by decide +kernel),(by decide +kernel),(by rfl),rfl,(by rfl)⟩ (by rfl) (zcT (pv 2)) (fun C_ ex_ s_ H_=>(zav (i:=0) (show (["sign"]:List Str).Nodup by decide +kernel) (by rfl) (Or.inl rfl))) zaH (fun C_ ex_ s_ H_=>zaU) (fun C_ ex_ s_ H_=>(za6 op_in_str (pv 0) (zbu (v:=.str "0123456789") (by rfl) T.m_FIGURES ⟨_,rfl⟩) (by with_unfolding_all rfl)))) pa_nil))))))) (zae (zbr (by rfl) T.x_NoText (by rfl) T.m_NoText flies_cx (zaa (ze3 (by decide) (by decide) (pv 1) (pv 0)) pa_nil))) pss_nil)
   (zab (zay (PW.pt (zbT (zai op_eq (zar ix_str (pv 2) zac (fun _ _=>rfl)) zaf (zan _)) (zbt (zai op_ne (pv 0) zaf (zan _))))) (zae (zbr (by rfl) T.x_NoText (by rfl) T.m_NoText flies_cx (zaa (zb0 (by decide) (pv 0)) pa_nil))) pss_nil)
   (zae (zaq (zax call_intT (by rfl) T.z_int (by decide +kernel) (zaa (pv 0) pa_nil))))))),?_⟩
  have fl:=zeS z
  have fa:=zeL az
  have lm:most.natAbs.log2 < 1920:=by
   by_cases e:most.natAbs = 0
   ·rw [e]; decide
   ·exact (Nat.log2_lt e).mpr (Nat.lt_of_lt_of_le (by omega:most.natAbs < 1024) (by decide))
  generalize hG:tSeq (tIfS (tOr _ _) _ _) _ = tail
  have FIN:tail { nx:=fun _ H'=>Q .non H',rt:=Q } [some (.str z),some (.int most),some (.str (figS z))] H:=by
   subst hG
   have bad:∀ H2,Same H H2->¬ OkT z most->zdu (tVar 1) (tVar 0) [some (.str z),some (.int most),some (.str (figS z))] H2 (fun _ H3=>E (.ref a.c_NoText) none H3):=fun H2 S2 n=>by
    simp! [zdu]
    exact ⟨lm,az,by omega,fun _=>qn n _ S2⟩
   have badR:∀ H2,Same H H2->¬ OkT z most->zbW (tVar 0) [some (.str z),some (.int most),some (.str (figS z))] H2 (fun _ H3=>E (.ref a.c_NoText) none H3):=fun H2 S2 n=>by
    simp! [zbW]
    exact ⟨az,by omega,fun _=>qn n _ S2⟩
   simp! []
   refine ⟨_,lenS (by omega),ite2 (fun c0=>ite2 (fun c1=>bad _ (Same.refl _) fun o=>c1 (by have:=o.l2; omega)) fun c1=>?_) fun c0=>bad _ (Same.refl _) fun o=>c0 (by have:=o.l1; omega)⟩
   refine zeN (figS z) (fun c=>some (.bl (decide (48 ≤ c∧c ≤ 57)))) (fun Q2 h2=>by simp! []; exact h2) fa (by rw [sizeLine_eq,← zaz]; omega) ?_ ?_
   ·intro c H2 R N hc S hR hN
    have fi:=zhI c
    simp! [zaE,tTrue]
    rw [fi]
    exact hR _ _ rfl (Same.refl _)
   ·intro D H2 hD S e
    have em:(figS z).cps.toList.filterMap (fun c=>some (V.bl (decide (48 ≤ c∧c ≤ 57)))) = ((figs z).map fun c=>decide (48 ≤ c∧c ≤ 57)).map V.bl:=by
     rw [zbx,List.map_map]
     show List.filterMap (some ∘ _) _ = _
     rw [List.filterMap_eq_map]
     rfl
    rw [em] at e
    refine ⟨D,rfl,_,by rw [e]; rfl,by rw [e]; rfl,ite2 (fun c=>bad _ S fun o=>?_) fun c=>?_⟩
    ·have:((figs z).map fun c=>decide (48 ≤ c∧c ≤ 57)).all id = true:=List.all_eq_true.mpr fun b hb=>by
      obtain ⟨x,hx,rfl⟩:=List.mem_map.mp hb
      exact decide_eq_true (o.dg x hx)
     rw [this] at c; cases c
    ·have dg:∀ c ∈ figs z,48 ≤ c∧c ≤ 57:=fun x hx=>by
      have ct:((figs z).map fun c=>decide (48 ≤ c∧c ≤ 57)).all id = true:=by
       cases h:((figs z).map fun c=>decide (48 ≤ c∧c ≤ 57)).all id with
       | true=>rfl
       | false=>exact absurd h c
      exact of_decide_eq_true (List.all_eq_true.mp ct _ (List.mem_map.mpr ⟨x,hx,rfl⟩))
     cases ef:figs z with
     | nil=>rw [ef] at fl; rw [fl] at c0; exact absurd c0 (by decide)
     | cons c r =>
      have ea:atI (figS z).cps.toList 0 = some c:=by rw [zbx,ef]; exact zc4
      refine ⟨figS z,0,c,rfl,rfl,by rw [sizeLine_eq]; omega,ea,rfl,?_⟩
      have hd:(figs z).head? = some 48 ↔ (V.str ⟨#[c]⟩ = V.str ("0":Str)):=by
       rw [ef,List.head?_cons]
       constructor
       ·intro h; injection h with h; rw [h]; rfl
       ·intro h
        injection h with h
        have:#[c] = ("0":Str).cps:=congrArg Str.cps h
        have:=congrArg Array.toList this
        have e2:("0":Str).cps.toList = [48]:=by decide
        rw [e2] at this
        injection this with h1 _
        rw [h1]
      have ok0:¬ ((figs z).head? = some 48∧1 < z.length)->OkT z most:=fun n=>⟨by rw [ef]; simp,by omega,dg,n⟩
      have fin:OkT z most->∃ x,intText? z = some x∧z.length ≤ 640∧Q (.int x) H2:=fun o=>by
       obtain ⟨n,h1,h2⟩:=o.num m1
       exact ⟨n,h1,h2,q o n H2 h1 S⟩
      refine ite2 (fun h0=>ite2 (fun nz=>badR _ S fun o=>o.zr ⟨hd.mpr h0,?_⟩) fun nz=>fin (ok0 fun n=>?_)) fun h0=>fin (ok0 fun n=>h0 (hd.mp n.1))
      ·by_cases l:1 < z.length
       ·exact l
       ·exact absurd ((zf4 (hd.mpr h0)).mpr l) nz
      ·exact ((zf4 n.1).mp (Decidable.of_not_not nz)) n.2
  have hst:=zfW z
  simp! [tSl,zbv,tNoPart,tBM]
  refine ⟨rfl,?_⟩
  rw [hst]
  refine ite2 (fun c=>⟨z,rfl,lz',?_⟩) fun c=>?_
  ·have m:Mn z:=of_decide_eq_true c
   have e:figS z = PySem.Txt.slice z (some 1) none:=if_pos m
   rw [← e]
   exact FIN
  ·have m:¬ Mn z:=fun m=>c (decide_eq_true m)
   have e:figS z = z:=if_neg m
   rw [e] at FIN
   exact FIN
end
section
variable {P:Program} {w:World} {K:PySem.W.Frag} {mg:Str->Option Value} {base:Heap} {a:Ad}
theorem BagAt.nInts {H:Hp} {b c l:Addr} {cs ns:List Int} (B:BagAt H b c cs) (h:H l = some (.lst (ns.map V.int))):l ≠ b:=fun e=>by
 obtain ⟨⟨i,v,st,n,hb,_⟩,_⟩:=B
 rw [e,hb] at h
 cases ns with
 | nil=>cases h
 | cons x r=>cases h
theorem Kp.new {b l:Addr} {H H2:Hp} {u:HO} (k:Kp b H H2) (h:H l = none):Kp b H (upd H2 l u):=fun q o e n=>by
 rw [zat (fun z=>by rw [z,h] at e; cases e)]
 exact k q o e n
theorem BagAt.apart {H:Hp} {b c l:Addr} {cs:List Int} (B:BagAt H b c cs) (h:H l = none):l ≠ b∧l ≠ c:=by
 obtain ⟨⟨i,v,st,n,e,k⟩,h3,_⟩:=B
 refine ⟨fun z=>?_,fun z=>?_⟩
 ·rw [← z,h] at e; cases e
 ·rw [← z,h] at h3; cases h3
theorem zfn {b l:Addr} {H H1:Hp} (k:Kp b H H1) (n:H1 l = none) (lb:l ≠ b):H l = none:=by
 cases e:H l with
 | none=>rfl
 | some o =>
  have:=k l o e lb
  rw [n] at this
  cases this
noncomputable def sp_sign:Sp:=fun vs H Q _=>∃ (b c:Addr) (cs:List Int),vs = [.ref b]∧BagAt H b c cs∧∀ (x:Nat) (H':Hp),x < 128->BagAt H' b c cs->Kp b H H'->Q (.str ⟨#[x]⟩) H'
set_option maxHeartbeats 2000000 in
theorem za3 (T:Txt K mg a):FnOk P w K mg base (CX1 P w) 2 a.f_law_any_sign a.d_law_any_sign ["bag"] sp_sign:=by
 refine T.F_law_any_sign.okC sc_law_any_sign (fun vs H Q E h=>?_) (fun cdv A outer s H vs Q E hr h=>?_)
 ·obtain ⟨b,c,cs,rfl,_⟩:=h
  rfl
 ·obtain ⟨b,c,cs,rfl,B,q⟩:=h
  have hu:=za0 hr
  refine ⟨_,(zab (zal (i:=1) sc_law_any_sign.nd (by rfl) (Or.inl rfl) zaf)
   (zab (zal (i:=1) sc_law_any_sign.nd (by rfl) (Or.inl rfl) (zam op_add_str (pv 1) zaf))
   (zab (zay (zai op_eq (zah (zag T) (hr.mono (by decide)) (by rfl) T.m_law_draw T.F_law_draw.kp T.b_law_draw .nil zau (zaa (pv 0) (zaa zac pa_nil))) zac (zan _)) (zae (zaq (zar ix_str (pv 1) (zah (zag T) (hr.mono (by decide)) (by rfl) T.m_law_draw T.F_law_draw.kp T.b_law_draw .nil zau (zaa (pv 0) (zaa zac pa_nil))) (fun _ _=>rfl)))) pss_nil)
   (zae (zaq (zar ix_str (pv 1) (zah (zag T) (hr.mono (by decide)) (by rfl) T.m_law_draw T.F_law_draw.kp T.b_law_draw .nil zau (zaa (pv 0) (zaa zac pa_nil))) (fun _ _=>rfl))))))),?_⟩
  have al:∀ x:Nat,x < 95->∃ c,atI (Str.ofString "0123456789- \nabcdefghijklmnopqrstuvwxyzABCDEFGHIJKLMNOPQRSTUVWXYZ" ++ Str.ofString "!\"#$&'()*+,./:;<=>?\x40[\\]^_`{|}~").cps.toList ((x:Nat):Int) = some c∧c < 128:=by
   have d1:(Str.ofString "0123456789- \nabcdefghijklmnopqrstuvwxyzABCDEFGHIJKLMNOPQRSTUVWXYZ" ++ Str.ofString "!\"#$&'()*+,./:;<=>?\x40[\\]^_`{|}~").cps.toList.all (· < 128) = true:=by decide +kernel
   have d2:95 ≤ (Str.ofString "0123456789- \nabcdefghijklmnopqrstuvwxyzABCDEFGHIJKLMNOPQRSTUVWXYZ" ++ Str.ofString "!\"#$&'()*+,./:;<=>?\x40[\\]^_`{|}~").cps.toList.length:=by decide +kernel
   intro x hx
   have xl:=Nat.lt_of_lt_of_le hx d2
   exact ⟨_,zaQ (List.getElem?_eq_getElem xl),by simpa using List.all_eq_true.mp d1 _ (List.getElem_mem xl)⟩
  have ll:(Str.ofString "0123456789- \nabcdefghijklmnopqrstuvwxyzABCDEFGHIJKLMNOPQRSTUVWXYZ" ++ Str.ofString "!\"#$&'()*+,./:;<=>?\x40[\\]^_`{|}~").length ≤ sizeLine:=by decide +kernel
  simp! []
  refine ⟨by decide +kernel,b,c,cs,_,rfl,B,by decide,by decide,fun x H1 x0 x1 B1 k1=>⟨rfl,ite2 (fun _=>?_) fun _=>?_⟩⟩
  ·refine ⟨b,c,cs,_,rfl,B1,by decide,by decide,fun y H2 y0 y1 B2 k2=>?_⟩
   obtain ⟨n,rfl⟩:=Int.eq_ofNat_of_zero_le y0
   obtain ⟨ch,e,lt⟩:=al n (by omega)
   exact ⟨_,_,ch,rfl,rfl,ll,e,q ch H2 lt B2 (k1.trans k2)⟩
  ·refine ⟨b,c,cs,_,rfl,B1,by decide,by decide,fun y H2 y0 y1 B2 k2=>?_⟩
   obtain ⟨n,rfl⟩:=Int.eq_ofNat_of_zero_le y0
   obtain ⟨ch,e,lt⟩:=al n (by omega)
   exact ⟨_,_,ch,rfl,rfl,ll,e,q ch H2 lt B2 (k1.trans k2)⟩
noncomputable def sp_run:Sp:=fun vs H Q _=>∃ (b c:Addr) (cs:List Int),vs = [.ref b]∧BagAt H b c cs∧∀ (z:Str) (H':Hp),Asc z->z.length ≤ 12->BagAt H' b c cs->Kp b H H'->Q (.str z) H'
theorem zeE (z:Str) (n:Int):(PySem.Txt.mul z n).cps.toList = (List.replicate n.toNat z.cps.toList).flatten:=by
 have key:∀ (k:Nat) (acc:Array Nat),((List.replicate k z.cps).foldl (fun x1 x2=>x1 ++ x2) acc).toList = acc.toList ++ (List.replicate k z.cps.toList).flatten:=by
  intro k
  induction k with
  | zero=>intro acc; simp
  | succ k ih =>
   intro acc
   rw [List.replicate_succ,List.foldl_cons,ih,List.replicate_succ,List.flatten_cons,Array.toList_append,List.append_assoc]
 unfold PySem.Txt.mul
 split
 ·rename_i c
  rw [show n.toNat = 0 by omega]
  rfl
 ·split
  ·rename_i c d
   rw [Bool.or_eq_true] at d
   rcases d with d | d
   ·have:n = 1:=by simpa using d
    subst this
    show _ = (List.replicate 1 _).flatten
    simp
   ·have e:z.cps.toList = []:=by
     have:z.length = 0:=by simpa using d
     rw [zaz,← Array.length_toList] at this
     exact List.length_eq_zero_iff.mp this
    rw [e]
    induction n.toNat with
    | zero=>rfl
    | succ k ih=>rw [List.replicate_succ,List.flatten_cons,← ih]; rfl
  ·rw [key]
   rfl
theorem zgt (z:Str) (n:Int):(PySem.Txt.mul z n).length = z.length * n.toNat:=by
 rw [zaz,← Array.length_toList,zeE,List.length_flatten,List.map_replicate,List.sum_replicate_nat,Array.length_toList,Nat.mul_comm]
 rfl
theorem zfH {z:Str} {n:Int} (h:Asc z):Asc (PySem.Txt.mul z n):=zaO.mpr fun c hc=>by
 rw [zeE] at hc
 obtain ⟨l,hl,hc⟩:=List.mem_flatten.mp hc
 rw [List.eq_of_mem_replicate hl] at hc
 exact zaO.mp h c hc
theorem join_list (zs:List Str):(PySem.Txt.join ("":Str) zs).cps.toList = zs.flatMap fun z=>z.cps.toList:=by
 have key:∀ (r:List Str) (acc:Array Nat),(r.foldl (fun acc p=>acc ++ (Str.ofString "").cps ++ p.cps) acc).toList = acc.toList ++ r.flatMap fun z=>z.cps.toList:=by
  intro r
  induction r with
  | nil=>intro acc; simp
  | cons c r ih =>
   intro acc
   rw [List.foldl_cons,ih,show (Str.ofString "").cps = #[] by decide]
   simp
 cases zs with
 | nil=>rfl
 | cons c r =>
  show (r.foldl (fun acc p=>acc ++ (Str.ofString "").cps ++ p.cps) c.cps).toList = _
  rw [key]
  simp
theorem zdD (zs:List Str) {m:Nat} (h:∀ z ∈ zs,z.length ≤ m):(PySem.Txt.join ("":Str) zs).length ≤ zs.length * m:=by
 rw [zaz,← Array.length_toList,join_list]
 induction zs with
 | nil=>simp
 | cons z r ih =>
  rw [List.flatMap_cons,List.length_append,List.length_cons,Nat.succ_mul]
  have:=ih fun x hx=>h x (List.mem_cons_of_mem _ hx)
  have:=h z List.mem_cons_self
  rw [zaz,← Array.length_toList] at this
  omega
theorem zeW {zs:List Str} (h:∀ z ∈ zs,Asc z):Asc (PySem.Txt.join ("":Str) zs):=zaO.mpr fun c hc=>by
 rw [join_list] at hc
 obtain ⟨z,hz,hc⟩:=List.mem_flatMap.mp hc
 exact zaO.mp (h z hz) c hc
theorem zcK {x:Nat} (h:x < 128):Asc ⟨#[x]⟩:=zaO.mpr fun c hc=>by
 have:c ∈ [x]:=hc
 rw [List.mem_singleton.mp this]; exact h
theorem zci {zs:List Str} {m:Nat} (h:∀ z ∈ zs,z.length ≤ m):(zs.map (·.length)).sum ≤ zs.length * m:=by
 induction zs with
 | nil=>simp
 | cons z r ih =>
  rw [List.map_cons,List.sum_cons,List.length_cons,Nat.succ_mul]
  have:=ih fun x hx=>h x (List.mem_cons_of_mem _ hx)
  have:=h z List.mem_cons_self
  omega
set_option maxHeartbeats 2000000 in
theorem zcS (T:Txt K mg a):FnOk1 P w K mg base (CX1 P w) 3 a.f_law_run a.d_law_run ["bag"] sp_run:=by
 refine T.F_law_run.okC1 sc_law_run (fun vs H Q E h=>?_) (fun cdv A outer s H vs Q E hr h=>?_)
 ·obtain ⟨b,c,cs,rfl,_⟩:=h
  rfl
 ·obtain ⟨b,c,cs,rfl,B,q⟩:=h
  have hu:=za0 hr
  refine ⟨_,(zgq (zii (i:=1) sc_law_run.nd (by rfl) (Or.inl rfl) (zgy (zag T) (hr.mono (by decide)) (by rfl) T.m_law_draw T.F_law_draw.kp T.b_law_draw .nil zau (zgD (pv 0) (zg1 zh8 pa_nil))))
   (zab (zal (i:=2) sc_law_run.nd (by rfl) (Or.inl rfl) (zah (zag T) (hr.mono (by decide)) (by rfl) T.m_law_draw T.F_law_draw.kp T.b_law_draw .nil zau (zaa (pv 0) (zaa zac pa_nil))))
   (zab (zay (zai op_eq (pv 1) zac (zan _)) (zae (zaq (zam op_mulS zaf (pv 2)))) pss_nil)
   (zab (zay (zai op_eq (pv 1) zac (zan _)) (zae (zaq (zam op_mulS (zah (za3 T) (hr.mono (by decide)) (by rfl) T.m_law_any_sign T.F_law_any_sign.kp T.b_law_any_sign .nil zau (zaa (pv 0) pa_nil)) (pv 2)))) pss_nil)
   (zae (zaq (zaR PySem.F.plainAttrs_str PySem.F.slot_str_join PySem.F.type_str_join mt_join zaf (zaa (za7 (N':=["k","bag"]) (cap:=[none,some 0]) ⟨rfl,(by decide +kernel),(by decide +kernel),(by rfl),rfl,(by rfl)⟩ (by rfl) (zaI (by rfl) T.z_range (zaa (pv 2) pa_nil)) (fun C_ ex_ s_ H_=>(zav (i:=0) (show (["k","bag"]:List Str).Nodup by decide +kernel) (by rfl) (Or.inl rfl))) zaH (fun C_ ex_ s_ H_=>zaU) (fun C_ ex_ s_ H_=>(zah (za3 T) (by exact hr.mono (by decide)) (by rfl) T.m_law_any_sign T.F_law_any_sign.kp T.b_law_any_sign .nil zau (zaa (pv 1) pa_nil)))) pa_nil)))))))),?_⟩
  simp! []
  refine ⟨b,c,cs,_,rfl,B,by decide,by decide,fun way H1 w0 w1 B1 k1=>?_⟩
  simp! []
  refine ⟨b,c,cs,_,rfl,B1,by decide,by decide,fun many H2 m0 m1 B2 k2=>?_⟩
  have k12:=k1.trans k2
  simp! []
  refine ite2 (fun _=>?_) fun _=>ite2 (fun _=>?_) fun _=>?_
  ·refine ⟨_,_,rfl,rfl,by omega,by omega,?_,q _ H2 (zfH (by decide +kernel)) ?_ B2 k12⟩
   ·rw [show (Str.ofString " ").length = 1 by decide,sizeLine_eq]; omega
   ·rw [zgt,show (Str.ofString " ").length = 1 by decide]; omega
  ·refine ⟨b,c,cs,rfl,B2,fun x H3 xl B3 k3=>?_⟩
   have l1:(⟨#[x]⟩:Str).length = 1:=rfl
   refine ⟨_,_,rfl,rfl,by omega,by omega,?_,q _ H3 (zfH (zcK xl)) ?_ B3 (k12.trans k3)⟩
   ·rw [l1,sizeLine_eq]; omega
   ·rw [zgt,l1]; omega
  ·simp! [tBM]
   refine ⟨rfl,?_⟩
   refine zeu many (fun Q2 h2=>by simp! []; exact h2) (by omega) (by omega) (fun D i ys H3=>∃ l:List Nat,ys = (l.map fun x=>V.str ⟨#[x]⟩)∧(∀ x ∈ l,x < 128)∧l.length = i∧H3 D = some (.lst ys)∧BagAt H3 b c cs∧Kp b H H3) (fun D hD=>⟨[],rfl,fun _ h=>absurd h List.not_mem_nil,rfl,zad,B2.laid hD,k12.laid hD⟩) ?_ (by rw [sizeLine_eq]; omega) ?_ ?_
   ·rintro D hD i ys H3 hi ⟨l,rfl,_,ll,h3,_⟩
    exact ⟨h3,by rw [List.length_map]; omega⟩
   ·rintro D hD i ys H3 hi ⟨l,rfl,al,ll,h3,B3,k3⟩
    obtain ⟨Db,Dc⟩:=B2.apart hD
    simp! [tTrue,zaE]
    refine ⟨b,c,cs,rfl,B3,fun x H4 xl B4 k4=>⟨k4 _ _ h3 Db,l ++ [x],by rw [List.map_append]; rfl,fun y hy=>?_,by simp [ll],B4.other Db Dc,(k3.trans k4).new (zfn k12 hD Db)⟩⟩
    rcases List.mem_append.mp hy with hy | hy
    ·exact al y hy
    ·rw [List.mem_singleton.mp hy]; exact xl
   ·rintro D hD ys H3 ⟨l,rfl,al,ll,h3,B3,k3⟩
    have hz:∀ z ∈ l.map (fun x=>(⟨#[x]⟩:Str)),z.length ≤ 1:=fun z hz=>by
     obtain ⟨x,_,rfl⟩:=List.mem_map.mp hz
     exact Nat.le_refl _
    have sl:=zci hz
    have jl:=zdD _ hz
    rw [List.length_map] at sl jl
    refine ⟨_,D,l.map (fun x=>(⟨#[x]⟩:Str)),rfl,rfl,by rw [h3,List.map_map]; rfl,?_,q _ H3 (zeW fun z hz=>?_) (by omega) B3 k3⟩
    ·rw [show (Str.ofString "").length = 0 by decide]; omega
    ·obtain ⟨x,hx,rfl⟩:=List.mem_map.mp hz
     exact zcK (al x hx)
theorem zff (T:Txt K mg a):FnOk P w K mg base (CX1 P w) 3 a.f_law_run a.d_law_run ["bag"] sp_run:=(zcS T).ok
end
section
variable {P:Program} {w:World} {K:PySem.W.Frag} {mg:Str->Option Value} {base:Heap} {a:Ad}
noncomputable def nls (z:Str):Nat:=z.cps.toList.count 10
theorem zbU {x y:Str}:nls (x ++ y) = nls x + nls y:=by
 unfold nls
 show (x.cps ++ y.cps).toList.count 10 = _
 rw [Array.toList_append,List.count_append]
theorem zcZ (z:Str):nls z ≤ z.length:=by
 unfold nls
 rw [zaz,← Array.length_toList]
 exact List.count_le_length
theorem zey {α:Type} (l:List α):∀ k,(List.range k).filterMap (fun i=>l[i]?) = l.take k
 | 0=>rfl
 | k + 1=>by
  rw [List.range_succ,List.filterMap_append,zey l k,List.take_succ]
  congr 1
theorem zfZ (lo hi:Option Int) (n:Nat):∃ a k:Nat,Builtin.Str.strSliceIndices lo hi 1 n = (List.range k).map (a + ·):=by
 unfold Builtin.Str.strSliceIndices
 have key:∀ x y:Int,0 ≤ x->0 ≤ y->∃ a k:Nat,sliceRange x y 1 = (List.range k).map (a + ·):=fun x y hx hy=>by
  obtain ⟨a,rfl⟩:=Int.eq_ofNat_of_zero_le hx
  obtain ⟨b,rfl⟩:=Int.eq_ofNat_of_zero_le hy
  exact ⟨a,b - a,sliceRange_one a b⟩
 dsimp only
 refine key _ _ ?_ ?_
 ·cases lo with
  | none=>simp
  | some i=>simp only [show (1:Int) > 0 by decide,if_true]; omega
 ·cases hi with
  | none=>simp
  | some i=>simp only [show (1:Int) > 0 by decide,if_true]; omega
theorem zfE (z:Str) (lo hi:Option Int):(PySem.Txt.slice z lo hi).cps.toList.Sublist z.cps.toList:=by
 unfold PySem.Txt.slice
 split
 ·exact List.Sublist.refl _
 ·obtain ⟨a,k,e⟩:=zfZ lo hi z.length
  rw [e,List.filterMap_map]
  have:(List.range k).filterMap ((fun x=>z.cps[x]?) ∘ (a + ·)) = (z.cps.toList.drop a).take k:=by
   rw [← zey]
   congr 1
   funext i
   show z.cps[a + i]? = _
   rw [List.getElem?_drop,Array.getElem?_toList]
  show ((List.range k).filterMap _).Sublist _
  rw [this]
  exact (List.take_sublist _ _).trans (List.drop_sublist _ _)
theorem zb7 {z:Str} {lo hi:Option Int}:nls (PySem.Txt.slice z lo hi) ≤ nls z:=(zfE z lo hi).count_le 10
theorem nl3 {z y:Str} {a b c d:Option Int} (h:y.length ≤ 12):nls (PySem.Txt.slice z a b ++ y ++ PySem.Txt.slice z c d) ≤ 2 * nls z + 13:=by
 rw [zbU,zbU]
 have:=zb7 (z:=z) (lo:=a) (hi:=b)
 have:=zb7 (z:=z) (lo:=c) (hi:=d)
 have:=zcZ y
 omega
theorem ms_at {ms:List Int} {x:Int} (x0:0 ≤ x) (x1:x < ms.length):∃ y,atI (ms.map V.int) x = some (.int y)∧y ∈ ms:=by
 have hx:x.toNat < ms.length:=by omega
 have:=zaQ (xs:=ms.map V.int) (j:=x.toNat) (show (ms.map V.int)[x.toNat]? = some (.int ms[x.toNat]) by rw [List.getElem?_map,List.getElem?_eq_getElem hx]; rfl)
 rw [show ((x.toNat:Nat):Int) = x by omega] at this
 exact ⟨_,this,List.getElem_mem hx⟩
noncomputable def sp_bent:Sp:=fun vs H Q _=>∃ (b c pk:Addr) (cs:List Int) (z:Str) (a0 a1 a2 a3:Int),vs = [.str z,.ref pk,.ref b]∧BagAt H b c cs∧H pk = some (.lst [.int a0,.int a1,.int a2,.int a3])∧0 ≤ a0∧0 ≤ a1∧0 ≤ a2∧Asc z∧z.length ≤ 900000∧∀ (y:Str) (H':Hp),Asc y->y.length ≤ 2 * z.length + 13->nls y ≤ 2 * nls z + 13->BagAt H' b c cs->Kp b H H'->Q (.str y) H'
theorem za1 {x y:Str}:(x ++ y).length = x.length + y.length:=zcD
set_option maxHeartbeats 4000000 in
theorem zcv (T:Txt K mg a):FnOk P w K mg base (CX1 P w) 4 a.f_law_bent_text a.d_law_bent_text ["text","pick","bag"] sp_bent:=by
 refine T.F_law_bent_text.okC sc_law_bent_text (fun vs H Q E h=>?_) (fun cdv A outer s H vs Q E hr h=>?_)
 ·obtain ⟨b,c,pk,cs,z,a0,a1,a2,a3,rfl,_⟩:=h
  rfl
 ·obtain ⟨b,c,pk,cs,z,a0,a1,a2,a3,rfl,B,hk,p0,p1,p2,az,lz,q⟩:=h
  have hu:=za0 hr
  have lz':z.length ≤ sizeLine:=by rw [sizeLine_eq]; omega
  have lenS:∀ {y:Str} {H2:Hp},y.length ≤ sizeLine->lenF (.str y) H2 = some y.length:=fun h=>if_pos h
  have sl:∀ lo hi,(PySem.Txt.slice z lo hi).length ≤ z.length:=fun lo hi=>PySem.Txt.slice_le z lo hi
  have kb:pk ≠ b:=B.nInts (ns:=[a0,a1,a2,a3]) hk
  refine ⟨_,(zab (zal (i:=3) sc_law_bent_text.nd (by rfl) (Or.inl rfl) (zam op_mod (zar ix_F (pv 1) zac (fun _ _=>rfl)) (zam op_add (zao call_lenF (by rfl) T.z_len (by decide +kernel) (zaa (pv 0) pa_nil)) zac)))
   (zab (zay (zai op_eq (zar ix_F (pv 1) zac (fun _ _=>rfl)) zac (zan _)) (zae (zaq (zam op_add_str (zam op_add_str (zas sl_str (pv 0) po_none (zaw (pv 3))) (zah (za3 T) (hr.mono (by decide)) (by rfl) T.m_law_any_sign T.F_law_any_sign.kp T.b_law_any_sign .nil zau (zaa (pv 2) pa_nil))) (zas sl_str (pv 0) (zaw (pv 3)) po_none)))) pss_nil)
   (zab (zay (zai op_eq (zar ix_F (pv 1) zac (fun _ _=>rfl)) zac (zan _)) (zae (zaq (zam op_add_str (zas sl_str (pv 0) po_none (zaw (pv 3))) (zas sl_str (pv 0) (zaw (zam op_add (pv 3) zac)) po_none)))) pss_nil)
   (zab (zay (zai op_eq (zar ix_F (pv 1) zac (fun _ _=>rfl)) zac (zan _)) (zae (zaq (zam op_add_str (zam op_add_str (zas sl_str (pv 0) po_none (zaw (pv 3))) (zah (za3 T) (hr.mono (by decide)) (by rfl) T.m_law_any_sign T.F_law_any_sign.kp T.b_law_any_sign .nil zau (zaa (pv 2) pa_nil))) (zas sl_str (pv 0) (zaw (zam op_add (pv 3) zac)) po_none)))) pss_nil)
   (zab (zay (zai op_eq (zar ix_F (pv 1) zac (fun _ _=>rfl)) zac (zan _)) (zab (zal (i:=4) sc_law_bent_text.nd (by rfl) (Or.inl rfl) (zam op_cat (zaC (zaa zac pa_nil)) (za7 (N':=["k","text"]) (cap:=[none,some 0]) ⟨rfl,(by decide +kernel),(by decide +kernel),(by rfl),rfl,(by rfl)⟩ (by rfl) (zaI (by rfl) T.z_range (zaa (zao call_lenF (by rfl) T.z_len (by decide +kernel) (zaa (pv 0) pa_nil)) pa_nil)) (fun C_ ex_ s_ H_=>(zav (i:=0) (show (["k","text"]:List Str).Nodup by decide +kernel) (by rfl) (Or.inl rfl))) zaH (fun C_ ex_ s_ H_=>(zds (zai op_eq (zar ix_str (pv 1) (pv 0) (fun _ _=>rfl)) zaf (zan _)))) (fun C_ ex_ s_ H_=>(zam op_add (pv 0) zac)))))
   (zae (zal (i:=3) sc_law_bent_text.nd (by rfl) (Or.inl rfl) (zar ix_F (pv 4) (zam op_mod (zar ix_F (pv 1) zac (fun _ _=>rfl)) (zao call_lenF (by rfl) T.z_len (by decide +kernel) (zaa (pv 4) pa_nil))) (fun _ _=>rfl))))) pss_nil)
   (zab (zal (i:=5) sc_law_bent_text.nd (by rfl) (Or.inl rfl) (zar ix_F (zaC (zaa zac (zaa zac (zaa (zam op_mod (zam op_fdivB (zar ix_F (pv 1) zac (fun _ _=>rfl)) zac) zac) pa_nil)))) (zam op_mod (zar ix_F (pv 1) zac (fun _ _=>rfl)) zac) (fun _ _=>rfl)))
   (zae (zaq (zam op_add_str (zam op_add_str (zas sl_str (pv 0) po_none (zaw (pv 3))) (zah (zff T) (hr.mono (by decide)) (by rfl) T.m_law_run T.F_law_run.kp T.b_law_run .nil zau (zaa (pv 2) pa_nil))) (zas sl_str (pv 0) (zaw (zam op_add (pv 3) (pv 5))) po_none)))))))))),?_⟩
  generalize hG:tSeq (tAsg _ (zbn 5)) _ = tail
  have FIN:∀ (at_:Int) (v4:Option V) (H2:Hp),BagAt H2 b c cs->Kp b H H2->tail { nx:=fun _ H'=>Q .non H',rt:=Q } [some (.str z),some (.ref pk),some (.ref b),some (.int at_),v4,none] H2:=by
   intro at_ v4 H2 B2 k2
   subst hG
   have hk2:=k2 _ _ hk kb
   simp! [hk2,tSl,zbv,tNoPart]
   refine ⟨⟨by decide,by decide⟩,by decide,fun p np=>?_⟩
   have hk3:=zaj (u:=.lst [V.int 0,V.int 0,V.int (a2 / 3 % 13)]) hk2 np
   have B3:=B2.laid (u:=.lst [V.int 0,V.int 0,V.int (a2 / 3 % 13)]) np
   have k3:=k2.laid (u:=.lst [V.int 0,V.int 0,V.int (a2 / 3 % 13)]) np
   revert hk3 B3 k3
   generalize upd H2 p (.lst [V.int 0,V.int 0,V.int (a2 / 3 % 13)]) = H3
   intro hk3 B3 k3
   obtain ⟨g,eg⟩:∃ g:Int,atI [V.int 0,V.int 0,V.int (a2 / 3 % 13)] (a2 % 3) = some (.int g):=by
    have:a2 % 3 = 0 ∨ a2 % 3 = 1 ∨ a2 % 3 = 2:=by omega
    rcases this with e | e | e <;> rw [e] <;> exact ⟨_,rfl⟩
   refine ⟨_,by rw [hk3]; rfl,_,zdZ,_,rfl,by decide,_,eg,z,rfl,lz',?_⟩
   refine ⟨b,c,cs,rfl,B3,fun y H4 ay ly B4 k4=>⟨_,rfl,_,rfl,?_,g,rfl,z,rfl,lz',_,rfl,?_,?_⟩⟩
   ·have:=sl none (some at_); omega
   ·rw [za1]
    have:=sl none (some at_)
    have:=sl (some (at_ + g)) none
    omega
   ·refine q _ H4 (zbf (zbf (zbl az) ay) (zbl az)) ?_ (nl3 ly) B4 (k3.trans k4)
    rw [za1,za1]
    have:=sl none (some at_)
    have:=sl (some (at_ + g)) none
    omega
  have two:∀ (lo hi:Option Int) (y:Str),y.length ≤ 12->Asc y->∀ H2,BagAt H2 b c cs->Kp b H H2->∀ i,i = PySem.Txt.slice z none lo->(PySem.Txt.slice z none lo).length + y.length ≤ 16777216∧(PySem.Txt.slice z none lo ++ y).length + (PySem.Txt.slice z hi none).length ≤ 16777216∧Q (.str (PySem.Txt.slice z none lo ++ y ++ PySem.Txt.slice z hi none)) H2:=fun lo hi y ly ay H2 B2 k2 i _=>by
   have:=sl none lo
   have:=sl hi none
   refine ⟨by omega,by rw [za1]; omega,q _ H2 (zbf (zbf (zbl az) ay) (zbl az)) (by rw [za1,za1]; omega) (nl3 ly) B2 k2⟩
  simp! [hk,tSl,zbv,tNoPart]
  refine ⟨_,lenS lz',by omega,ite2 (fun _=>?_) fun _=>ite2 (fun _=>?_) fun _=>ite2 (fun _=>?_) fun _=>ite2 (fun _=>?_) fun _=>FIN _ _ H B .refl⟩
  ·refine ⟨z,rfl,lz',b,c,cs,rfl,B,fun x H2 xl B2 k2=>?_⟩
   obtain ⟨t1,t2,t3⟩:=two (some (a1 % ((z.length:Int) + 1))) (some (a1 % ((z.length:Int) + 1))) ⟨#[x]⟩ (show 1 ≤ 12 by decide) (zcK xl) H2 B2 k2 _ rfl
   exact ⟨_,rfl,_,rfl,t1,z,rfl,lz',_,rfl,t2,t3⟩
  ·refine ⟨z,rfl,lz',z,rfl,lz',_,rfl,_,rfl,?_,q _ H (zbf (zbl az) (zbl az)) ?_ (by rw [zbU]; have:=zb7 (z:=z) (lo:=none) (hi:=some (a1 % ((z.length:Int) + 1))); have:=zb7 (z:=z) (lo:=some (a1 % ((z.length:Int) + 1) + 1)) (hi:=none); omega) B .refl⟩
   ·have:=sl none (some (a1 % ((z.length:Int) + 1)))
    have:=sl (some (a1 % ((z.length:Int) + 1) + 1)) none
    omega
   ·rw [za1]
    have:=sl none (some (a1 % ((z.length:Int) + 1)))
    have:=sl (some (a1 % ((z.length:Int) + 1) + 1)) none
    omega
  ·refine ⟨z,rfl,lz',b,c,cs,rfl,B,fun x H2 xl B2 k2=>?_⟩
   obtain ⟨t1,t2,t3⟩:=two (some (a1 % ((z.length:Int) + 1))) (some (a1 % ((z.length:Int) + 1) + 1)) ⟨#[x]⟩ (show 1 ≤ 12 by decide) (zcK xl) H2 B2 k2 _ rfl
   exact ⟨_,rfl,_,rfl,t1,z,rfl,lz',_,rfl,t2,t3⟩
  ·intro p np
   have S1:Same H (upd H p (.lst [V.int 0])):=.laid np
   have hp1:upd H p (.lst [V.int 0]) p = some (.lst [V.int 0]):=zad
   revert S1 hp1
   generalize upd H p (.lst [V.int 0]) = H1
   intro S1 hp1
   refine zi5 (z.length:Int) (fun i=>if z.cps.toList[i]? = some 10 then some (.int (0 + i + 1)) else none) (fun Q2 h2=>by simp! [lenS lz']; exact h2) (by omega) (by omega) (by rw [sizeLine_eq]; omega) ?_ ?_
   ·intro i H2 R N hi S hR hN
    have il:i < z.cps.toList.length:=by rw [Array.length_toList,← zaz]; omega
    have ea:atI z.cps.toList (0 + (i:Int)) = some z.cps.toList[i]:=by rw [Int.zero_add]; exact zaQ (List.getElem?_eq_getElem il)
    simp! [zaE]
    refine ⟨z,_,_,rfl,rfl,lz',ea,rfl,?_⟩
    have hh:(V.str ⟨#[z.cps.toList[i]]⟩ = V.str (Str.ofString "\n")) ↔ z.cps.toList[i]? = some 10:=by
     rw [List.getElem?_eq_getElem il]
     have e2:(Str.ofString "\n").cps.toList = [10]:=by decide
     constructor
     ·intro h
      injection h with h
      have:=congrArg Array.toList (congrArg Str.cps h)
      rw [e2] at this
      injection this with h1 _
      rw [h1]
     ·intro h
      injection h with h
      rw [h]
      exact congrArg V.str (zce (by rw [e2]))
    refine ite2 (fun c=>?_) fun c=>?_
    ·exact hR _ _ (if_pos (hh.mp c)) (Same.refl _)
    ·exact hN (if_neg (fun h=>c (hh.mpr h))) _ (Same.refl _)
   ·intro D H2 hD S e
    have hp2:=S _ _ hp1
    obtain ⟨ns,en⟩:∃ ns:List Int,(List.range (z.length:Int).toNat).filterMap (fun i:Nat=>if z.cps.toList[i]? = some 10 then some (V.int (0 + i + 1)) else none) = ns.map V.int:=by
     induction List.range (z.length:Int).toNat with
     | nil=>exact ⟨[],rfl⟩
     | cons i r ih =>
      obtain ⟨ns,e⟩:=ih
      by_cases c:z.cps.toList[i]? = some 10
      ·exact ⟨(0 + (i:Int) + 1) :: ns,by rw [List.filterMap_cons]; simp only [if_pos c]; rw [e]; rfl⟩
      ·exact ⟨ns,by rw [List.filterMap_cons]; simp only [if_neg c]; exact e⟩
    have ln:ns.length ≤ z.length:=by
     have:=congrArg List.length en
     rw [List.length_map] at this
     rw [← this]
     exact Nat.le_trans (List.length_filterMap_le _ _) (by rw [List.length_range]; omega)
    rw [en] at e
    simp! [rCat,hp2,e]
    refine ⟨by rw [List.length_map]; omega,fun p3 np3=>?_⟩
    have S3:=((S1.trans S).step np3 (u:=.lst (V.int 0 :: ns.map V.int)))
    have h3:upd H2 p3 (.lst (V.int 0 :: ns.map V.int)) p3 = some (.lst ((0 :: ns).map V.int)):=zad
    revert S3 h3
    generalize upd H2 p3 (.lst (V.int 0 :: ns.map V.int)) = H3
    intro S3 h3
    have hk3:=S3 _ _ hk
    have bd:0 ≤ a1 % (((0 :: ns).length:Nat):Int)∧a1 % (((0 :: ns).length:Nat):Int) < (((0 :: ns).length:Nat):Int):=⟨Int.emod_nonneg _ (by simp <;> omega),Int.emod_lt_of_pos _ (by simp <;> omega)⟩
    obtain ⟨y,ey,_⟩:=ms_at bd.1 bd.2
    refine ⟨_,by rw [hk3]; rfl,_,zdC,a1,rfl,by omega,_,by rw [List.length_map]; exact ey,?_⟩
    exact FIN y _ H3 (B.keep S3) (fun q o h _=>S3 q o h)
end
section
variable {P:Program} {w:World} {K:PySem.W.Frag} {mg:Str->Option Value} {base:Heap} {a:Ad}
theorem zgg (i:Int):Asc (Str.ofString (toString i)):=zaO.mpr fun c hc=>by
 by_cases h:c < 128
 ·exact h
 ·exact absurd hc (PyProof.Rows.int_text_free' c ⟨by omega,by omega⟩ i)
noncomputable def strI (i:Int):Str:=Str.ofString (toString i)
noncomputable def NumB (i:Int):Prop:=-(10 ^ 60) < i∧i < 10 ^ 60
theorem dig_c:∀ d:Nat,d < 10->(Nat.digitChar d).toNat = 48 + d:=by decide
theorem zeX {m:Nat}:∀ c ∈ (Nat.toDigits 10 m).map Char.toNat,48 ≤ c∧c ≤ 57:=by
 induction m using Nat.strongRecOn with
 | _ m ih =>
  by_cases h:m < 10
  ·rw [Nat.toDigits_of_lt_base h]
   intro c hc
   have:=dig_c m h
   simp at hc
   omega
  ·have hm:m % 10 < 10:=Nat.mod_lt m (by decide)
   have t:Nat.toDigits 10 (m / 10) ++ Nat.toDigits 10 (m % 10) = Nat.toDigits 10 (10 * (m / 10) + m % 10):=Nat.toDigits_append_toDigits (by decide) (by omega) hm
   rw [Nat.div_add_mod] at t
   rw [← t,List.map_append,Nat.toDigits_of_lt_base hm]
   intro c hc
   rcases List.mem_append.mp hc with h | h
   ·exact ih (m / 10) (by omega) c h
   ·have:=dig_c (m % 10) hm
    simp at h
    omega
theorem zd4 {m:Nat} (h0:0 < m):((Nat.toDigits 10 m).map Char.toNat).head? ≠ some 48:=by
 induction m using Nat.strongRecOn with
 | _ m ih =>
  by_cases h:m < 10
  ·rw [Nat.toDigits_of_lt_base h]
   have:=dig_c m h
   simp
   omega
  ·have hm:m % 10 < 10:=Nat.mod_lt m (by decide)
   have t:Nat.toDigits 10 (m / 10) ++ Nat.toDigits 10 (m % 10) = Nat.toDigits 10 (10 * (m / 10) + m % 10):=Nat.toDigits_append_toDigits (by decide) (by omega) hm
   rw [Nat.div_add_mod] at t
   rw [← t,List.map_append]
   have:=ih (m / 10) (by omega) (by omega)
   intro e
   rw [List.head?_append] at e
   cases c:((Nat.toDigits 10 (m / 10)).map Char.toNat).head? with
   | none =>
    have:=PyProof.Rows.tDigits_len_ge 10 (m / 10)
    rw [List.head?_eq_none_iff,List.map_eq_nil_iff] at c
    rw [c] at this
    simp at this
   | some z =>
    rw [c] at e this
    simp at e
    exact this (by rw [e])
theorem zfI (m:Nat):(strI (-((m + 1:Nat):Int))).cps.toList = 45 :: (Nat.toDigits 10 (m + 1)).map Char.toNat:=by
 unfold strI
 rw [PyProof.Rows.signs_ofString]
 show (toString (Int.negSucc m)).toList.map Char.toNat = _
 have:toString (Int.negSucc m) = "-" ++ Nat.repr (m + 1):=rfl
 rw [this,String.toList_append,List.map_append,Nat.toList_repr]
 rfl
theorem zbA {i:Int} (h:NumB i):OkT (strI i) 60∧intText? (strI i) = some i∧Asc (strI i)∧(strI i).length ≤ 61:=by
 have e60:((10 ^ 60:Nat):Int) = 10 ^ 60:=by decide
 have key:∀ m:Nat,(m:Int) < 10 ^ 60->(Nat.toDigits 10 m).length ≤ 60∧1 ≤ (Nat.toDigits 10 m).length:=fun m hm=>by
  refine ⟨PyProof.Rows.digits10_le (by decide) ?_,PyProof.Rows.tDigits_len_ge 10 m⟩
  rw [← e60] at hm
  exact Int.ofNat_lt.mp hm
 by_cases c:0 ≤ i
 ·obtain ⟨m,rfl⟩:=Int.eq_ofNat_of_zero_le c
  have el:(strI (m:Int)).cps.toList = (Nat.toDigits 10 m).map Char.toNat:=W.KIN.signs_num m
  obtain ⟨k1,k2⟩:=key m h.2
  have dg:=zeX (m:=m)
  have ln:(strI (m:Int)).length = (Nat.toDigits 10 m).length:=by rw [zaz,← Array.length_toList,el,List.length_map]
  have nm:¬ Mn (strI (m:Int)):=fun z=>by
   unfold Mn at z
   rw [el] at z
   have:=dg 45 (List.mem_of_mem_head? (by rw [z]; rfl))
   omega
  have ef:figs (strI (m:Int)) = (Nat.toDigits 10 m).map Char.toNat:=by unfold figs; rw [if_neg nm,el]
  refine ⟨⟨by rw [ef,List.length_map]; exact k2,by rw [ef,List.length_map]; omega,by rw [ef]; exact dg,?_⟩,?_,zgg _,by omega⟩
  ·rw [ef,ln]
   rintro ⟨h1,h2⟩
   by_cases z:m = 0
   ·subst z; exact absurd h2 (by decide)
   ·exact zd4 (by omega) h1
  ·have e:=intText_digits (x:=strI (m:Int)) (by rw [el]; exact dg) (by rw [el]; intro z; have:=congrArg List.length z; rw [List.length_map] at this; simp at this) (by omega)
   rw [el,W.KIN.val_back] at e
   exact e
 ·obtain ⟨m,rfl⟩:∃ m:Nat,i = -((m + 1:Nat):Int):=⟨(-i - 1).toNat,by omega⟩
  have el:=zfI m
  obtain ⟨k1,k2⟩:=key (m + 1) (by have:=h.1; omega)
  have dg:=zeX (m:=m + 1)
  have ln:(strI (-((m + 1:Nat):Int))).length = (Nat.toDigits 10 (m + 1)).length + 1:=by rw [zaz,← Array.length_toList,el,List.length_cons,List.length_map]
  have nm:Mn (strI (-((m + 1:Nat):Int))):=by unfold Mn; rw [el]; rfl
  have ef:figs (strI (-((m + 1:Nat):Int))) = (Nat.toDigits 10 (m + 1)).map Char.toNat:=by unfold figs; rw [if_pos nm,el]; rfl
  refine ⟨⟨by rw [ef,List.length_map]; exact k2,by rw [ef,List.length_map]; omega,by rw [ef]; exact dg,fun z=>zd4 (m:=m + 1) (by omega) (by rw [← ef]; exact z.1)⟩,?_,zgg _,by omega⟩
  have e:=intText_neg (x:=strI (-((m + 1:Nat):Int))) el dg (by intro z; have:=congrArg List.length z; rw [List.length_map] at this; simp at this) (by omega)
  rw [W.KIN.val_back] at e
  exact e
theorem digs_back:∀ (n:Nat) (l:List Nat),l.length = n + 1->(∀ c ∈ l,48 ≤ c∧c ≤ 57)->(l.head? = some 48->l.length = 1)->(Nat.toDigits 10 (NumText.digitsVal l)).map Char.toNat = l∧NumText.digitsVal l < 10 ^ (n + 1)
 | 0,l,hl,hd,_=>by
  match l,hl with
  | [c],_ =>
   have h:=hd c (by simp)
   have e:NumText.digitsVal [c] = c - 48:=by show 0 * 10 + (c - 48) = _; omega
   rw [e,Nat.toDigits_of_lt_base (by omega)]
   have:=dig_c (c - 48) (by omega)
   refine ⟨?_,by omega⟩
   simp only [List.map_cons,List.map_nil]
   rw [this,show 48 + (c - 48) = c by omega]
 | n + 1,l,hl,hd,hz=>by
  rcases List.eq_nil_or_concat l with e | ⟨l0,c,e⟩
  ·rw [e] at hl; simp at hl
  rw [List.concat_eq_append] at e
  subst e
  have l0n:l0.length = n + 1:=by simpa using hl
  have h0:l0.head? ≠ some 48:=fun z=>by
   have:=hz (by rw [List.head?_append,z]; rfl)
   rw [List.length_append,l0n] at this
   simp at this
  have hc:=hd c (by simp)
  obtain ⟨ih,ib⟩:=digs_back n l0 l0n (fun x hx=>hd x (by simp [hx])) fun z=>absurd z h0
  have p0:0 < NumText.digitsVal l0:=by
   refine Nat.pos_of_ne_zero fun z=>h0 ?_
   rw [z] at ih
   rw [← ih]
   rfl
  have t:Nat.toDigits 10 (NumText.digitsVal l0) ++ Nat.toDigits 10 (c - 48) = Nat.toDigits 10 (10 * NumText.digitsVal l0 + (c - 48)):=Nat.toDigits_append_toDigits (by decide) p0 (by omega)
  rw [NumText.digitsVal_snoc,show NumText.digitsVal l0 * 10 + (c - 48) = 10 * NumText.digitsVal l0 + (c - 48) by omega]
  refine ⟨?_,by rw [Nat.pow_succ]; omega⟩
  rw [← t,List.map_append,ih,Nat.toDigits_of_lt_base (by omega)]
  have:=dig_c (c - 48) (by omega)
  simp only [List.map_cons,List.map_nil]
  rw [this,show 48 + (c - 48) = c by omega]
theorem zcA {z:Str} {n:Int} (h:OkT z 60) (hn:intText? z = some n):NumB n∧z = strI n:=by
 have l1:=h.l1
 have l2:=h.l2
 have dg:=h.dg
 have zr:=h.zr
 obtain ⟨k,hk⟩:∃ k,(figs z).length = k + 1:=⟨(figs z).length - 1,by omega⟩
 have lz:z.length = z.cps.toList.length:=by rw [zaz,← Array.length_toList]
 have k60:k + 1 ≤ 60:=by omega
 have pk:10 ^ (k + 1) ≤ 10 ^ 60:=Nat.pow_le_pow_right (by decide) (by omega)
 have e60:((10 ^ 60:Nat):Int) = 10 ^ 60:=by decide
 by_cases c:Mn z
 ·have ef:figs z = z.cps.toList.drop 1:=if_pos c
  obtain ⟨r,er⟩:∃ r,z.cps.toList = 45 :: r:=by
   unfold Mn at c
   cases e:z.cps.toList with
   | nil=>rw [e] at c; cases c
   | cons a r=>rw [e] at c; injection c with c; exact ⟨r,by rw [c]⟩
  have ef2:figs z = r:=by rw [ef,er]; rfl
  rw [ef2] at hk dg zr
  have zl:z.length = k + 2:=by rw [lz,er,List.length_cons,hk]
  obtain ⟨d1,d2⟩:=digs_back k r hk dg fun z0=>absurd ⟨z0,by omega⟩ zr
  have e:=intText_neg (x:=z) er dg (fun z0=>by rw [z0] at hk; simp at hk) (by omega)
  rw [hn] at e
  have e:=Option.some.inj e
  have p0:NumText.digitsVal r ≠ 0:=fun z0=>zr ⟨by rw [z0] at d1; rw [← d1]; rfl,by omega⟩
  obtain ⟨m,hm⟩:∃ m,NumText.digitsVal r = m + 1:=⟨NumText.digitsVal r - 1,by omega⟩
  have b:((NumText.digitsVal r:Nat):Int) < 10 ^ 60:=by rw [← e60]; exact Int.ofNat_lt.mpr (Nat.lt_of_lt_of_le d2 pk)
  rw [hm] at e d1 b
  refine ⟨⟨by omega,by omega⟩,zce ?_⟩
  rw [e,zfI,er,d1]
 ·have ef:figs z = z.cps.toList:=if_neg c
  rw [ef] at hk dg zr
  obtain ⟨d1,d2⟩:=digs_back k _ hk dg fun z0=>by
   rw [hk]
   by_cases c0:k = 0
   ·omega
   ·exact absurd ⟨z0,by omega⟩ zr
  have e:=intText_digits (x:=z) dg (fun z0=>by rw [z0] at hk; simp at hk) (by omega)
  rw [hn] at e
  have e:=Option.some.inj e
  have b:((NumText.digitsVal z.cps.toList:Nat):Int) < 10 ^ 60:=by rw [← e60]; exact Int.ofNat_lt.mpr (Nat.lt_of_lt_of_le d2 pk)
  refine ⟨⟨by omega,by omega⟩,zce ?_⟩
  rw [e]
  exact (d1.symm.trans (W.KIN.signs_num _).symm)
end
section
variable {P:Program} {w:World} {K:PySem.W.Frag} {mg:Str->Option Value} {base:Heap} {a:Ad}
noncomputable def pOf:Part->List Int
 | .inl x=>[x]
 | .inr l=>l
noncomputable def zaB (r:Row):List Int:=r.2.flatMap pOf
noncomputable def zaS (r:Row):List Str:=r.1 :: (zaB r).map strI
noncomputable def sp32:Str:=⟨#[32]⟩
noncomputable def nl10:Str:=⟨#[10]⟩
noncomputable def za4 (r:Row):Str:=Str.join sp32 (zaS r)
noncomputable def tkTx (z:Str):Str:=if z = "" then "-" else z
noncomputable def za8 (d:Df):List Str:=[("def":Str),tkTx d.1.1,d.1.2,strI d.2.1]
noncomputable def zbj (d:Df):Str:=Str.join sp32 (za8 d)
noncomputable def zaY (d:Df):List Str:=zbj d :: d.2.2.map za4
noncomputable def zak (ds:List Df):List Str:=ds.flatMap zaY
noncomputable def zaL (ds:List Df):Str:=Str.join nl10 (zak ds)
structure TxR (r:Row):Prop where
 w:∃ ls,(r.1,ls) ∈ LW∧(r.1 ≠ "call"->r.2.length = ls.cps.size∧∀ x ∈ r.2,∃ i,x = .inl i)
 c:r.1 = "call"->∃ (p g:Int) (l:List Int),r.2 = [.inl p,.inl g,.inr l]∧l.length ≤ 100
 nb:∀ i ∈ zaB r,NumB i
structure TxD (d:Df):Prop where
 tk:∀ c ∈ d.1.1.cps.toList,NH c
 tl:d.1.1.cps.size ≤ 100
 gv:d.1.2 = ⟨#[110]⟩ ∨ d.1.2 = ⟨#[104]⟩
 wd:NumB d.2.1
 rs:∀ r ∈ d.2.2,TxR r
 rl:d.2.2.length ≤ 100
structure TxP (ds:List Df):Prop where
 n0:ds ≠ []
 n1:ds.length ≤ 20
 ds:∀ d ∈ ds,TxD d
structure GxR (r:Row):Prop where
 w:∃ ls,(r.1,ls) ∈ LW∧(r.1 ≠ "call"->r.2.length = ls.cps.size∧∀ x ∈ r.2,∃ i,x = .inl i)
 c:r.1 = "call"->∃ (p g:Int) (l:List Int),r.2 = [.inl p,.inl g,.inr l]
 nb:∀ i ∈ zaB r,NumB i
structure GxD (d:Df):Prop where
 tk:∀ c ∈ d.1.1.cps.toList,NH c
 gv:d.1.2 = ⟨#[110]⟩ ∨ d.1.2 = ⟨#[104]⟩
 wd:NumB d.2.1
 rs:∀ r ∈ d.2.2,GxR r
structure GxP (ds:List Df):Prop where
 n0:ds ≠ []
 ds:∀ d ∈ ds,GxD d
theorem TxR.g {r:Row} (h:TxR r):GxR r:=⟨h.w,fun c=>by obtain ⟨p,g,l,e,_⟩:=h.c c; exact ⟨p,g,l,e⟩,h.nb⟩
theorem TxD.g {d:Df} (h:TxD d):GxD d:=⟨h.tk,h.gv,h.wd,fun r hr=>(h.rs r hr).g⟩
theorem TxP.g {ds:List Df} (h:TxP ds):GxP ds:=⟨h.n0,fun d hd=>(h.ds d hd).g⟩
theorem LW_w:∀ p ∈ LW,p.1.cps.size ≤ 5∧(∀ c ∈ p.1.cps.toList,97 ≤ c∧c ≤ 122)∧p.2.cps.size ≤ 3∧(p.1 = "call"->p.2.cps.size = 3)∧p.1 ≠ "def":=by decide +kernel
theorem NumB.free {i:Int} {c:Nat} (h:c ∈ (strI i).cps.toList):c = 45 ∨ (48 ≤ c∧c ≤ 57):=by
 by_cases e:c = 45
 ·exact .inl e
 ·by_cases f:c < 48 ∨ 57 < c
  ·exact absurd h (PyProof.Rows.int_text_free' c ⟨e,f⟩ i)
  ·exact .inr (by omega)
theorem zdh {r:Row} (h:GxR r):∀ z ∈ zaS r,∀ c ∈ z.cps.toList,c ≠ 32∧c ≠ 10∧c < 128:=by
 intro z hz c hc
 rcases List.mem_cons.mp hz with rfl | hz
 ·obtain ⟨ls,m,_⟩:=h.w
  have:=(LW_w _ m).2.1 c hc
  omega
 ·obtain ⟨i,_,rfl⟩:=List.mem_map.mp hz
  have:=NumB.free hc
  omega
theorem zgp {z:Str} (h:∀ c ∈ z.cps.toList,NH c):∀ c ∈ (tkTx z).cps.toList,c = 45 ∨ NH c:=by
 unfold tkTx
 split
 ·intro c hc
  exact .inl (by simpa [show ("-":Str).cps.toList = [45] by decide] using hc)
 ·exact fun c hc=>.inr (h c hc)
theorem zh6 {z:Str} (h:z = ⟨#[110]⟩ ∨ z = ⟨#[104]⟩):∀ c ∈ z.cps.toList,NH c:=by
 intro c hc
 rcases h with rfl | rfl
 ·simp at hc; subst hc; exact .inl rfl
 ·simp at hc; subst hc; exact .inr rfl
theorem nh_c {c:Nat} (h:NH c):c ≠ 32∧c ≠ 10∧c < 128:=by rcases h with rfl | rfl <;> decide
theorem zdd {d:Df} (h:GxD d):∀ z ∈ za8 d,∀ c ∈ z.cps.toList,c ≠ 32∧c ≠ 10∧c < 128:=by
 intro z hz c hc
 simp only [za8,List.mem_cons,List.not_mem_nil,or_false] at hz
 rcases hz with rfl | rfl | rfl | rfl
 ·have:∀ c ∈ ("def":Str).cps.toList,c ≠ 32∧c ≠ 10∧c < 128:=by decide
  exact this c hc
 ·rcases zgp h.tk c hc with rfl | h
  ·decide
  ·exact nh_c h
 ·exact nh_c (zh6 h.gv c hc)
 ·have:=NumB.free hc
  omega
theorem zcz {x:Nat} {zs:List Str} {c:Nat} (h:c ∈ (Str.join ⟨#[x]⟩ zs).cps.toList):c = x ∨ ∃ z ∈ zs,c ∈ z.cps.toList:=by
 cases zs with
 | nil=>simp [Str.join,Str.empty] at h
 | cons z zs =>
  rw [L2.join_list] at h
  rcases List.mem_append.mp h with h | h
  ·exact .inr ⟨z,by simp,h⟩
  ·obtain ⟨y,hy,hc⟩:=List.mem_flatMap.mp h
   rcases List.mem_cons.mp hc with h | h
   ·exact .inl h
   ·exact .inr ⟨y,by simp [hy],h⟩
theorem zfj {r:Row} (h:GxR r):∀ c ∈ (za4 r).cps.toList,c ≠ 10∧c < 128:=by
 intro c hc
 rcases zcz hc with rfl | ⟨z,hz,hc⟩
 ·decide
 ·exact (zdh h z hz c hc).2
theorem ze0 {d:Df} (h:GxD d):∀ c ∈ (zbj d).cps.toList,c ≠ 10∧c < 128:=by
 intro c hc
 rcases zcz hc with rfl | ⟨z,hz,hc⟩
 ·decide
 ·exact (zdd h z hz c hc).2
theorem zcL {ds:List Df} (h:GxP ds):∀ z ∈ zak ds,∀ c ∈ z.cps.toList,c ≠ 10∧c < 128:=by
 intro z hz
 obtain ⟨d,hd,hz⟩:=List.mem_flatMap.mp hz
 have D:=h.ds d hd
 rcases List.mem_cons.mp hz with rfl | hz
 ·exact ze0 D
 ·obtain ⟨r,hr,rfl⟩:=List.mem_map.mp hz
  exact zfj (D.rs r hr)
theorem zhg {ds:List Df} (h:GxP ds):zak ds ≠ []:=by
 cases ds with
 | nil=>exact absurd rfl h.n0
 | cons d ds=>intro z; simp [zak,zaY] at z
theorem zbK {ds:List Df} (h:GxP ds):PySem.Txt.split (zaL ds) nl10 = zak ds:=L2.split_join (zhg h) fun z hz hc=>(zcL h z hz 10 hc).1 rfl
theorem zb6 {r:Row} (h:GxR r):PySem.Txt.split (za4 r) sp32 = zaS r:=L2.split_join (List.cons_ne_nil _ _) fun z hz hc=>(zdh h z hz 32 hc).1 rfl
theorem zbI {d:Df} (h:GxD d):PySem.Txt.split (zbj d) sp32 = za8 d:=L2.split_join (List.cons_ne_nil _ _) fun z hz hc=>(zdd h z hz 32 hc).1 rfl
theorem zcj {x:Nat} {zs:List Str} {m:Nat} (h:∀ z ∈ zs,z.length ≤ m):(Str.join ⟨#[x]⟩ zs).length ≤ zs.length * (m + 1):=by
 have:=StrLaws.join_length_le ⟨#[x]⟩ zs
 have s:=zci h
 have e:(⟨#[x]⟩:Str).length = 1:=rfl
 rw [e,Nat.mul_one] at this
 rw [Nat.mul_add,Nat.mul_one]
 omega
theorem zdg {r:Row} (h:TxR r):(zaB r).length ≤ 102:=by
 by_cases c:r.1 = "call"
 ·obtain ⟨p,g,l,e,ll⟩:=h.c c
  unfold zaB
  rw [e]
  simp [pOf]
  omega
 ·obtain ⟨ls,m,hw⟩:=h.w
  obtain ⟨l1,l2⟩:=hw c
  have s3:=(LW_w _ m).2.2.1
  have:∀ ps:List Part,(∀ x ∈ ps,∃ i,x = .inl i)->(ps.flatMap pOf).length = ps.length:=by
   intro ps
   induction ps with
   | nil=>intro _; rfl
   | cons p ps ih =>
    intro h
    obtain ⟨i,rfl⟩:=h p (by simp)
    rw [List.flatMap_cons,List.length_append,ih fun x hx=>h x (by simp [hx])]
    simp [pOf]; omega
  unfold zaB
  rw [this _ l2,l1]
  dsimp only at s3
  omega
theorem zbh {i:Int} (h:NumB i):(strI i).length ≤ 61:=(zbA h).2.2.2
theorem zc0 {r:Row} (h:TxR r):(∀ z ∈ zaS r,z.length ≤ 61)∧(zaS r).length ≤ 103:=by
 refine ⟨fun z hz=>?_,by unfold zaS; rw [List.length_cons,List.length_map]; have:=zdg h; omega⟩
 rcases List.mem_cons.mp hz with rfl | hz
 ·obtain ⟨ls,m,_⟩:=h.w
  have:=(LW_w _ m).1
  dsimp only at this
  rw [zaz]; omega
 ·obtain ⟨i,hi,rfl⟩:=List.mem_map.mp hz
  exact zbh (h.nb i hi)
theorem zfu {r:Row} (h:TxR r):(za4 r).length ≤ 7000:=by
 obtain ⟨h1,h2⟩:=zc0 h
 have:=zcj (x:=32) h1
 have:(zaS r).length * (61 + 1) ≤ 103 * 62:=Nat.mul_le_mul_right _ h2
 unfold za4 sp32
 omega
theorem zcB {z:Str} (h:z.cps.size ≤ 100):(tkTx z).length ≤ 100:=by
 unfold tkTx
 split
 ·decide
 ·rw [zaz]; exact h
theorem zft {d:Df} (h:TxD d):(zbj d).length ≤ 7000:=by
 have h1:∀ z ∈ za8 d,z.length ≤ 100:=fun z hz=>by
  simp only [za8,List.mem_cons,List.not_mem_nil,or_false] at hz
  rcases hz with rfl | rfl | rfl | rfl
  ·decide
  ·exact zcB h.tl
  ·rcases h.gv with e | e <;> rw [e] <;> decide
  ·have:=zbh h.wd; omega
 have:=zcj (x:=32) h1
 have e:(za8 d).length = 4:=rfl
 rw [e] at this
 unfold zbj sp32
 omega
theorem zgk {ds:List Df} (h:TxP ds):(∀ z ∈ zak ds,z.length ≤ 7000)∧(zak ds).length ≤ 101 * ds.length:=by
 refine ⟨fun z hz=>?_,?_⟩
 ·obtain ⟨d,hd,hz⟩:=List.mem_flatMap.mp hz
  have D:=h.ds d hd
  rcases List.mem_cons.mp hz with rfl | hz
  ·exact zft D
  ·obtain ⟨r,hr,rfl⟩:=List.mem_map.mp hz
   exact zfu (D.rs r hr)
 ·have:∀ ds:List Df,(∀ d ∈ ds,TxD d)->(zak ds).length ≤ 101 * ds.length:=by
   intro ds
   induction ds with
   | nil=>intro _; simp [zak]
   | cons d ds ih =>
    intro h
    have:=ih fun x hx=>h x (by simp [hx])
    have:=(h d (by simp)).rl
    have e:(zaY d).length = d.2.2.length + 1:=by simp [zaY]
    show (zaY d ++ zak ds).length ≤ _
    rw [List.length_append,List.length_cons]
    omega
  exact this ds h.ds
theorem zde {ds:List Df} (h:TxP ds):(zaL ds).length + 2 ≤ 16777216∧((zak ds).map (·.length)).sum + (zak ds).length * 1 ≤ 16777216∧(zak ds).length ≤ 2020:=by
 obtain ⟨h1,h2⟩:=zgk h
 have n1:=h.n1
 have:=zcj (x:=10) h1
 have s:=zci h1
 have l2:(zak ds).length ≤ 2020:=by omega
 have m1:(zak ds).length * (7000 + 1) ≤ 2020 * 7001:=Nat.mul_le_mul_right _ l2
 have m2:(zak ds).length * 7000 ≤ 2020 * 7000:=Nat.mul_le_mul_right _ l2
 unfold zaL nl10
 exact ⟨by omega,by omega,l2⟩
theorem zfB {x:Nat}:∀ (z:Str) (zs:List Str) (y:Str),Str.join ⟨#[x]⟩ (z :: zs ++ [y]) = Str.join ⟨#[x]⟩ (z :: zs) ++ ⟨#[x]⟩ ++ y:=by
 intro z zs y
 apply L2.str_eq_of
 have e:∀ a b c:Str,(a ++ b ++ c).cps.toList = a.cps.toList ++ b.cps.toList ++ c.cps.toList:=fun a b c=>by show ((a.cps ++ b.cps) ++ c.cps).toList = _; simp
 rw [List.cons_append,L2.join_list,e,L2.join_list,List.flatMap_append]
 simp
end
section
variable {P:Program} {w:World} {K:PySem.W.Frag} {mg:Str->Option Value} {base:Heap} {a:Ad}
theorem zbL (xs:List V) (k:Nat):cutV xs (some (k:Int)) none = xs.drop k:=by
 unfold cutV
 rw [HT.sIx_nat,HT.sIx_none,List.take_of_length_le (by rw [List.length_drop]; omega)]
 by_cases c:k ≤ xs.length
 ·rw [Nat.min_eq_left c]
 ·rw [Nat.min_eq_right (by omega),List.drop_of_length_le (Nat.le_refl _),List.drop_of_length_le (by omega)]
theorem forT_ {K:PySem.W.Frag} {tl:TE} {g:TG} {tb:TS} {D:Ends} {σ:St} {H:Hp} (Pre:Addr->Hp->Prop) (hr:∀ Q,(∀ a H1,Pre a H1->Q (.ref a) H1)->tl σ H Q)
  (h:∀ a H1,Pre a H1->tFor (iTup K (tC (.ref a))) g tb D σ H1):tFor (iTup K tl) g tb D σ H:=hr _ fun a H1 p=>h a H1 p
theorem TxR.len {r:Row} (h:TxR r):r.2.length ≤ 3:=by
 by_cases c:r.1 = "call"
 ·obtain ⟨p,g,l,e,ll⟩:=h.c c
  rw [e]; simp
 ·obtain ⟨ls,m,hw⟩:=h.w
  have:=(hw c).1
  have s3:=(LW_w _ m).2.2.1
  dsimp only at s3
  omega
theorem TxR.inr {r:Row} (h:TxR r) {l:List Int} (m:Sum.inr l ∈ r.2):l.length ≤ 100:=by
 by_cases c:r.1 = "call"
 ·obtain ⟨p,g,l',e,ll⟩:=h.c c
  rw [e] at m
  simp at m
  rw [m]; exact ll
 ·obtain ⟨ls,_,hw⟩:=h.w
  obtain ⟨i,e⟩:=(hw c).2 _ m
  cases e
theorem logB {i:Int} (h:NumB i):i.natAbs.log2 < 1920:=by
 by_cases e:i.natAbs = 0
 ·rw [e]; decide
 ·refine (Nat.log2_lt e).mpr (Nat.lt_of_lt_of_le (m:=10 ^ 60) ?_ (by decide))
  have e2:((10 ^ 60:Nat):Int) = 10 ^ 60:=by decide
  have h1:=h.1
  have h2:=h.2
  rw [← e2] at h1 h2
  generalize (10:Nat) ^ 60 = N at *
  omega
noncomputable abbrev pI (ps:List Part):List Int:=ps.flatMap pOf
theorem zh5 {ps:List Part} {i:Nat} {p:Part} (h:ps[i]? = some p):pI (ps.take (i + 1)) = pI (ps.take i) ++ pOf p:=by
 show List.flatMap pOf _ = List.flatMap pOf _ ++ _
 rw [List.take_succ,h,List.flatMap_append]
 simp
theorem zi8 {ps:List Part} {i:Nat}:∀ x ∈ pI (ps.take i),x ∈ pI ps:=fun x hx=>by
 obtain ⟨p,hp,h⟩:=List.mem_flatMap.mp hx
 exact List.mem_flatMap.mpr ⟨p,List.mem_of_mem_take hp,h⟩
theorem zi4 {r:Row} (h:TxR r) (i:Nat):(pI (r.2.take i)).length ≤ 102:=by
 have:(pI (r.2.take i)).length ≤ (pI r.2).length:=by
  have e:pI r.2 = pI (r.2.take i) ++ pI (r.2.drop i):=by rw [← List.flatMap_append,List.take_append_drop]
  rw [e,List.length_append]; omega
 have:=zdg h
 unfold zaB at this
 exact Nat.le_trans ‹_› this
end
section
variable {P:Program} {w:World} {K:PySem.W.Frag} {mg:Str->Option Value} {base:Heap} {a:Ad}
theorem zew {s:Str}:∀ {l:List Str},inV (.str s) (l.map V.str) = decide (s ∈ l)
 | []=>by simp [inV]
 | x :: l=>by
  have ih:=zew (s:=s) (l:=l)
  unfold inV at ih ⊢
  rw [List.map_cons,List.any_cons,ih]
  show ((x == s) || decide (s ∈ l)) = _
  rw [Bool.eq_iff_iff,Bool.or_eq_true,beq_iff_eq,decide_eq_true_eq,decide_eq_true_eq,List.mem_cons]
  exact ⟨fun h=>h.imp Eq.symm id,fun h=>h.imp Eq.symm id⟩
theorem zg9 {ws:List Str} {s:Str} {neg:Bool} {p:Addr} {H:Hp} {Q:VK} (h:SqL K H p (ws.map V.str) ∨ SqT K H p (ws.map V.str)) (q:Q (.bl (if neg then !decide (s ∈ ws) else decide (s ∈ ws))) H):rIn K neg (.str s) (.ref p) H Q:=by
 refine ⟨p,ws.map V.str,rfl,h,rfl,?_,by rw [zew]; exact q⟩
 rw [List.all_map]
 exact List.all_eq_true.mpr fun x _=>rfl
noncomputable def pcode (c:Nat):Nat:=if c = 105 then 110 else c
noncomputable def plS (s:Str):Str:=⟨s.cps.map pcode⟩
theorem zeT (w:Str):∀ l:List (Str × Str),PyProof.Rows.KTD.datumAt w (l.map fun p=>(p.1,V.str (plS p.2))) = (l.lookup w).map fun s=>V.str (plS s)
 | []=>rfl
 | (k,s) :: r=>by
  rw [List.map_cons,List.lookup_cons]
  simp only [PyProof.Rows.KTD.datumAt]
  by_cases c:w = k
  ·subst c
   simp
  ·rw [if_neg (by simpa using c),zeT w r,beq_eq_false_iff_ne.mpr c]
noncomputable def zeP (p:Str × Str):PyData × PyData:=(.str p.1,.str (plS p.2))
noncomputable def PT:List (Str × Str):=[("put","pn"),("nil","p"),("copy","pp"),("plus","ppp"),("less","ppp"),("make","pkk"),("fetch","ppk"),("read","ppk"),("hang","pkp"),("write","pkp"),("into","ppk"),("look","ppp"),("lay","ppp"),("jump","t"),("zero","pt"),("none","pt"),("same","ppt"),("call","pfq"),("back","p"),("tell","p"),("rest","")]
theorem PT_eq:PT = LW.map fun p=>(p.1,plS p.2):=by decide +kernel
theorem kd_parts_eq:kd_PARTS = .dict (LW.map zeP):=by
 have e:LW.map zeP = PT.map fun p=>(.str p.1,.str p.2):=by
  rw [PT_eq,List.map_map]
  rfl
 rw [e]
 rfl
noncomputable def zdx (w:Str):V:=match LW.lookup w with
 | none=>.non
 | some s=>.str (plS s)
noncomputable def sp_parts:Sp:=fun vs H Q _=>∃ w,vs = [.str w]∧Q (zdx w) H
set_option maxHeartbeats 1000000 in
theorem zeo (T:Txt K mg a):FnOk P w K mg base (CX1 P w) 1 a.f_parts_of a.d_parts_of ["word"] sp_parts:=by
 refine T.F_parts_of.okC sc_parts_of (fun vs H Q E h=>?_) (fun cdv A outer s H vs Q E hr h=>?_)
 ·obtain ⟨v,rfl,_⟩:=h
  rfl
 ·obtain ⟨wd,rfl,q⟩:=h
  have hu:=za0 hr
  refine ⟨_,(zae (zaq (zhe (K:=K) (by rfl) (zbu (v:=.ref a.g_PARTS) (by rfl) T.m_PARTS (by rfl)) (pv 0) ⟨rfl,rfl,rfl,rfl⟩))),?_⟩
  have hK:=zhL T.k_PARTS
  rw [kd_parts_eq] at hK
  cases hK with
  | dct g1 g2 g3 g4 =>
   rename_i D0
   have eD:D0 = LW.map fun p=>(p.1,V.str (plS p.2)):=by
    apply List.ext_getElem?
    intro i
    rw [List.length_map] at g2
    by_cases c:i < LW.length
    ·have hd:=List.getElem?_eq_getElem (l:=D0) (i:=i) (by omega)
     have hl:=List.getElem?_eq_getElem c
     have m1:(LW.map zeP)[i]? = some (zeP LW[i]):=by rw [List.getElem?_map,hl]; rfl
     have k1:=g3 i _ _ hd m1
     have k2:=g4 i _ _ hd m1
     rw [hd,List.getElem?_map,hl]
     revert k1 k2
     generalize D0[i] = d
     obtain ⟨d1,d2⟩:=d
     intro k1 k2
     have k1':LW[i].1 = d1:=PyData.str.inj k1
     have k2':KRp K d2 (.str (plS LW[i].2)):=k2
     cases k2'
     rw [← k1']
     rfl
    ·rw [List.getElem?_eq_none (by omega),List.getElem?_eq_none (by rw [List.length_map]; omega)]
   subst eD
   simp only [tRet,zhs,tC,tVar]
   refine ⟨_,_,rfl,g1,?_⟩
   simp! []
   rw [zeT]
   have e:(Option.map (fun s=>V.str (plS s)) (LW.lookup wd)).getD V.non = zdx wd:=by
    unfold zdx
    cases LW.lookup wd <;> rfl
   rw [e]
   exact q
theorem wordV_ok:∀ p ∈ LW,zdx p.1 = .str (plS p.2)∧(plS p.2).cps.size = p.2.cps.size:=by
 have:∀ p ∈ LW,LW.lookup p.1 = some p.2∧(plS p.2).cps.size = p.2.cps.size:=by decide +kernel
 intro p hp
 obtain ⟨h1,h2⟩:=this p hp
 exact ⟨by unfold zdx; rw [h1],h2⟩
instance (c:Nat):Decidable (NH c):=inferInstanceAs (Decidable (_ ∨ _))
theorem nh_in (c:Nat):(!(Builtin.Str.occurrences ("nh":Str) { cps:=#[c] } 0 ("nh":Str).length 1).isEmpty) = decide (NH c):=by
 rw [PyProof.Rows.empty_one,Bool.not_not]
 have e:("nh":Str).cps.toList = [110,104]:=by decide
 rw [e,Bool.eq_iff_iff,decide_eq_true_eq,decide_eq_true_eq]
 simp [NH]
theorem zhW {z:Str} (h:z ≠ "-") (h2:z = "" ∨ ¬ ∀ c ∈ z.cps.toList,NH c):∀ y:Str,(∀ c ∈ y.cps.toList,NH c)->z ≠ tkTx y:=by
 intro y hy e
 unfold tkTx at e
 split at e
 ·exact h e
 ·rename_i ne
  subst e
  rcases h2 with h2 | h2
  ·exact ne h2
  ·exact h2 hy
noncomputable def zgl (X:Addr):Sp:=fun vs H Q E=>∃ (z:Str),vs = [.str z]∧Asc z∧z.length ≤ 2000000∧(∀ y:Str,(∀ c ∈ y.cps.toList,NH c)->z = tkTx y->∀ H',Same H H'->Q (.str y) H')∧((∀ y:Str,(∀ c ∈ y.cps.toList,NH c)->z ≠ tkTx y)->∀ H',Same H H'->E (.ref X) none H')
set_option maxHeartbeats 2000000 in
theorem zdr (T:Txt K mg a):FnOk P w K mg base (CX1 P w) 1 a.f_read_takes a.d_read_takes ["part"] (zgl a.c_NoText):=by
 refine T.F_read_takes.okX sc_read_takes (fun vs H Q E h=>?_) (fun cdv A outer s H vs Q E hr h=>?_)
 ·obtain ⟨z,rfl,_⟩:=h
  rfl
 ·obtain ⟨z,rfl,az,zl,q,qn⟩:=h
  have hu:=za0 hr
  refine ⟨_,(zab (zay (zai op_eq (pv 0) zaf (zan _)) (zae (zaq zaf)) pss_nil)
   (zab (zay (PW.pt (zck (zai op_eq (pv 0) zaf (zan _)) (zbJ (zcY (zbz (zao (zeF (by rfl)) (by rfl) T.z_all (by decide +kernel) (zaa (za7 (N':=["letter"]) (cap:=[none]) ⟨rfl,(by decide +kernel),(by decide +kernel),(by rfl),rfl,(by rfl)⟩ (by rfl) (zcT (pv 0)) (fun C_ ex_ s_ H_=>(zav (i:=0) (show (["letter"]:List Str).Nodup by decide +kernel) (by rfl) (Or.inl rfl))) zaH (fun C_ ex_ s_ H_=>zaU) (fun C_ ex_ s_ H_=>(za6 op_in_str (pv 0) zaf (by with_unfolding_all rfl)))) pa_nil))))))) (zae (zbr (by rfl) T.x_NoText (by rfl) T.m_NoText flies_cx (zaa (zb0 (by decide) (pv 0)) pa_nil))) pss_nil)
   (zae (zaq (pv 0))))),?_⟩
  by_cases c:z = "-"
  ·rw [c]
   simp! []
   exact q "" (fun c hc=>by simp [show ("":Str).cps.toList = [] by decide] at hc) (by rw [c]; rfl) H (Same.refl _)
  ·have bad:∀ H2,Same H H2->(z = "" ∨ ¬ ∀ c ∈ z.cps.toList,NH c)->zbW (tVar 0) [some (.str z)] H2 (fun _ H3=>E (.ref a.c_NoText) none H3):=fun H2 S2 n=>by
    simp! [zbW]
    exact ⟨az,by omega,fun _=>qn (zhW c n) _ S2⟩
   simp! []
   rw [if_neg (by simpa using c)]
   by_cases c2:z = ""
   ·rw [if_pos (by simpa using c2)]
    exact bad _ (Same.refl _) (.inl c2)
   rw [if_neg (by simpa using c2)]
   refine zeN z (fun c=>some (.bl (decide (NH c)))) (fun Q2 h2=>by simp! []; exact h2) az (by rw [sizeLine_eq,← zaz]; omega) ?_ ?_
   ·intro c H2 R N hc S hR hN
    have fi:=nh_in c
    simp! [tTrue,zaE]
    rw [fi]
    exact hR _ _ rfl (Same.refl _)
   ·intro D H2 hD S e
    have em:z.cps.toList.filterMap (fun c=>some (V.bl (decide (NH c)))) = (z.cps.toList.map fun c=>decide (NH c)).map V.bl:=by
     rw [List.map_map]
     show List.filterMap (some ∘ _) _ = _
     rw [List.filterMap_eq_map]
     rfl
    rw [em] at e
    refine ⟨D,rfl,_,by rw [e]; rfl,by rw [e]; rfl,?_⟩
    by_cases al:∀ c ∈ z.cps.toList,NH c
    ·rw [if_neg (by
      rw [Bool.not_eq_false]
      exact List.all_eq_true.mpr fun b hb=>by
       obtain ⟨x,hx,rfl⟩:=List.mem_map.mp hb
       exact decide_eq_true (al x hx))]
     exact q z al (by unfold tkTx; rw [if_neg c2]) H2 S
    ·rw [if_pos (by
      cases eb:(z.cps.toList.map fun c=>decide (NH c)).all id with
      | false=>rfl
      | true=>exact absurd (fun x hx=>of_decide_eq_true (List.all_eq_true.mp eb _ (List.mem_map.mpr ⟨x,hx,rfl⟩))) al)]
     exact bad _ S (.inr al)
noncomputable def zg8 (X:Addr):Sp:=fun vs H Q E=>∃ (l:Addr) (zs:List Str),vs = [.ref l]∧H l = some (.lst (zs.map V.str))∧zs.length ≤ 2000000∧(∀ z ∈ zs,Asc z∧z.length ≤ 2000000)∧zs.head? = some ("def":Str) ∧
 (∀ d:Df,GxD d->d.2.2 = []->zs = za8 d->∀ (t rl:Addr) (H':Hp),Same H H'->H t = none->H rl = none->t ≠ rl->H' t = some (.tup [.str d.1.1,.str d.1.2,.int d.2.1,.ref rl])->H' rl = some (.lst [])->Q (.ref t) H') ∧
 ((∀ d:Df,GxD d->zs ≠ za8 d)->∀ H',Same H H'->E (.ref X) none H')
set_option maxHeartbeats 2000000 in
theorem zdP (T:Txt K mg a):FnOk P w K mg base (CX1 P w) 2 a.f_read_head a.d_read_head ["parts"] (zg8 a.c_NoText):=by
 refine T.F_read_head.okX sc_read_head (fun vs H Q E h=>?_) (fun cdv A outer s H vs Q E hr h=>?_)
 ·obtain ⟨l,d,rfl,_⟩:=h
  rfl
 ·obtain ⟨l,zs,rfl,hl,ll,hz,hd,q,qn⟩:=h
  have hu:=za0 hr
  refine ⟨_,(zab (zay (zai op_ne (zao call_lenF (by rfl) T.z_len (by decide +kernel) (zaa (pv 0) pa_nil)) zac (zan _)) (zae (zbr (by rfl) T.x_NoText (by rfl) T.m_NoText flies_cx (zaa zaf pa_nil))) pss_nil)
   (zab (zal (i:=1) sc_read_head.nd (by rfl) (Or.inl rfl) (zar ix_F (pv 0) zac (fun _ _=>rfl)))
   (zab (zay (zai op_notIn_seq (pv 1) (zbo (zaa zaf (zaa zaf pa_nil))) (by with_unfolding_all rfl)) (zae (zbr (by rfl) T.x_NoText (by rfl) T.m_NoText flies_cx (zaa (zb0 (by decide) (pv 1)) pa_nil))) pss_nil)
   (zae (zaq (zbo (zaa (zah (zdr T) (hr.mono (by decide)) (by rfl) T.m_read_takes T.F_read_takes.kp T.b_read_takes .nil passes_cx (zaa (zar ix_F (pv 0) zac (fun _ _=>rfl)) pa_nil)) (zaa (pv 1) (zaa (zah (zb5 T) (hr.mono (by decide)) (by rfl) T.m_read_whole T.F_read_whole.kp T.b_read_whole .nil passes_cx (zaa (zar ix_F (pv 0) zac (fun _ _=>rfl)) (zaa (zbu (v:=.int (60)) (by rfl) T.m_MOST_FIGURES ⟨_,rfl⟩) pa_nil))) (zaa (zaC pa_nil) pa_nil)))))))))),?_⟩
  by_cases c4:zs.length = 4
  rotate_left
  ·simp! [hl]
   rw [if_pos (by rw [List.length_map]; omega)]
   exact qn (fun d _ e=>c4 (by rw [e]; rfl)) _ (Same.refl _)
  match zs,c4 with
  | [z0,z1,z2,z3],_ =>
  have e0:z0 = "def":=by simpa using hd
  subst e0
  clear hd ll
  have hz1:=hz z1 (by simp)
  have hz2:=hz z2 (by simp)
  have hz3:=hz z3 (by simp)
  clear hz
  have hl:H l = some (.lst [V.str ("def":Str),V.str z1,V.str z2,V.str z3]):=hl
  simp! [hl]
  rw [if_neg (fun h=>h rfl)]
  intro p1 n1
  have S1:Same H (upd H p1 (.tup [V.str (Str.ofString "n"),V.str (Str.ofString "h")])):=.laid n1
  refine zg9 (ws:=["n","h"]) (.inr (.of zad)) ⟨_,rfl,?_⟩
  rw [if_pos rfl]
  revert S1
  generalize upd H p1 (.tup [V.str (Str.ofString "n"),V.str (Str.ofString "h")]) = H1
  intro S1
  by_cases gm:z2 ∈ (["n","h"]:List Str)
  rotate_left
  ·rw [decide_eq_false gm,if_pos (by simp)]
   simp! [zbW]
   exact ⟨hz2.1,by omega,fun _=>qn (fun d D e=>gm (by
    simp only [za8,List.cons.injEq,and_true,true_and] at e
    rw [e.2.1]
    rcases D.gv with e | e <;> rw [e] <;> decide)) _ S1⟩
  rw [decide_eq_true gm,if_neg (by simp)]
  have gv:z2 = ⟨#[110]⟩ ∨ z2 = ⟨#[104]⟩:=by
   rcases List.mem_cons.mp gm with e | e
   ·left; rw [e]; decide
   ·right; rw [List.mem_singleton.mp e]; decide
  have hl1:=S1 _ _ hl
  simp! [hl1]
  refine ⟨z1,rfl,hz1.1,hz1.2,fun y hy e1 H2 S2=>?_,fun no H2 S2=>?_⟩
  rotate_left
  ·exact qn (fun d D e=>no d.1.1 D.tk (by simp only [za8,List.cons.injEq,and_true,true_and] at e; exact e.1)) _ (S1.trans S2)
  have hl2:=S2 _ _ hl1
  simp! [hl2]
  refine ⟨z3,60,rfl,hz3.1,by omega,by decide,by decide,fun n H3 S3=>?_,fun ok n H3 en S3=>?_⟩
  ·exact qn (fun d D e=>n (by simp only [za8,List.cons.injEq,and_true,true_and] at e; rw [e.2.2]; exact (zbA D.wd).1)) _ ((S1.trans S2).trans S3)
  obtain ⟨nb,es⟩:=zcA ok en
  intro rl nrl t nt
  have S13:=(S1.trans S2).trans S3
  exact q ((y,z2),n,[]) ⟨hy,gv,nb,fun r hr=>by cases hr⟩ rfl (by rw [e1,es]; rfl) t rl _ ((S13.step nrl).step nt) ((S13.step nrl).free nt) (S13.free nrl) (fun e=>by rw [e,zad] at nt; cases nt) zad (zaj zad nt)
end
section
variable {P:Program} {w:World} {K:PySem.W.Frag} {mg:Str->Option Value} {base:Heap} {a:Ad}
theorem zeQ {w s:Str}:∀ {l:List (Str × Str)},l.lookup w = some s->(w,s) ∈ l
 | [],h=>by simp at h
 | (k,x) :: l,h=>by
  rw [List.lookup_cons] at h
  split at h
  ·rename_i e
   cases h
   rw [eq_of_beq e]
   exact List.mem_cons_self
  ·exact List.mem_cons_of_mem _ (zeQ h)
theorem LW_look:∀ p ∈ LW,LW.lookup p.1 = some p.2:=by decide +kernel
theorem zcF {r:Row} (h:GxR r):(zaB r).length = (if r.1 = "call" then (zaB r).length else r.2.length)∧(r.1 = "call"->2 ≤ (zaB r).length):=by
 by_cases c:r.1 = "call"
 ·rw [if_pos c]
  obtain ⟨p,g,l,e⟩:=h.c c
  refine ⟨rfl,fun _=>?_⟩
  unfold zaB
  rw [e]
  simp [pOf]
 ·rw [if_neg c]
  obtain ⟨ls,m,hw⟩:=h.w
  obtain ⟨_,l2⟩:=hw c
  have:∀ ps:List Part,(∀ x ∈ ps,∃ i,x = .inl i)->(ps.flatMap pOf).length = ps.length:=by
   intro ps
   induction ps with
   | nil=>intro _; rfl
   | cons p ps ih =>
    intro h
    obtain ⟨i,rfl⟩:=h p (by simp)
    rw [List.flatMap_cons,List.length_append,ih fun x hx=>h x (by simp [hx])]
    simp [pOf]; omega
  exact ⟨this _ l2,fun z=>absurd z c⟩
noncomputable def zix (X:Addr):Sp:=fun vs H Q E=>∃ (l:Addr) (zs:List Str),vs = [.ref l]∧H l = some (.lst (zs.map V.str))∧zs ≠ []∧zs.length ≤ 2000000∧(∀ z ∈ zs,Asc z∧z.length ≤ 2000000) ∧
 (∀ r:Row,GxR r->zs = zaS r->∀ (t:Addr) (H':Hp),Same H H'->zbg H' t r->Q (.ref t) H')∧((∀ r:Row,GxR r->zs ≠ zaS r)->∀ H',Same H H'->E (.ref X) none H')
set_option maxHeartbeats 4000000 in
theorem zeh (T:Txt K mg a):FnOk P w K mg base (CX1 P w) 2 a.f_read_row a.d_read_row ["parts"] (zix a.c_NoText):=by
 refine T.F_read_row.okX sc_read_row (fun vs H Q E h=>?_) (fun cdv A outer s H vs Q E hr h=>?_)
 ·obtain ⟨l,r,rfl,_⟩:=h
  rfl
 ·obtain ⟨l,zs,rfl,hl,z0,zl,hz,q,qn⟩:=h
  have hu:=za0 hr
  refine ⟨_,(zab (zal (i:=1) sc_read_row.nd (by rfl) (Or.inl rfl) (zar ix_F (pv 0) zac (fun _ _=>rfl)))
   (zab (zal (i:=2) sc_read_row.nd (by rfl) (Or.inl rfl) (zah (zeo T) (hr.mono (by decide)) (by rfl) T.m_parts_of T.F_parts_of.kp T.b_parts_of .nil passes_cx (zaa (pv 1) pa_nil)))
   (zab (zay (zbZ (zco (pv 2))) (zae (zbr (by rfl) T.x_NoText (by rfl) T.m_NoText flies_cx (zaa (zb0 (by decide) (pv 1)) pa_nil))) pss_nil)
   (zab (zgP (i:=3) sc_read_row.nd (by rfl) (Or.inl rfl) (E0:=E) (N':=["part"]) (cap:=[none]) ⟨rfl,(by decide +kernel),(by decide +kernel),(by rfl),rfl,(by rfl)⟩ (by rfl) (zbm (zas sl_list (pv 0) (zaw zac) po_none)) (fun C_ ex_ s_ H_ W_=>(zav (i:=0) (show (["part"]:List Str).Nodup by decide +kernel) (by rfl) (Or.inl rfl))) zaH (fun C_ ex_ s_ H_ W_=>zaU) (fun C_ ex_ s_ H_ W_ hp_=>(zah (zb5 T) (by exact hr.mono (by decide)) (by rfl) T.m_read_whole T.F_read_whole.kp T.b_read_whole .nil hp_ (zaa (pv 0) (zaa (zbu (v:=.int (60)) (by rfl) T.m_MOST_FIGURES ⟨_,rfl⟩) pa_nil)))) passesT_cx)
   (zab (zay (PW.pt (zbT (zai op_eq (pv 1) zaf (zan _)) (zbt (zai op_ge (zao call_lenF (by rfl) T.z_len (by decide +kernel) (zaa (pv 3) pa_nil)) zac (zan _))))) (zae (zaq (zbo (zaa (pv 1) (zaa (zar ix_F (pv 3) zac (fun _ _=>rfl)) (zaa (zar ix_F (pv 3) zac (fun _ _=>rfl)) (zaa (zax call_tuple_of (by rfl) T.z_tuple (by decide +kernel) (zaa (zas sl_list (pv 3) (zaw zac) po_none) pa_nil)) pa_nil))))))) pss_nil)
   (zab (zay (PW.pt (zck (zai op_eq (pv 1) zaf (zan _)) (zbJ (zai op_ne (zao call_lenF (by rfl) T.z_len (by decide +kernel) (zaa (pv 3) pa_nil)) (zao call_lenF (by rfl) T.z_len (by decide +kernel) (zaa (pv 2) pa_nil)) (zan _))))) (zae (zbr (by rfl) T.x_NoText (by rfl) T.m_NoText flies_cx (zaa (zfF (by decide) (by decide) (pv 1)) pa_nil))) pss_nil)
   (zae (zaq (zax call_tuple_of (by rfl) T.z_tuple (by decide +kernel) (zaa (zam op_cat (zaC (zaa (pv 1) pa_nil)) (pv 3)) pa_nil)))))))))),?_⟩
  match zs,z0 with
  | wd :: ns,_ =>
  have hwd:=hz wd (by simp)
  have hns:∀ z ∈ ns,Asc z∧z.length ≤ 2000000:=fun z h=>hz z (by simp [h])
  have hl:H l = some (.lst (V.str wd :: ns.map V.str)):=hl
  have nl:ns.length ≤ 2000000:=by rw [List.length_cons] at zl; omega
  clear hz zl
  generalize hG:tSeq (tAsg (zbw _ _ _ _ _) _) _ = tail
  simp! [hl]
  refine ⟨wd,rfl,?_⟩
  cases hk:LW.lookup wd with
  | none =>
   have ew:zdx wd = .non:=by unfold zdx; rw [hk]
   rw [ew]
   simp! [zbW]
   refine ⟨hwd.1,by omega,fun _=>qn (fun r R e=>?_) _ (Same.refl _)⟩
   obtain ⟨ls,m,_⟩:=R.w
   have e1:wd = r.1:=by simp only [zaS,List.cons.injEq] at e; exact e.1
   have:=LW_look _ m
   rw [← e1,hk] at this
   cases this
  | some ls =>
  have ml:=zeQ hk
  have ew:zdx wd = .str (plS ls):=by unfold zdx; rw [hk]
  have w2:(plS ls).cps.size = ls.cps.size:=(wordV_ok _ ml).2
  have lu:∀ ls',(wd,ls') ∈ LW->ls' = ls:=fun ls' h=>by
   have:=LW_look _ h
   rw [hk] at this
   exact (Option.some.inj this).symm
  rw [ew]
  simp! []
  subst hG
  generalize hG:tSeq (tIfS _ _ _) _ = tail
  simp! []
  refine zhz (fun sl H2=>Same H H2∧H2 sl = some (.lst (ns.map V.str))) (fun Q2 hQ=>?_) ?_
  ·simp! [tSl,tNoPart,zbv,rSlL]
   refine ⟨_,.of hl,fun sl nsl=>?_⟩
   have ec:cutV (V.str wd :: ns.map V.str) (some 1) none = ns.map V.str:=zbL (V.str wd :: ns.map V.str) 1
   rw [ec] at *
   exact hQ sl _ ⟨.laid nsl,zad⟩
  rintro sl H2 ⟨S2,e2⟩
  refine zjk (H1:=H2) sl (ns.map V.str) (fun Q2 h2=>h2) (.of e2) (fun D j ys H3=>∃ ms:List Int,ys = ms.map V.int∧ns.take j = ms.map strI∧(∀ m ∈ ms,NumB m)∧Same H2 H3∧H3 D = some (.lst ys)) (fun D nD=>⟨[],rfl,rfl,by simp,.laid nD,zad⟩) ?_ (by rw [sizeLine_eq,List.length_map]; omega) ?_ ?_
  ·rintro D nD j ys H3 hj ⟨ms,rfl,em,_,S3,hD3⟩
   have:=congrArg List.length em
   rw [List.length_take,List.length_map] at this
   exact ⟨.of (S3 _ _ e2),hD3,by rw [List.length_map]; omega⟩
  ·rintro D nD j x ys H3 hx ⟨ms,rfl,em,bm,S3,hD3⟩
   obtain ⟨z,hz,rfl⟩:=zaD hx
   have hzm:=List.mem_of_getElem? hz
   simp! [zaE,tTrue]
   refine ⟨z,60,rfl,(hns z hzm).1,(hns z hzm).2,by decide,by decide,fun c H4 S4=>qn (fun r R e=>c ?_) _ ((S2.trans S3).trans S4),fun ok n H4 en S4=>?_⟩
   ·have e1:ns = (zaB r).map strI:=by simp only [zaS,List.cons.injEq] at e; exact e.2
    rw [e1] at hzm
    obtain ⟨i,hi,rfl⟩:=List.mem_map.mp hzm
    exact (zbA (R.nb i hi)).1
   ·obtain ⟨nb,es⟩:=zcA ok en
    refine ⟨S4 _ _ hD3,ms ++ [n],by rw [List.map_append]; rfl,by rw [List.take_succ,hz,em,List.map_append,es]; rfl,fun m hm=>?_,zaM (fun c o e=>S4 _ _ (S3 _ _ e)) nD⟩
    rcases List.mem_append.mp hm with h | h
    ·exact bm m h
    ·rw [List.mem_singleton.mp h]; exact nb
  rintro D nD ys H3 ⟨ms,rfl,em,bm,S3,hD3⟩
  rw [List.length_map,List.take_length] at em
  subst em
  have ml2:ms.length ≤ 2000000:=by rw [List.length_map] at nl; exact nl
  have S3:=S2.trans S3
  subst hG
  by_cases c:wd = "call"
  ·subst c
   by_cases c2:2 ≤ ms.length
   ·match ms,c2 with
    | p :: g :: lq,_ =>
    simp! [hD3]
    rw [if_pos (by omega)]
    simp! [tSl,tNoPart,zbv,rSlL]
    refine ⟨_,.of hD3,fun s2 ns2=>?_⟩
    have ec:cutV (List.map V.int (p :: g :: lq)) (some 2) none = lq.map V.int:=zbL (V.int p :: V.int g :: lq.map V.int) 2
    rw [ec]
    refine ⟨lq.map V.int,.inl ⟨.of zad,fun t1 n1 t2 n2=>?_⟩⟩
    have S4:=((S3.step ns2 (u:=.lst (lq.map V.int))).step n1 (u:=.tup (lq.map V.int))).step n2 (u:=.tup [V.str (Str.ofString "call"),V.int p,V.int g,V.ref t1])
    refine q ("call",[.inl p,.inl g,.inr lq]) ⟨⟨ls,ml,fun z=>absurd rfl z⟩,fun _=>⟨p,g,lq,rfl⟩,fun i hi=>bm i (by simpa [zaB,pOf] using hi)⟩ (by simp [zaS,zaB,pOf]) t2 _ S4 ⟨[V.int p,V.int g,V.ref t1],by rw [zad],rfl,fun i v pt h1 h2=>?_⟩
    match i,h1,h2 with
    | 0,h1,h2=>cases h1; cases h2; rfl
    | 1,h1,h2=>cases h1; cases h2; rfl
    | 2,h1,h2=>cases h1; cases h2; exact ⟨t1,rfl,zaj zad n2⟩
    | i + 3,h1,h2=>simp at h1
   ·simp! [hD3]
    rw [if_neg (by rw [List.length_map]; omega)]
    simp! [zec]
    refine ⟨by decide,fun _=>qn (fun r R e=>c2 ?_) _ S3⟩
    simp only [zaS,List.cons.injEq] at e
    have:=(zcF R).2 e.1.symm
    have e3:=congrArg List.length e.2
    rw [List.length_map,List.length_map] at e3
    omega
  ·simp! [c,hD3]
   have ll:=(LW_w _ ml).2.2.1
   dsimp only at ll
   refine ⟨(plS ls).length,if_pos (by rw [sizeLine_eq,zaz]; omega),?_⟩
   by_cases c3:ms.length = ls.cps.size
   rotate_left
   ·rw [if_pos (by rw [List.length_map,zaz,w2]; omega)]
    simp! [zec]
    refine ⟨by omega,fun _=>qn (fun r R e=>c3 ?_) _ S3⟩
    simp only [zaS,List.cons.injEq] at e
    obtain ⟨ls',m',hw⟩:=R.w
    have h1:=hw (by rw [← e.1]; exact c)
    have h2:=(zcF R).1
    rw [if_neg (by rw [← e.1]; exact c)] at h2
    have e3:=congrArg List.length e.2
    rw [List.length_map,List.length_map] at e3
    rw [← e.1] at m'
    rw [e3,h2,h1.1,lu ls' m']
   rw [if_neg (fun z=>z (by rw [List.length_map,zaz,w2,c3]))]
   intro t1 n1
   have hD4:=zaj (u:=.lst [V.str wd]) hD3 n1
   refine ⟨t1,D,_,_,rfl,rfl,zad,hD4,by rw [sizeLine_eq,List.length_map]; simp; omega,fun t2 n2=>?_⟩
   refine ⟨t2,rfl,_,.inl ⟨.of zad,fun t3 n3=>?_⟩⟩
   have S4:=((S3.step n1 (u:=.lst [V.str wd])).step n2 (u:=.lst ([V.str wd] ++ ms.map V.int))).step n3 (u:=.tup ([V.str wd] ++ ms.map V.int))
   have ep:zaB (wd,ms.map Sum.inl) = ms:=by
    unfold zaB
    rw [List.flatMap_map]
    show ms.flatMap (fun x=>[x]) = ms
    induction ms with
    | nil=>rfl
    | cons x r ih=>simp
   refine q (wd,ms.map Sum.inl) ⟨⟨ls,ml,fun _=>⟨by rw [List.length_map]; exact c3,fun x hx=>?_⟩⟩,fun z=>absurd z c,by rw [ep]; exact bm⟩ (by unfold zaS; rw [ep]) t3 _ S4 ⟨ms.map V.int,zad,by rw [List.length_map,List.length_map],fun i v pt h1 h2=>?_⟩
   ·obtain ⟨y,_,rfl⟩:=List.mem_map.mp hx
    exact ⟨y,rfl⟩
   ·rw [List.getElem?_map] at h1 h2
    obtain ⟨x,hx,rfl⟩:=Option.map_eq_some_iff.mp h1
    rw [hx] at h2
    cases h2
    rfl
end
section
variable {P:Program} {w:World} {K:PySem.W.Frag} {mg:Str->Option Value} {base:Heap} {a:Ad}
theorem zbg.same {H H':Hp} {q:Addr} {r:Row} (S:Same H H') (h:zbg H q r):zbg H' q r:=h.fr (M:=fun _=>False) (.of_same S)
theorem RowsOf.same {H H':Hp} {rl:Addr} {rs:List Addr} {rws:List Row} (S:Same H H') (h:RowsOf H rl rs rws):RowsOf H' rl rs rws:=⟨S _ _ h.top,h.len,fun i p r h1 h2=>(h.row i p r h1 h2).same S⟩
theorem ProgAt.same {H H':Hp} {pl:Addr} {das:List (Addr × Addr × List Addr)} {ds:List Df} (S:Same H H') (h:ProgAt H pl das ds):ProgAt H' pl das ds:=⟨S _ _ h.top,h.len,fun i a d h1 h2=>⟨S _ _ (h.def_ i a d h1 h2).1,(h.def_ i a d h1 h2).2.same S⟩⟩
theorem zbc (a b:List Df):zak (a ++ b) = zak a ++ zak b:=List.flatMap_append
theorem zbN (d:Df):(zaY d).length = d.2.2.length + 1:=by simp [zaY]
abbrev DA:=Addr × Addr × List Addr
structure RdAt (H0 H:Hp) (pl:Addr) (das:List DA) (q:List Df):Prop where
 at_:ProgAt H pl das q
 sm:Same H0 H
 np:H0 pl = none
 nd:(das.map (·.2.1)).Nodup
 np2:pl ∉ das.map (·.2.1)
 fr:∀ a ∈ das,H0 a.2.1 = none
theorem RowsOf.keepL {H H':Hp} {rl:Addr} {rs:List Addr} {rws:List Row} (h:RowsOf H rl rs rws) (top:H' rl = some (.lst (rs.map V.ref))) (tp:∀ b xs,H b = some (.tup xs)->H' b = some (.tup xs)):RowsOf H' rl rs rws:=⟨top,h.len,fun i p r h1 h2=>by
 obtain ⟨vs,e,hl,h⟩:=h.row i p r h1 h2
 refine ⟨vs,tp _ _ e,hl,fun i v p h1 h2=>?_⟩
 have:=h i v p h1 h2
 cases p with
 | inl x=>exact this
 | inr l=>obtain ⟨q,e1,e2⟩:=this; exact ⟨q,e1,tp _ _ e2⟩⟩
theorem RdAt.same {H0 H H':Hp} {pl:Addr} {das:List DA} {q:List Df} (x:RdAt H0 H pl das q) (S:Same H H'):RdAt H0 H' pl das q:=⟨x.at_.same S,x.sm.trans S,x.np,x.nd,x.np2,x.fr⟩
theorem RdAt.has {H0 H:Hp} {pl:Addr} {das:List DA} {q:List Df} (x:RdAt H0 H pl das q) {a:DA} (m:a ∈ das):∃ d rs,H a.1 = some (.tup [.str d.1.1,.str d.1.2,.int d.2.1,.ref a.2.1])∧H a.2.1 = some (.lst rs)∧(d:Df) ∈ q:=by
 obtain ⟨i,hi⟩:=List.mem_iff_getElem?.mp m
 have il:=(List.getElem?_eq_some_iff.mp hi).1
 have hd:=List.getElem?_eq_getElem (l:=q) (i:=i) (by rw [← x.at_.len]; exact il)
 obtain ⟨g1,g2⟩:=x.at_.def_ i a _ hi hd
 exact ⟨_,_,g1,g2.top,List.mem_of_getElem? hd⟩
theorem RdAt.snocD {H0 H:Hp} {pl t rl:Addr} {das:List DA} {q:List Df} {d:Df} (x:RdAt H0 H pl das q) (et:H t = some (.tup [.str d.1.1,.str d.1.2,.int d.2.1,.ref rl])) (erl:H rl = some (.lst [])) (nr:H0 rl = none) (n1:rl ≠ pl) (n2:rl ∉ das.map (·.2.1)):RdAt H0 (upd H pl (.lst ((das.map fun a=>V.ref a.1) ++ [V.ref t]))) pl (das ++ [(t,rl,[])]) (q ++ [(d.1,d.2.1,[])]):=by
 have tp:∀ (b:Addr) (xs:List V),H b = some (.tup xs)->upd H pl (.lst ((das.map fun a=>V.ref a.1) ++ [V.ref t])) b = some (.tup xs):=fun b xs h=>by
  rw [zat (fun z=>by rw [z,x.at_.top] at h; cases h)]; exact h
 refine ⟨⟨by rw [zad,List.map_append]; rfl,by rw [List.length_append,List.length_append,x.at_.len]; rfl,fun i a y h1 h2=>?_⟩,zaM x.sm x.np,x.np,?_,?_,fun a ha=>?_⟩
 ·by_cases c:i < das.length
  ·rw [List.getElem?_append_left c] at h1
   rw [List.getElem?_append_left (by rw [← x.at_.len]; exact c)] at h2
   obtain ⟨g1,g2⟩:=x.at_.def_ i a y h1 h2
   have ne:a.2.1 ≠ pl:=fun z=>x.np2 (List.mem_map.mpr ⟨a,List.mem_of_getElem? h1,z⟩)
   exact ⟨tp _ _ g1,g2.keepL (by rw [zat ne]; exact g2.top) tp⟩
  ·have il:=(List.getElem?_eq_some_iff.mp h1).1
   rw [List.length_append,List.length_singleton] at il
   rw [List.getElem?_append_right (by omega),show i - das.length = 0 by omega] at h1
   rw [List.getElem?_append_right (by rw [← x.at_.len]; omega),show i - q.length = 0 by rw [← x.at_.len]; omega] at h2
   cases h1
   cases h2
   exact ⟨tp _ _ et,by rw [zat n1]; exact erl,rfl,fun i p r h=>by simp at h⟩
 ·rw [List.map_append,List.nodup_append]
  exact ⟨x.nd,by simp,fun u hu v hv=>by simp at hv; rw [hv]; exact fun z=>n2 (z ▸ hu)⟩
 ·rw [List.map_append,List.mem_append]
  intro h
  rcases h with h | h
  ·exact x.np2 h
  ·simp at h; exact n1 h.symm
 ·rcases List.mem_append.mp ha with h | h
  ·exact x.fr a h
  ·rw [List.mem_singleton.mp h]; exact nr
theorem RdAt.snocR {H0 H:Hp} {pl rp:Addr} {das0:List DA} {a:DA} {q0:List Df} {y:Sg × Int} {rs:List Row} {r:Row} (x:RdAt H0 H pl (das0 ++ [a]) (q0 ++ [(y.1,y.2,rs)])) (ra:zbg H rp r):RdAt H0 (upd H a.2.1 (.lst (a.2.2.map V.ref ++ [V.ref rp]))) pl (das0 ++ [(a.1,a.2.1,a.2.2 ++ [rp])]) (q0 ++ [(y.1,y.2,rs ++ [r])]):=by
 have ln:das0.length = q0.length:=by have:=x.at_.len; simpa using this
 have hd:(das0 ++ [a])[das0.length]? = some a:=by simp
 have hq:(q0 ++ [(y.1,y.2,rs)])[das0.length]? = some (y.1,y.2,rs):=by rw [ln]; simp
 obtain ⟨ga1,ga2⟩:=x.at_.def_ das0.length a _ hd hq
 have tp:∀ (b:Addr) (xs:List V),H b = some (.tup xs)->upd H a.2.1 (.lst (a.2.2.map V.ref ++ [V.ref rp])) b = some (.tup xs):=fun b xs h=>by
  rw [zat (fun z=>by rw [z,ga2.top] at h; cases h)]; exact h
 have npl:pl ≠ a.2.1:=fun z=>x.np2 (by rw [z]; simp)
 have nd:=x.nd
 rw [List.map_append,List.nodup_append] at nd
 have ra':zbg (upd H a.2.1 (.lst (a.2.2.map V.ref ++ [V.ref rp]))) rp r:=by
  obtain ⟨vs,e,hl,h⟩:=ra
  refine ⟨vs,tp _ _ e,hl,fun i v p h1 h2=>?_⟩
  have:=h i v p h1 h2
  cases p with
  | inl x=>exact this
  | inr l=>obtain ⟨q,e1,e2⟩:=this; exact ⟨q,e1,tp _ _ e2⟩
 refine ⟨⟨?_,by have:=x.at_.len; simpa using this,fun i b z h1 h2=>?_⟩,zaM x.sm (x.fr a (by simp)),x.np,?_,?_,fun b hb=>?_⟩
 ·rw [zat npl,x.at_.top,List.map_append,List.map_append]; rfl
 ·by_cases c:i < das0.length
  ·rw [List.getElem?_append_left c] at h1
   rw [List.getElem?_append_left (by omega)] at h2
   obtain ⟨g1,g2⟩:=x.at_.def_ i b z (by rw [List.getElem?_append_left c]; exact h1) (by rw [List.getElem?_append_left (by omega)]; exact h2)
   have ne:b.2.1 ≠ a.2.1:=nd.2.2 _ (List.mem_map.mpr ⟨b,List.mem_of_getElem? h1,rfl⟩) _ (by simp)
   exact ⟨tp _ _ g1,g2.keepL (by rw [zat ne]; exact g2.top) tp⟩
  ·have il:=(List.getElem?_eq_some_iff.mp h1).1
   rw [List.length_append,List.length_singleton] at il
   rw [List.getElem?_append_right (by omega),show i - das0.length = 0 by omega] at h1
   rw [List.getElem?_append_right (by omega),show i - q0.length = 0 by omega] at h2
   cases h1
   cases h2
   refine ⟨tp _ _ ga1,by rw [zad,List.map_append]; rfl,by have:=ga2.len; simpa using this,fun j p r' h1 h2=>?_⟩
   have lr:a.2.2.length = rs.length:=ga2.len
   by_cases cj:j < a.2.2.length
   ·rw [List.getElem?_append_left cj] at h1
    rw [List.getElem?_append_left (by omega)] at h2
    exact (ga2.keepL (H':=upd H a.2.1 (.lst (a.2.2.map V.ref))) zad (fun b xs h=>by rw [zat (fun z=>by rw [z,ga2.top] at h; cases h)]; exact h)).row j p r' h1 h2 |> fun h=>by
     obtain ⟨vs,e,hl,h⟩:=ga2.row j p r' h1 h2
     refine ⟨vs,tp _ _ e,hl,fun i v p h1 h2=>?_⟩
     have:=h i v p h1 h2
     cases p with
     | inl x=>exact this
     | inr l=>obtain ⟨q,e1,e2⟩:=this; exact ⟨q,e1,tp _ _ e2⟩
   ·have jl:=(List.getElem?_eq_some_iff.mp h1).1
    rw [List.length_append,List.length_singleton] at jl
    rw [List.getElem?_append_right (by omega),show j - a.2.2.length = 0 by omega] at h1
    rw [List.getElem?_append_right (by omega),show j - rs.length = 0 by omega] at h2
    cases h1
    cases h2
    exact ra'
 ·have:=x.nd; rw [List.map_append] at this ⊢; exact this
 ·have:=x.np2; rw [List.map_append] at this ⊢; exact this
 ·rcases List.mem_append.mp hb with h | h
  ·exact x.fr b (List.mem_append_left _ h)
  ·rw [List.mem_singleton.mp h]; exact x.fr a (by simp)
theorem zba (z:Str) (c:Nat):PySem.Txt.split z ⟨#[c]⟩ ≠ []:=fun e=>by
 have h:=StrLaws.join_split z ⟨#[c]⟩
 rw [e] at h
 have h:Str.empty = z:=h
 subst h
 have:PySem.Txt.split Str.empty ⟨#[c]⟩ = [Str.empty]:=by first | rfl | simp [PySem.Txt.split,Str.empty,Str.length]
 rw [this] at e
 cases e
theorem zcb {c:Nat}:∀ {zs:List Str} {p:Str},p ∈ zs->p.length ≤ (Str.join ⟨#[c]⟩ zs).length∧(∀ x ∈ p.cps.toList,x ∈ (Str.join ⟨#[c]⟩ zs).cps.toList)∧zs.length ≤ (Str.join ⟨#[c]⟩ zs).length + 1
 | [],_,h=>by cases h
 | x :: zs,p,h=>by
  have e:=L2.join_list c x zs
  have el:∀ y:Str,y.length = y.cps.toList.length:=fun y=>by rw [zaz,Array.length_toList]
  have fl:∀ l:List Str,l.length ≤ (l.flatMap fun z=>c :: z.cps.toList).length∧∀ p ∈ l,p.cps.toList.length ≤ (l.flatMap fun z=>c :: z.cps.toList).length:=by
   intro l
   induction l with
   | nil=>exact ⟨Nat.le_refl _,fun p h=>by cases h⟩
   | cons y l ih =>
    rw [List.flatMap_cons,List.length_append,List.length_cons,List.length_cons]
    refine ⟨by omega,fun p hp=>?_⟩
    rcases List.mem_cons.mp hp with rfl | hp
    ·omega
    ·have:=ih.2 p hp; omega
  rw [el,el,e,List.length_append]
  refine ⟨?_,fun y hy=>?_,by rw [List.length_cons]; have:=(fl zs).1; omega⟩
  ·rcases List.mem_cons.mp h with rfl | h
   ·omega
   ·have:=(fl zs).2 p h; omega
  ·rcases List.mem_cons.mp h with rfl | h
   ·exact List.mem_append_left _ hy
   ·exact List.mem_append_right _ (List.mem_flatMap.mpr ⟨p,h,List.mem_cons_of_mem _ hy⟩)
theorem za2 {z:Str} {c:Nat}:(PySem.Txt.split z ⟨#[c]⟩).length ≤ z.length + 1∧∀ p ∈ PySem.Txt.split z ⟨#[c]⟩,p.length ≤ z.length∧(Asc z->Asc p):=by
 have e:=StrLaws.join_split z ⟨#[c]⟩
 obtain ⟨x,hx⟩:=List.exists_mem_of_ne_nil _ (zba z c)
 have h1:=(zcb (c:=c) hx).2.2
 rw [e] at h1
 refine ⟨h1,fun p hp=>?_⟩
 obtain ⟨h2,h3,_⟩:=zcb (c:=c) hp
 rw [e] at h2 h3
 exact ⟨h2,fun az=>zaO.mpr fun c' hc=>zaO.mp az c' (h3 c' hc)⟩
noncomputable def NoTx (t:Str):Prop:=∀ q,GxP q->t ≠ zaL q
theorem zfJ {q:List Df} (h:GxP q) {z:Str} (m:z ∈ zak q):(∃ d,GxD d∧PySem.Txt.split z sp32 = za8 d) ∨ ∃ r,GxR r∧PySem.Txt.split z sp32 = zaS r:=by
 obtain ⟨d,hd,hz⟩:=List.mem_flatMap.mp m
 have D:=h.ds d hd
 rcases List.mem_cons.mp hz with rfl | hz
 ·exact .inl ⟨d,D,zbI D⟩
 ·obtain ⟨r,hr,rfl⟩:=List.mem_map.mp hz
  exact .inr ⟨r,D.rs r hr,zb6 (D.rs r hr)⟩
theorem zhD {t z:Str} {i:Nat} (hz:(PySem.Txt.split t nl10)[i]? = some z) (hd:(PySem.Txt.split z sp32).head? = some ("def":Str)) (no:∀ d,GxD d->PySem.Txt.split z sp32 ≠ za8 d):NoTx t:=fun q G e=>by
 rw [e,zbK G] at hz
 rcases zfJ G (List.mem_of_getElem? hz) with ⟨d,D,e2⟩ | ⟨r,R,e2⟩
 ·exact no d D e2
 ·rw [e2] at hd
  obtain ⟨ls,m,_⟩:=R.w
  exact (LW_w _ m).2.2.2.2 (by simpa [zaS] using hd)
theorem zhv {t z:Str} {i:Nat} (hz:(PySem.Txt.split t nl10)[i]? = some z) (hd:(PySem.Txt.split z sp32).head? ≠ some ("def":Str)) (no:i = 0 ∨ ∀ r,GxR r->PySem.Txt.split z sp32 ≠ zaS r):NoTx t:=fun q G e=>by
 rw [e,zbK G] at hz
 rcases zfJ G (List.mem_of_getElem? hz) with ⟨d,D,e2⟩ | ⟨r,R,e2⟩
 ·exact hd (by rw [e2]; rfl)
 ·rcases no with rfl | no
  ·cases q with
   | nil=>exact G.n0 rfl
   | cons d q =>
    have e3:zak (d :: q) = zbj d :: (d.2.2.map za4 ++ zak q):=rfl
    rw [e3] at hz
    have:z = zbj d:=by simpa using hz.symm
    rw [this,zbI (G.ds d (by simp))] at hd
    exact hd rfl
  ·exact no r R e2
noncomputable def sp_rd (X:Addr):Sp:=fun vs H Q E=>∃ t:Str,vs = [.str t]∧Asc t∧t.length ≤ 1900000∧(∀ (ds:List Df) (pl:Addr) (das:List DA) (H':Hp),GxP ds->t = zaL ds->RdAt H H' pl das ds->Q (.ref pl) H')∧(NoTx t->∀ H',Same H H'->E (.ref X) none H')
set_option maxHeartbeats 4000000 in
theorem zif (T:Txt K mg a):FnOk P w K mg base (CX1 P w) 3 a.f_read a.d_read ["text"] (sp_rd a.c_NoText):=by
 refine T.F_read.okX sc_read (fun vs H Q E h=>?_) (fun cdv A outer s H vs Q E hr h=>?_)
 ·obtain ⟨ds,rfl,_⟩:=h
  rfl
 ·obtain ⟨t,rfl,at_,tl,q,qn⟩:=h
  have hu:=za0 hr
  refine ⟨_,(zab (zal (i:=1) sc_read.nd (by rfl) (Or.inl rfl) (zaC pa_nil))
   (zab (zbd PassesOwn.leaving (by rfl) (zbm (zaR PySem.F.plainAttrs_str PySem.F.slot_str_split PySem.F.type_str_split mt_split (pv 0) (zaa zaf pa_nil))) (zav (i:=2) sc_read.nd (by rfl) (Or.inl rfl))
   (zab (zal (i:=3) sc_read.nd (by rfl) (Or.inl rfl) (zaR PySem.F.plainAttrs_str PySem.F.slot_str_split PySem.F.type_str_split mt_split (pv 2) (zaa zaf pa_nil)))
   (zae (zay (zai op_eq (zar ix_F (pv 3) zac (fun _ _=>rfl)) zaf (zan _)) (zae (zaZ (zaR PySem.F.plainAttrs_list PySem.F.slot_list_append PySem.F.type_list_append mt_append (pv 1) (zaa (zah (zdP T) (hr.mono (by decide)) (by rfl) T.m_read_head T.F_read_head.kp T.b_read_head .nil passes_cx (zaa (pv 3) pa_nil)) pa_nil)))) (zae (zay (zgz (pv 1) (fun _=>rfl)) (zae (zaZ (zaR PySem.F.plainAttrs_list PySem.F.slot_list_append PySem.F.type_list_append mt_append (zar ix_F (zar ix_F (pv 1) (ziR un_neg zac) (fun _ _=>rfl)) zac (fun _ _=>rfl)) (zaa (zah (zeh T) (hr.mono (by decide)) (by rfl) T.m_read_row T.F_read_row.kp T.b_read_row .nil passes_cx (zaa (pv 3) pa_nil)) pa_nil)))) (zae (zbr (by rfl) T.x_NoText (by rfl) T.m_NoText flies_cx (zaa zaf pa_nil)))))))))
   (zae (zaq (pv 1))))),?_⟩
  obtain ⟨g1,g2⟩:=za2 (z:=t) (c:=10)
  generalize hG:tSeq (tFor _ _ _) _ = tail
  simp! []
  intro PL nPL
  have S1:Same H (upd H PL (.lst [])):=.laid nPL
  have e1:upd H PL (.lst []) PL = some (.lst []):=zad
  revert S1 e1
  generalize upd H PL (.lst []) = H1
  intro S1 e1
  subst hG
  generalize hG:tRet _ = tail
  refine zic (fun ll H2=>Same H H2∧H2 PL = some (.lst [])∧H2 ll = some (.lst ((PySem.Txt.split t nl10).map V.str))∧ll ≠ PL) (fun Q2 hQ=>?_) ?_
  ·simp! [tBM]
   refine ⟨rfl,t,nl10,rfl,by rw [show Str.ofString "\n" = nl10 by decide],rfl,by rw [sizeLine_eq]; omega,by rw [sizeLine_eq]; unfold nl10; omega,fun ll nll=>?_⟩
   exact hQ ll _ ⟨S1.step nll,zaj e1 nll,zad,fun e=>by rw [e,e1] at nll; cases nll⟩
  rintro ll H2 ⟨S2,eP2,el2,nll⟩
  refine forL (H1:=H2) ll ((PySem.Txt.split t nl10).map V.str) (fun Q2 h2=>h2) (fun i σ Hc=>∃ (v2 v3:Option V) (das:List DA) (qs:List Df),σ = [some (V.str t),some (V.ref PL),v2,v3]∧RdAt H Hc PL das qs∧(zak qs = (PySem.Txt.split t nl10).take i∧∀ d ∈ qs,GxD d)∧Hc ll = some (.lst ((PySem.Txt.split t nl10).map V.str))∧ll ∉ das.map (·.2.1))
   ⟨_,_,[],[],rfl,⟨⟨eP2,rfl,fun i a d h=>by simp at h⟩,S2,nPL,.nil,by simp,fun a h=>by cases h⟩,⟨rfl,by simp⟩,el2,by simp⟩ (fun i σ Hc _ ⟨_,_,_,_,_,_,_,h,_⟩=>.of h) ?_ ?_
  ·rintro i x σ Hc hx ⟨v2,v3,das,qs,rfl,RD,⟨LN,GD⟩,el,nl⟩
   obtain ⟨z,hz,rfl⟩:=zaD hx
   obtain ⟨zl,za⟩:=g2 z (List.mem_of_getElem? hz)
   have za:=za at_
   obtain ⟨p1,p2⟩:=za2 (z:=z) (c:=32)
   have pj:=StrLaws.join_split z sp32
   have pn:=zba z 32
   have ih:=(List.getElem?_eq_some_iff.mp hz).1
   have g1':(PySem.Txt.split t nl10).length ≤ t.length + 1:=g1
   have TK:(PySem.Txt.split t nl10).take (i + 1) = zak qs ++ [z]:=by rw [List.take_succ,hz,LN]; rfl
   have lq:qs.length ≤ (zak qs).length:=by
    clear LN TK RD GD
    induction qs with
    | nil=>exact Nat.le_refl _
    | cons d q ih=>show _ ≤ (zaY d ++ zak q).length; rw [List.length_append,zbN,List.length_cons]; omega
   have lt:(zak qs).length ≤ 1900001:=by rw [LN,List.length_take]; omega
   generalize hG2:tIfS _ _ _ = tail2
   simp! [tBM]
   refine ⟨rfl,z,sp32,rfl,by rw [show Str.ofString " " = sp32 by decide],rfl,by rw [sizeLine_eq]; omega,by rw [sizeLine_eq]; unfold sp32; omega,fun pl npl=>?_⟩
   have nd:=@zhD t z i hz
   have nr:=@zhv t z i hz
   have p1:(PySem.Txt.split z sp32).length ≤ z.length + 1:=p1
   have p2:∀ p ∈ PySem.Txt.split z sp32,p.length ≤ z.length∧(Asc z->Asc p):=p2
   have pn:PySem.Txt.split z sp32 ≠ []:=pn
   revert pj pn p1 p2 nd nr
   generalize PySem.Txt.split z sp32 = ps
   intro pj nd nr p1 p2 pn
   have S3:Same Hc (upd Hc pl (.lst (ps.map V.str))):=.laid npl
   have e3:upd Hc pl (.lst (ps.map V.str)) pl = some (.lst (ps.map V.str)):=zad
   revert S3 e3
   generalize upd Hc pl (.lst (ps.map V.str)) = H3
   intro S3 e3
   obtain ⟨p0,pr,rfl⟩:∃ p0 pr,ps = p0 :: pr:=by
    cases ps with
    | nil=>exact absurd rfl pn
    | cons x y=>exact ⟨x,y,rfl⟩
   have e3':H3 pl = some (.lst (V.str p0 :: pr.map V.str)):=e3
   have pa:∀ x ∈ p0 :: pr,Asc x∧x.length ≤ 2000000:=fun x hx=>⟨(p2 x hx).2 za,by have:=(p2 x hx).1; omega⟩
   have pl2:(p0 :: pr).length ≤ 2000000:=by omega
   have RD3:=RD.same S3
   have hP:=RD3.at_.top
   have el3:=S3 _ _ el
   have ln:=RD3.at_.len
   subst hG2
   by_cases cd:p0 = "def"
   ·subst cd
    simp! [tBM,e3']
    refine ⟨.inl ⟨rfl,_,.of hP⟩,pl,_,rfl,e3,pl2,pa,rfl,fun d D d0 ed t' rlA H4 S4 nt nrl ntr et erl=>?_,fun no H4 S4=>qn (nd rfl no) _ ((RD.sm.trans S3).trans S4)⟩
    have RD4:=RD3.same S4
    have nr0:rlA ≠ PL:=fun z=>by rw [z,hP] at nrl; cases nrl
    have nr1:rlA ∉ das.map (·.2.1):=fun m=>by
     obtain ⟨a,ha,rfl⟩:=List.mem_map.mp m
     obtain ⟨_,_,_,g,_⟩:=RD3.has ha
     rw [g] at nrl; cases nrl
    have nrll:rlA ≠ ll:=fun z=>by rw [z,el3] at nrl; cases nrl
    have ez:z = zbj d:=by rw [← pj,ed]; rfl
    refine ⟨PL,_,_,rfl,rfl,RD4.at_.top,by rw [sizeLine_eq,List.length_map,ln]; omega,das ++ [(t',rlA,[])],_,RD4.snocD et erl (RD3.sm.free nrl) nr0 nr1,?_,?_,by rw [zat nll]; exact S4 _ _ el3,?_⟩
    ·rw [TK,zbc,ez]; rfl
    ·intro x hx
     rcases List.mem_append.mp hx with h | h
     ·exact GD x h
     ·rw [List.mem_singleton.mp h]; exact ⟨D.tk,D.gv,D.wd,fun r hr=>by cases hr⟩
    ·rw [List.map_append,List.mem_append]
     intro h
     rcases h with h | h
     ·exact nl h
     ·simp at h; exact nrll h.symm
   ·simp! [tBM,e3',cd]
    have cd':(p0 :: pr).head? ≠ some ("def":Str):=fun h=>cd (by simpa using h)
    rcases List.eq_nil_or_concat qs with eq | ⟨q0,d,eq⟩
    ·subst eq
     have ed:das = []:=List.length_eq_zero_iff.mp ln
     subst ed
     refine ⟨false,.inl ⟨_,.of hP,by simp⟩,?_⟩
     rw [if_neg (by simp)]
     have i0:i = 0:=by
      have:=congrArg List.length LN
      rw [List.length_take] at this
      have e0:(zak []).length = 0:=rfl
      omega
     exact qn (nr cd' (.inl i0)) _ (RD.sm.trans S3)
    ·rw [List.concat_eq_append] at eq
     subst eq
     obtain ⟨das0,da,eda⟩:∃ x y,das = x ++ [y]:=by
      rcases List.eq_nil_or_concat das with e | ⟨x,y,e⟩
      ·rw [e] at ln; simp at ln
      ·exact ⟨x,y,by rw [e,List.concat_eq_append]⟩
     subst eda
     have ln0:das0.length = q0.length:=by simpa using ln
     obtain ⟨ga1,ga2⟩:=RD3.at_.def_ das0.length da d (by simp) (by rw [ln0]; simp)
     have al:atI ((das0 ++ [da]).map fun a=>V.ref a.1) (-1) = some (.ref da.1):=by rw [List.map_append]; exact zeZ _ _
     refine ⟨true,.inl ⟨_,.of hP,by simp⟩,?_⟩
     rw [if_pos rfl]
     refine ⟨_,by rw [hP]; rfl,_,al,da.1,rfl,_,by rw [ga1]; rfl,.ref da.2.1,ze4,.inl ⟨rfl,_,.of ga2.top⟩,?_⟩
     refine ⟨pl,_,rfl,e3,by simp,pl2,pa,fun r R er rp H4 S4 ra=>?_,fun no H4 S4=>qn (nr cd' (.inr no)) _ ((RD.sm.trans S3).trans S4)⟩
     have RD4:=RD3.same S4
     have lrs:da.2.2.length = d.2.2.length:=ga2.len
     have ez:z = za4 r:=by rw [← pj,er]; rfl
     have lr:d.2.2.length ≤ (zak (q0 ++ [d])).length:=by
      rw [zbc,List.length_append]
      have:(zak [d]).length = d.2.2.length + 1:=by simp [zak,zaY]
      omega
     refine ⟨da.2.1,_,_,rfl,rfl,S4 _ _ ga2.top,by rw [sizeLine_eq,List.length_map]; omega,das0 ++ [(da.1,da.2.1,da.2.2 ++ [rp])],_,RD4.snocR (y:=(d.1,d.2.1)) ra,?_,?_,?_,?_⟩
     ·rw [TK,zbc,zbc,ez]
      simp [zak,zaY]
      rfl
     ·intro x hx
      rcases List.mem_append.mp hx with h | h
      ·exact GD x (List.mem_append_left _ h)
      ·rw [List.mem_singleton.mp h]
       have D:=GD d (by simp)
       exact ⟨D.tk,D.gv,D.wd,fun r' hr'=>by
        rcases List.mem_append.mp hr' with h | h
        ·exact D.rs r' h
        ·rw [List.mem_singleton.mp h]; exact R⟩
     ·rw [zat (fun z=>nl (by rw [z]; simp))]; exact S4 _ _ el3
     ·have:=nl
      rw [List.map_append] at this ⊢
      exact this
  ·rintro σ Hc ⟨v2,v3,das,qs,rfl,RD,⟨LN,GD⟩,el,nl⟩
   rw [List.length_map,List.take_length] at LN
   subst hG
   simp! []
   refine q qs PL das Hc ⟨fun e=>?_,GD⟩ ?_ RD
   ·rw [e] at LN
    exact zba t 10 LN.symm
   ·have:=StrLaws.join_split t nl10
    rw [← LN] at this
    exact this.symm
end
section
variable {P:Program} {w:World} {K:PySem.W.Frag} {mg:Str->Option Value} {base:Heap} {a:Ad}
theorem zbk {c:TT} {t e u:TS} {D:Ends} {σ:St} {H:Hp} (hc:∀ Q,Q true H->c σ H Q) (h:t { D with nx:=u D } σ H):tSeq (tIfS c t e) u D σ H:=hc _ (by rw [if_pos rfl]; exact h)
theorem zaN {c:TT} {t u:TS} {D:Ends} {σ:St} {H:Hp} (hc:∀ Q,Q false H->c σ H Q) (h:u D σ H):tSeq (tIfS c t tNext) u D σ H:=hc _ (by rw [if_neg (by simp)]; exact h)
theorem zgM {c:TT} {t u:TS} {D:Ends} {σ:St} {H:Hp} (hc:∀ Q,(∀ H',Same H H'->Q false H')->c σ H Q) (h:∀ H',Same H H'->u D σ H'):tSeq (tIfS c t tNext) u D σ H:=hc _ fun H' S=>by rw [if_neg (by simp)]; exact h H' S
theorem zg4 {c:TT} {t e u:TS} {D:Ends} {σ:St} {H:Hp} (hc:∀ Q,(∀ H',Same H H'->Q true H')->c σ H Q) (h:∀ H',Same H H'->t { D with nx:=u D } σ H'):tSeq (tIfS c t e) u D σ H:=hc _ fun H' S=>by rw [if_pos rfl]; exact h H' S
theorem zhX {c:TT} {t e u:TS} {D:Ends} {σ:St} {H:Hp} (hc:∀ Q,Q false H->c σ H Q) (h:e { D with nx:=u D } σ H):tSeq (tIfS c t e) u D σ H:=hc _ (by rw [if_neg (by simp)]; exact h)
theorem tk_ne (y:Str):tkTx y ≠ "":=by
 unfold tkTx
 split
 ·decide
 ·rename_i h
  exact fun e=>h e
noncomputable def sp_lhead:Sp:=fun vs H Q _=>∃ (l:Addr) (zs:List Str),vs = [.ref l]∧H l = some (.lst (zs.map V.str))∧zs.length ≤ 2000000∧(∀ z ∈ zs,Asc z∧z.length ≤ 2000000)∧zs.head? = some ("def":Str) ∧
 (∀ d:Df,GxD d->d.2.2 = []->zs = za8 d->∀ (t rl:Addr) (H':Hp),Same H H'->H t = none->H rl = none->t ≠ rl->H' t = some (.tup [.str d.1.1,.str d.1.2,.int d.2.1,.ref rl])->H' rl = some (.lst [])->Q (.ref t) H') ∧
 ((∀ d:Df,GxD d->zs ≠ za8 d)->∀ H',Same H H'->Q .non H')
set_option maxHeartbeats 4000000 in
theorem zd8 (T:Txt K mg a):FnOk P w K mg base (CX1 P w) 2 a.f_law_head a.d_law_head ["some"] sp_lhead:=by
 refine T.F_law_head.okC sc_law_head (fun vs H Q E h=>?_) (fun cdv A outer s H vs Q E hr h=>?_)
 ·obtain ⟨l,d,rfl,_⟩:=h
  rfl
 ·obtain ⟨l,zs,rfl,hl,ll,hz,hd,q,qn⟩:=h
  have hu:=za0 hr
  refine ⟨_,(zab (zay (PW.pt (zck (zai op_ne (zao call_lenF (by rfl) T.z_len (by decide +kernel) (zaa (pv 0) pa_nil)) zac (zan _)) (zck (zai op_eq (zar ix_F (pv 0) zac (fun _ _=>rfl)) zaf (zan _)) (zbJ (PW.pt (zbT (zai op_ne (zar ix_F (pv 0) zac (fun _ _=>rfl)) zaf (zan _)) (zbt (zai op_ne (zar ix_F (pv 0) zac (fun _ _=>rfl)) zaf (zan _))))))))) (zae (zaq zbH)) pss_nil)
   (zab (zal (i:=1) sc_law_head.nd (by rfl) (Or.inl rfl) (zar ix_F (zaC (zaa (zar ix_F (pv 0) zac (fun _ _=>rfl)) (zaa zaf pa_nil))) (zax call_int1 (by rfl) T.z_int (by decide +kernel) (zaa (za6 op_eq (zar ix_F (pv 0) zac (fun _ _=>rfl)) zaf (zan _)) pa_nil)) (fun _ _=>rfl)))
   (zab (zal (i:=2) sc_law_head.nd (by rfl) (Or.inl rfl) (zah (zcn T) (hr.mono (by decide)) (by rfl) T.m_law_value T.F_law_value.kp T.b_law_value .nil zau (zaa (zar ix_F (pv 0) zac (fun _ _=>rfl)) (zaa zac pa_nil))))
   (zab (zay (PW.pt (zck (zbZ (zco (pv 2))) (zbJ (zai (zgf hu) (za7 (N':=["sign"]) (cap:=[none]) ⟨rfl,(by decide +kernel),(by decide +kernel),(by rfl),rfl,(by rfl)⟩ (by rfl) (zcT (pv 1)) (fun C_ ex_ s_ H_=>(zav (i:=0) (show (["sign"]:List Str).Nodup by decide +kernel) (by rfl) (Or.inl rfl))) zaH (fun C_ ex_ s_ H_=>(zds (PW.pt (zbT (zai op_ne (pv 0) zaf (zan _)) (zbt (zai op_ne (pv 0) zaf (zan _))))))) (fun C_ ex_ s_ H_=>(pv 0))) (zaC pa_nil) (zan _))))) (zae (zaq zbH)) pss_nil)
   (zae (zaq (zbo (zaa (pv 1) (zaa (zar ix_F (pv 0) zac (fun _ _=>rfl)) (zaa (pv 2) (zaa (zaC pa_nil) pa_nil))))))))))),?_⟩
  by_cases c4:zs.length = 4
  rotate_left
  ·refine zbk (fun Q2 h2=>by simp! [hl]; rw [if_pos (by rw [List.length_map]; omega)]; exact h2) ?_
   simp! []
   exact qn (fun d _ e=>c4 (by rw [e]; rfl)) _ (Same.refl _)
  match zs,c4 with
  | [z0,z1,z2,z3],_ =>
  have e0:z0 = "def":=by simpa using hd
  subst e0
  clear hd ll
  have hz1:=hz z1 (by simp)
  have hz2:=hz z2 (by simp)
  have hz3:=hz z3 (by simp)
  clear hz
  have hl:H l = some (.lst [V.str ("def":Str),V.str z1,V.str z2,V.str z3]):=hl
  by_cases c1:z1 = "" ∨ (z2 ≠ "n"∧z2 ≠ "h")
  ·refine zbk (fun Q2 h2=>?_) ?_
   ·simp! [hl]
    rw [if_neg (fun h=>h rfl)]
    by_cases ca:z1 = Str.ofString ""
    ·rw [if_pos ca]; exact h2
    ·obtain ⟨g1,g2⟩:=c1.resolve_left ca
     rw [if_neg ca,if_pos g1,decide_eq_false g2]; exact h2
   ·simp! []
    refine qn (fun d D e=>?_) _ (Same.refl _)
    simp only [za8,List.cons.injEq,and_true,true_and] at e
    rcases c1 with c1 | ⟨g1,g2⟩
    ·exact tk_ne _ (e.1.symm.trans c1)
    ·rcases D.gv with h | h
     ·exact g1 (by rw [e.2.1,h]; decide)
     ·exact g2 (by rw [e.2.1,h]; decide)
  have n1:¬ z1 = Str.ofString "":=fun h=>c1 (.inl h)
  have gv':z2 = Str.ofString "n" ∨ z2 = Str.ofString "h":=by
   by_cases a1:z2 = Str.ofString "n"
   ·exact .inl a1
   ·by_cases a2:z2 = Str.ofString "h"
    ·exact .inr a2
    ·exact absurd (.inr ⟨a1,a2⟩) c1
  have gv:z2 = ⟨#[110]⟩ ∨ z2 = ⟨#[104]⟩:=by
   rcases gv' with h | h
   ·left; rw [h]; decide
   ·right; rw [h]; decide
  refine zaN (fun Q2 h2=>?_) ?_
  ·simp! [hl]
   rw [if_neg (fun h=>h rfl),if_neg n1]
   by_cases a1:z2 = Str.ofString "n"
   ·rw [if_neg (fun h=>h a1)]; exact h2
   ·rw [if_pos a1,decide_eq_true (gv'.resolve_left a1)]; exact h2
  generalize hG:tSeq (tIfS _ _ _) _ = tail
  simp! [hl]
  intro p np
  have S1:Same H (upd H p (.lst [V.str z1,V.str (Str.ofString "")])):=.laid np
  revert S1
  generalize upd H p (.lst [V.str z1,V.str (Str.ofString "")]) = H1
  intro S1
  have hl1:=S1 _ _ hl
  generalize hy:(if z1 = Str.ofString "-" then Str.ofString "" else z1) = y
  have ay:Asc y∧y.length ≤ 2000000:=by
   rw [← hy]
   split
   ·exact ⟨by decide +kernel,by decide⟩
   ·exact hz1
  have ty:∀ x:Str,(∀ c ∈ x.cps.toList,NH c)->z1 = tkTx x->x = y:=fun x hx e=>by
   rw [← hy]
   unfold tkTx at e
   split at e
   ·rename_i h0
    rw [if_pos e,h0]
   ·rename_i h0
    rw [if_neg (fun h=>?_)]
    ·exact e.symm
    ·rw [e] at h
     have:=hx 45 (by rw [h]; decide)
     rcases this with h | h <;> omega
  have tb:z1 = tkTx y:=by
   unfold tkTx
   by_cases h0:z1 = Str.ofString "-"
   ·rw [if_pos h0] at hy
    rw [if_pos hy.symm]; exact h0
   ·rw [if_neg h0] at hy
    rw [← hy,if_neg n1]
  refine ⟨_,by rw [hl1]; rfl,_,zdC,rfl,.str y,?_,_,by rw [hl1]; rfl,_,ze4,z3,60,rfl,hz3.1,hz3.2,by decide,by decide,fun no H2 S2=>?_,fun ok n H2 en S2=>?_⟩
  ·rw [← hy]
   by_cases cd:z1 = Str.ofString "-"
   ·rw [if_pos (by rw [cd]),if_pos cd]; rfl
   ·rw [if_neg (fun h=>cd (V.str.inj h)),if_neg cd]; rfl
  ·subst hG
   refine zbk (fun Q2 h2=>by simp! []; exact h2) ?_
   simp! []
   exact qn (fun d D e=>no (by simp only [za8,List.cons.injEq,and_true,true_and] at e; rw [e.2.2]; exact (zbA D.wd).1)) _ (S1.trans S2)
  ·obtain ⟨nb,es⟩:=zcA ok en
   subst hG
   have S12:=S1.trans S2
   have hl2:=S12 _ _ hl
   simp! []
   refine zeN y (fun c=>if NH c then none else some (.str ⟨#[c]⟩)) (fun Q2 h2=>by simp! []; exact h2) ay.1 (by rw [sizeLine_eq,← zaz]; omega) ?_ ?_
   ·intro c H3 R N hc S3 hR hN
    simp! [zaE]
    have en_:∀ c:Nat,(⟨#[c]⟩:Str) = Str.ofString "n" ↔ c = 110:=fun c=>⟨fun h=>by
     have:=congrArg Array.toList (congrArg Str.cps h)
     rw [show (Str.ofString "n").cps.toList = [110] by decide] at this
     injection this,fun h=>by rw [h]; decide⟩
    have eh_:∀ c:Nat,(⟨#[c]⟩:Str) = Str.ofString "h" ↔ c = 104:=fun c=>⟨fun h=>by
     have:=congrArg Array.toList (congrArg Str.cps h)
     rw [show (Str.ofString "h").cps.toList = [104] by decide] at this
     injection this,fun h=>by rw [h]; decide⟩
    by_cases a1:c = 110
    ·rw [if_neg (fun h=>h ((en_ c).mpr a1))]
     exact hN (if_pos (.inl a1)) _ (Same.refl _)
    ·rw [if_pos (fun h=>a1 ((en_ c).mp h))]
     by_cases a2:c = 104
     ·rw [if_neg (fun h=>h ((eh_ c).mpr a2))]
      exact hN (if_pos (.inr a2)) _ (Same.refl _)
     ·rw [if_pos (fun h=>a2 ((eh_ c).mp h))]
      exact hR _ _ (if_neg (fun h=>h.elim a1 a2)) (Same.refl _)
   ·intro D H3 hD S3 e3 p3 np3
    have e':=zaj (u:=.lst []) e3 np3
    have S4:=S3.step np3 (u:=.lst [])
    revert e' S4
    generalize upd H3 p3 (.lst []) = H4
    intro e' S4
    have S04:=S12.trans S4
    have hl4:=S04 _ _ hl
    refine ⟨D,rfl,_,by rw [e']; rfl,by rw [e']; rfl,?_⟩
    by_cases dg:∀ c ∈ y.cps.toList,NH c
    ·have em:y.cps.toList.filterMap (fun c=>if NH c then none else some (V.str ⟨#[c]⟩)) = []:=List.filterMap_eq_nil_iff.mpr fun c hc=>if_pos (dg c hc)
     rw [em,if_neg (by simp)]
     refine ⟨_,by rw [hl4]; rfl,_,zdZ,fun rl nrl t nt=>?_⟩
     exact q ((y,z2),n,[]) ⟨dg,gv,nb,fun r hr=>by cases hr⟩ rfl (by rw [tb,es]; rfl) t rl _ ((S04.step nrl).step nt) ((S04.step nrl).free nt) (S04.free nrl) (fun e=>by rw [e,zad] at nt; cases nt) zad (zaj zad nt)
    ·rw [if_pos ?_]
     ·refine qn (fun d D e=>dg ?_) _ S04
      simp only [za8,List.cons.injEq,and_true,true_and] at e
      have:=ty _ D.tk e.1
      rw [← this]; exact D.tk
     ·cases ef:y.cps.toList.filterMap (fun c=>if NH c then none else some (V.str ⟨#[c]⟩)) with
      | nil =>
       refine absurd (fun c hc=>?_) dg
       have:=List.filterMap_eq_nil_iff.mp ef c hc
       by_cases d:NH c
       ·exact d
       ·rw [if_neg d] at this; cases this
      | cons _ _=>rfl
end
section
variable {P:Program} {w:World} {K:PySem.W.Frag} {mg:Str->Option Value} {base:Heap} {a:Ad}
noncomputable def nmV (z:Str):V:=if OkT z 60 then .int ((intText? z).getD 0) else .non
theorem ziW (wd:Str):valV LET (.inr wd) = (LW.lookup wd).map V.str:=by
 cases hk:LW.lookup wd with
 | some ls=>exact (LW_ok _ (zeQ hk)).2.2
 | none =>
  cases hv:valV LET (.inr wd:Key) with
  | none=>rfl
  | some v =>
   have m:=zig hv
   obtain ⟨p,hp,e⟩:=List.mem_map.mp m
   obtain ⟨q,hq,rfl⟩:=List.mem_map.mp hp
   have e':q.1 = wd:=by injection e
   have:=LW_look _ hq
   rw [e',hk] at this
   cases this
theorem zgX (z:Str):flatV (nmV z) = true:=by
 unfold nmV
 split <;> rfl
theorem zi9 (zs:List Str):inV .non (zs.map nmV) = decide (∃ z ∈ zs,¬ OkT z 60):=by
 induction zs with
 | nil=>simp [inV]
 | cons z r ih =>
  unfold inV at ih ⊢
  rw [List.map_cons,List.any_cons,ih]
  have:eqV (nmV z) .non = decide (¬ OkT z 60):=by
   unfold nmV
   by_cases c:OkT z 60
   ·rw [if_pos c]; simp [eqV,c]
   ·rw [if_neg c]; simp [eqV,c]
  rw [this]
  simp [Bool.decide_or]
theorem nm_ok:∀ {zs:List Str},(∀ z ∈ zs,OkT z 60)->∃ ms:List Int,zs.map nmV = ms.map V.int∧zs = ms.map strI∧∀ m ∈ ms,NumB m
 | [],_=>⟨[],rfl,rfl,by simp⟩
 | z :: r,h=>by
  obtain ⟨ms,e1,e2,e3⟩:=nm_ok (zs:=r) fun x hx=>h x (List.mem_cons_of_mem _ hx)
  have ok:=h z (List.mem_cons_self ..)
  obtain ⟨n,h1,_⟩:=ok.num (by decide)
  obtain ⟨nb,es⟩:=zcA ok h1
  refine ⟨n :: ms,?_,by rw [List.map_cons,← e2,← es],fun m hm=>?_⟩
  ·rw [List.map_cons,List.map_cons,e1]
   unfold nmV
   rw [if_pos ok,h1]; rfl
  ·rcases List.mem_cons.mp hm with e | e
   ·rw [e]; exact nb
   ·exact e3 m e
theorem zfc (wd:Str) (ms:List Int):zaB (wd,ms.map Sum.inl) = ms:=by
 unfold zaB
 rw [List.flatMap_map]
 show ms.flatMap (fun x=>[x]) = ms
 induction ms with
 | nil=>rfl
 | cons x r ih=>simp
noncomputable def sp_lline:Sp:=fun vs H Q _=>∃ (l:Addr) (zs:List Str),vs = [.ref l]∧H l = some (.lst (zs.map V.str))∧zs ≠ []∧zs.length ≤ 2000000∧(∀ z ∈ zs,Asc z∧z.length ≤ 2000000) ∧
 (∀ r:Row,GxR r->zs = zaS r->∀ (t:Addr) (H':Hp),Same H H'->zbg H' t r->Q (.ref t) H')∧((∀ r:Row,GxR r->zs ≠ zaS r)->∀ H',Same H H'->Q .non H')
set_option maxHeartbeats 4000000 in
theorem zed (T:Txt K mg a):FnOk P w K mg base (CX1 P w) 2 a.f_law_line a.d_law_line ["some"] sp_lline:=by
 refine T.F_law_line.okC sc_law_line (fun vs H Q E h=>?_) (fun cdv A outer s H vs Q E hr h=>?_)
 ·obtain ⟨l,r,rfl,_⟩:=h
  rfl
 ·obtain ⟨l,zs,rfl,hl,z0,zl,hz,q,qn⟩:=h
  have hu:=za0 hr
  refine ⟨_,(zab (zal (i:=1) sc_law_line.nd (by rfl) (Or.inl rfl) (zhi hu (zbM (zaT T) (hr.mono (by decide)) (by rfl) T.m_law_letters T.F_law_letters.kp T.b_law_letters .nil zau) (zar ix_F (pv 0) zac (fun _ _=>rfl)) ⟨rfl,rfl,rfl,rfl⟩))
   (zab (zej (i:=2) sc_law_line.nd (by rfl) (Or.inl rfl) (N':=["one"]) (cap:=[none]) ⟨rfl,(by decide +kernel),(by decide +kernel),(by rfl),rfl,(by rfl)⟩ (by rfl) (zbm (zas sl_list (pv 0) (zaw zac) po_none)) (fun C_ ex_ s_ H_=>(zav (i:=0) (show (["one"]:List Str).Nodup by decide +kernel) (by rfl) (Or.inl rfl))) zaH (fun C_ ex_ s_ H_=>zaU) (fun C_ ex_ s_ H_=>(zah (zcn T) (by exact hr.mono (by decide)) (by rfl) T.m_law_value T.F_law_value.kp T.b_law_value .nil zau (zaa (pv 0) (zaa zac pa_nil)))))
   (zab (zay (PW.pt (zck (zbZ (zco (pv 1))) (zbJ (zai op_in_seq zbH (pv 2) (by with_unfolding_all rfl))))) (zae (zaq zbH)) pss_nil)
   (zab (zay (zai op_eq (zar ix_F (pv 0) zac (fun _ _=>rfl)) zaf (zan _)) (zab (zay (zai op_lt (zao call_lenF (by rfl) T.z_len (by decide +kernel) (zaa (pv 2) pa_nil)) zac (zan _)) (zae (zaq zbH)) pss_nil)
   (zae (zaq (zbo (zaa zaf (zaa (zar ix_F (pv 2) zac (fun _ _=>rfl)) (zaa (zar ix_F (pv 2) zac (fun _ _=>rfl)) (zaa (zax call_tuple_of (by rfl) T.z_tuple (by decide +kernel) (zaa (zas sl_list (pv 2) (zaw zac) po_none) pa_nil)) pa_nil)))))))) pss_nil)
   (zab (zay (zai op_ne (zao call_lenF (by rfl) T.z_len (by decide +kernel) (zaa (pv 2) pa_nil)) (zao call_lenF (by rfl) T.z_len (by decide +kernel) (zaa (pv 1) pa_nil)) (zan _)) (zae (zaq zbH)) pss_nil)
   (zae (zaq (zax call_tuple_of (by rfl) T.z_tuple (by decide +kernel) (zaa (zam op_cat (zaC (zaa (zar ix_F (pv 0) zac (fun _ _=>rfl)) pa_nil)) (pv 2)) pa_nil))))))))),?_⟩
  match zs,z0 with
  | wd :: ns,_ =>
  have hwd:=hz wd (by simp)
  have hns:∀ z ∈ ns,Asc z∧z.length ≤ 2000000:=fun z h=>hz z (by simp [h])
  have hl:H l = some (.lst (V.str wd :: ns.map V.str)):=hl
  have nl:ns.length ≤ 2000000:=by rw [List.length_cons] at zl; omega
  clear hz zl
  generalize hG:tSeq (tAsg (zbw _ _ _ _ _) _) _ = tail
  simp! [hl,zhA]
  refine ⟨rfl,fun p1 H1 S1 np1 e1=>⟨p1,rfl,.inl ⟨_,.inl e1⟩,_,by rw [S1 _ _ hl]; rfl,_,zc4,_,.k (k:=.inr wd) e1,?_⟩⟩
  rw [ziW]
  have hl1:=S1 _ _ hl
  subst hG
  generalize hG:tSeq (tIfS _ _ _) _ = tail
  simp! []
  refine zhz (fun sl H2=>Same H H2∧H2 sl = some (.lst (ns.map V.str))) (fun Q2 hQ=>?_) ?_
  ·simp! [tSl,tNoPart,zbv,rSlL]
   refine ⟨_,.of hl1,fun sl nsl=>?_⟩
   have ec:cutV (V.str wd :: ns.map V.str) (some 1) none = ns.map V.str:=zbL (V.str wd :: ns.map V.str) 1
   rw [ec] at *
   exact hQ sl _ ⟨S1.step nsl,zad⟩
  rintro sl H2 ⟨S2,e2⟩
  refine zjl (H1:=H2) sl (ns.map V.str) (fun v=>match v with | .str z=>some (nmV z) | _=>none) (fun Q2 h2=>h2) (.of e2) (by rw [sizeLine_eq,List.length_map]; omega) ?_ ?_
  ·intro v H3 R N hv S3 hy hn
   obtain ⟨z,hz,rfl⟩:=List.mem_map.mp hv
   simp! [zaE,tTrue]
   refine ⟨z,60,rfl,(hns z hz).1,(hns z hz).2,by decide,by decide,fun c H4 S4=>?_,fun ok n H4 en S4=>?_⟩
   ·exact hy _ _ (show some (nmV z) = some .non by unfold nmV; rw [if_neg c]) S4
   ·exact hy _ _ (show some (nmV z) = some (.int n) by unfold nmV; rw [if_pos ok,en]; rfl) S4
  intro D H3 nD S3 hD3
  have S03:=S2.trans S3
  have hl3:=S03 _ _ hl
  have hE3:H3 D = some (.lst (ns.map nmV)):=by
   rw [hD3]
   refine congrArg (fun l=>some (HO.lst l)) ?_
   rw [List.filterMap_map]
   show List.filterMap (fun z=>some (nmV z)) ns = _
   rw [List.filterMap_eq_map']
  clear hD3
  subst hG
  have bad:(∀ r:Row,GxR r->wd :: ns ≠ zaS r)->∀ H',Same H3 H'->Q .non H':=fun h H' S=>qn h H' (S03.trans S)
  cases hk:LW.lookup wd with
  | none =>
   refine zbk (fun Q2 h2=>by simp! []; exact h2) ?_
   simp! []
   refine bad (fun r R e=>?_) _ (Same.refl _)
   obtain ⟨ls,m,_⟩:=R.w
   have e1:wd = r.1:=by simp only [zaS,List.cons.injEq] at e; exact e.1
   have:=LW_look _ m
   rw [← e1,hk] at this
   cases this
  | some ls =>
  have ml:=zeQ hk
  have lu:∀ ls',(wd,ls') ∈ LW->ls' = ls:=fun ls' h=>by
   have:=LW_look _ h
   rw [hk] at this
   exact (Option.some.inj this).symm
  have afl:(ns.map nmV).all flatV = true:=List.all_eq_true.mpr fun x hx=>by
   obtain ⟨z,_,rfl⟩:=List.mem_map.mp hx
   exact zgX z
  by_cases cb:∃ z ∈ ns,¬ OkT z 60
  ·refine zbk (fun Q2 h2=>?_) ?_
   ·simp! []
    refine ⟨D,_,rfl,.inl (.of hE3),rfl,afl,?_⟩
    rw [if_neg (by simp),zi9,decide_eq_true cb]
    exact ⟨_,rfl,h2⟩
   ·simp! []
    refine bad (fun r R e=>?_) _ (Same.refl _)
    obtain ⟨z,hz,no⟩:=cb
    have e1:ns = (zaB r).map strI:=by simp only [zaS,List.cons.injEq] at e; exact e.2
    rw [e1] at hz
    obtain ⟨i,hi,rfl⟩:=List.mem_map.mp hz
    exact no (zbA (R.nb i hi)).1
  refine zaN (fun Q2 h2=>?_) ?_
  ·simp! []
   refine ⟨D,_,rfl,.inl (.of hE3),rfl,afl,?_⟩
   rw [if_neg (by simp),zi9,decide_eq_false cb]
   exact ⟨_,rfl,h2⟩
  obtain ⟨ms,em,en,bm⟩:=nm_ok (zs:=ns) fun z hz=>Classical.byContradiction fun no=>cb ⟨z,hz,no⟩
  rw [em] at hE3
  subst en
  have ml2:ms.length ≤ 2000000:=by rw [List.length_map] at nl; exact nl
  by_cases c:wd = "call"
  ·subst c
   refine zbk (fun Q2 h2=>by simp! [hl3]; exact h2) ?_
   by_cases c2:2 ≤ ms.length
   ·match ms,c2 with
    | p :: g :: lq,_ =>
    refine zaN (fun Q2 h2=>by simp! [hE3,List.length_map]; rw [decide_eq_false (by omega)]; exact h2) ?_
    simp! [hE3,tSl,tNoPart,zbv,rSlL]
    refine ⟨_,.of hE3,fun s2 ns2=>?_⟩
    have ec:cutV (List.map V.int (p :: g :: lq)) (some 2) none = lq.map V.int:=zbL (V.int p :: V.int g :: lq.map V.int) 2
    rw [ec]
    refine ⟨lq.map V.int,.inl ⟨.of zad,fun t1 n1 t2 n2=>?_⟩⟩
    have S4:=((S03.step ns2 (u:=.lst (lq.map V.int))).step n1 (u:=.tup (lq.map V.int))).step n2 (u:=.tup [V.str (Str.ofString "call"),V.int p,V.int g,V.ref t1])
    refine q ("call",[.inl p,.inl g,.inr lq]) ⟨⟨ls,ml,fun z=>absurd rfl z⟩,fun _=>⟨p,g,lq,rfl⟩,fun i hi=>bm i (by simpa [zaB,pOf] using hi)⟩ (by simp [zaS,zaB,pOf]) t2 _ S4 ⟨[V.int p,V.int g,V.ref t1],by rw [zad],rfl,fun i v pt h1 h2=>?_⟩
    match i,h1,h2 with
    | 0,h1,h2=>cases h1; cases h2; rfl
    | 1,h1,h2=>cases h1; cases h2; rfl
    | 2,h1,h2=>cases h1; cases h2; exact ⟨t1,rfl,zaj zad n2⟩
    | i + 3,h1,h2=>simp at h1
   ·refine zbk (fun Q2 h2=>by simp! [hE3,List.length_map]; rw [decide_eq_true (by omega)]; exact h2) ?_
    simp! []
    refine bad (fun r R e=>c2 ?_) _ (Same.refl _)
    simp only [zaS,List.cons.injEq] at e
    have:=(zcF R).2 e.1.symm
    have e3:=congrArg List.length e.2
    rw [List.length_map,List.length_map] at e3
    omega
  ·refine zaN (fun Q2 h2=>by simp! [hl3,c]; exact h2) ?_
   have ll:=(LW_w _ ml).2.2.1
   dsimp only at ll
   have lenL:lenF (V.str ls) H3 = some ls.cps.size:=if_pos (by rw [sizeLine_eq,zaz]; omega)
   by_cases c3:ms.length = ls.cps.size
   rotate_left
   ·refine zbk (fun Q2 h2=>by simp! [hE3,List.length_map,Option.map_some,Option.getD_some,lenL]; rw [decide_eq_false (by omega)]; exact h2) ?_
    simp! []
    refine bad (fun r R e=>c3 ?_) _ (Same.refl _)
    simp only [zaS,List.cons.injEq] at e
    obtain ⟨ls',m',hw⟩:=R.w
    have h1:=hw (by rw [← e.1]; exact c)
    have h2:=(zcF R).1
    rw [if_neg (by rw [← e.1]; exact c)] at h2
    have e3:=congrArg List.length e.2
    rw [List.length_map,List.length_map] at e3
    rw [← e.1] at m'
    rw [e3,h2,h1.1,lu ls' m']
   refine zaN (fun Q2 h2=>by simp! [hE3,List.length_map,Option.map_some,Option.getD_some,lenL]; rw [decide_eq_true (by omega)]; exact h2) ?_
   simp! [hl3]
   intro t1 n1
   have hD4:=zaj (u:=.lst [V.str wd]) hE3 n1
   refine ⟨t1,D,_,_,rfl,rfl,zad,hD4,by rw [sizeLine_eq,List.length_map]; simp; omega,fun t2 n2=>?_⟩
   refine ⟨t2,rfl,_,.inl ⟨.of zad,fun t3 n3=>?_⟩⟩
   have S4:=((S03.step n1 (u:=.lst [V.str wd])).step n2 (u:=.lst ([V.str wd] ++ ms.map V.int))).step n3 (u:=.tup ([V.str wd] ++ ms.map V.int))
   have ep:=zfc wd ms
   refine q (wd,ms.map Sum.inl) ⟨⟨ls,ml,fun _=>⟨by rw [List.length_map]; exact c3,fun x hx=>?_⟩⟩,fun z=>absurd z c,by rw [ep]; exact bm⟩ (by unfold zaS; rw [ep]) t3 _ S4 ⟨ms.map V.int,zad,by rw [List.length_map,List.length_map],fun i v pt h1 h2=>?_⟩
   ·obtain ⟨y,_,rfl⟩:=List.mem_map.mp hx
    exact ⟨y,rfl⟩
   ·rw [List.getElem?_map] at h1 h2
    obtain ⟨x,hx,rfl⟩:=Option.map_eq_some_iff.mp h1
    rw [hx] at h2
    cases h2
    rfl
end
section
variable {P:Program} {w:World} {K:PySem.W.Frag} {mg:Str->Option Value} {base:Heap} {a:Ad}
theorem zhm {c:TT} {t e:TS} {D:Ends} {σ:St} {H:Hp} (hc:∀ Q,Q true H->c σ H Q) (h:t D σ H):tIfS c t e D σ H:=hc _ (by rw [if_pos rfl]; exact h)
theorem zgB {c:TT} {t e:TS} {D:Ends} {σ:St} {H:Hp} (hc:∀ Q,Q false H->c σ H Q) (h:e D σ H):tIfS c t e D σ H:=hc _ (by rw [if_neg (by simp)]; exact h)
noncomputable def sp_lpo:Sp:=fun vs H Q _=>∃ t:Str,vs = [.str t]∧Asc t∧t.length ≤ 1900000∧(∀ (ds:List Df) (pl:Addr) (das:List DA) (H':Hp),GxP ds->t = zaL ds->RdAt H H' pl das ds->Q (.ref pl) H')∧(NoTx t->∀ H',Same H H'->Q .non H')
set_option maxHeartbeats 4000000 in
theorem zcf (T:Txt K mg a):FnOk P w K mg base (CX1 P w) 3 a.f_law_program_of a.d_law_program_of ["text"] sp_lpo:=by
 refine T.F_law_program_of.okC sc_law_program_of (fun vs H Q E h=>?_) (fun cdv A outer s H vs Q E hr h=>?_)
 ·obtain ⟨ds,rfl,_⟩:=h
  rfl
 ·obtain ⟨t,rfl,at_,tl,q,qn⟩:=h
  have hu:=za0 hr
  refine ⟨_,(zab (zal (i:=1) sc_law_program_of.nd (by rfl) (Or.inl rfl) (zaC pa_nil))
   (zab (zbd PassesOwn.never (by rfl) (zbm (zaR PySem.F.plainAttrs_str PySem.F.slot_str_split PySem.F.type_str_split mt_split (pv 0) (zaa zaf pa_nil))) (zav (i:=2) sc_law_program_of.nd (by rfl) (Or.inl rfl))
   (zab (zal (i:=3) sc_law_program_of.nd (by rfl) (Or.inl rfl) (zaR PySem.F.plainAttrs_str PySem.F.slot_str_split PySem.F.type_str_split mt_split (pv 2) (zaa zaf pa_nil)))
   (zae (zay (zai op_eq (zar ix_F (pv 3) zac (fun _ _=>rfl)) zaf (zan _)) (zab (zal (i:=4) sc_law_program_of.nd (by rfl) (Or.inl rfl) (zah (zd8 T) (hr.mono (by decide)) (by rfl) T.m_law_head T.F_law_head.kp T.b_law_head .nil zau (zaa (pv 3) pa_nil)))
   (zab (zay (zbZ (zco (pv 4))) (zae (zaq zbH)) pss_nil)
   (zae (zaZ (zaR PySem.F.plainAttrs_list PySem.F.slot_list_append PySem.F.type_list_append mt_append (pv 1) (zaa (pv 4) pa_nil)))))) (zab (zal (i:=5) sc_law_program_of.nd (by rfl) (Or.inl rfl) (zah (zed T) (hr.mono (by decide)) (by rfl) T.m_law_line T.F_law_line.kp T.b_law_line .nil zau (zaa (pv 3) pa_nil)))
   (zab (zay (PW.pt (zck (zbZ (zco (pv 5))) (zbJ (zai (ziN hu) (pv 1) (zaC pa_nil) (zan _))))) (zae (zaq zbH)) pss_nil)
   (zae (zaZ (zaR PySem.F.plainAttrs_list PySem.F.slot_list_append PySem.F.type_list_append mt_append (zar ix_F (zar ix_F (pv 1) (ziR un_neg zac) (fun _ _=>rfl)) zac (fun _ _=>rfl)) (zaa (pv 5) pa_nil))))))))))
   (zae (zaq (pv 1))))),?_⟩
  obtain ⟨g1,g2⟩:=za2 (z:=t) (c:=10)
  generalize hG:tSeq (tFor _ _ _) _ = tail
  simp! []
  intro PL nPL
  have S1:Same H (upd H PL (.lst [])):=.laid nPL
  have e1:upd H PL (.lst []) PL = some (.lst []):=zad
  revert S1 e1
  generalize upd H PL (.lst []) = H1
  intro S1 e1
  subst hG
  generalize hG:tRet (tVar 1) = tail
  refine zic (fun ll H2=>Same H H2∧H2 PL = some (.lst [])∧H2 ll = some (.lst ((PySem.Txt.split t nl10).map V.str))∧ll ≠ PL) (fun Q2 hQ=>?_) ?_
  ·simp! [tBM]
   refine ⟨rfl,t,nl10,rfl,by rw [show Str.ofString "\n" = nl10 by decide],rfl,by rw [sizeLine_eq]; omega,by rw [sizeLine_eq]; unfold nl10; omega,fun ll nll=>?_⟩
   exact hQ ll _ ⟨S1.step nll,zaj e1 nll,zad,fun e=>by rw [e,e1] at nll; cases nll⟩
  rintro ll H2 ⟨S2,eP2,el2,nll⟩
  refine forL (H1:=H2) ll ((PySem.Txt.split t nl10).map V.str) (fun Q2 h2=>h2) (fun i σ Hc=>∃ (v2 v3 v4 v5:Option V) (das:List DA) (qs:List Df),σ = [some (V.str t),some (V.ref PL),v2,v3,v4,v5]∧RdAt H Hc PL das qs∧(zak qs = (PySem.Txt.split t nl10).take i∧∀ d ∈ qs,GxD d)∧Hc ll = some (.lst ((PySem.Txt.split t nl10).map V.str))∧ll ∉ das.map (·.2.1))
   ⟨_,_,_,_,[],[],rfl,⟨⟨eP2,rfl,fun i a d h=>by simp at h⟩,S2,nPL,.nil,by simp,fun a h=>by cases h⟩,⟨rfl,by simp⟩,el2,by simp⟩ (fun i σ Hc _ ⟨_,_,_,_,_,_,_,_,_,h,_⟩=>.of h) ?_ ?_
  ·rintro i x σ Hc hx ⟨v2,v3,v4,v5,das,qs,rfl,RD,⟨LN,GD⟩,el,nl⟩
   obtain ⟨z,hz,rfl⟩:=zaD hx
   obtain ⟨zl,za⟩:=g2 z (List.mem_of_getElem? hz)
   have za:=za at_
   obtain ⟨p1,p2⟩:=za2 (z:=z) (c:=32)
   have pj:=StrLaws.join_split z sp32
   have pn:=zba z 32
   have ih:=(List.getElem?_eq_some_iff.mp hz).1
   have g1':(PySem.Txt.split t nl10).length ≤ t.length + 1:=g1
   have TK:(PySem.Txt.split t nl10).take (i + 1) = zak qs ++ [z]:=by rw [List.take_succ,hz,LN]; rfl
   have lq:qs.length ≤ (zak qs).length:=by
    clear LN TK RD GD
    induction qs with
    | nil=>exact Nat.le_refl _
    | cons d q ih=>show _ ≤ (zaY d ++ zak q).length; rw [List.length_append,zbN,List.length_cons]; omega
   have lt:(zak qs).length ≤ 1900001:=by rw [LN,List.length_take]; omega
   generalize hG2:tIfS _ _ _ = tail2
   simp! [tBM]
   refine ⟨rfl,z,sp32,rfl,by rw [show Str.ofString " " = sp32 by decide],rfl,by rw [sizeLine_eq]; omega,by rw [sizeLine_eq]; unfold sp32; omega,fun pl npl=>?_⟩
   have nd:=@zhD t z i hz
   have nr:=@zhv t z i hz
   have p1:(PySem.Txt.split z sp32).length ≤ z.length + 1:=p1
   have p2:∀ p ∈ PySem.Txt.split z sp32,p.length ≤ z.length∧(Asc z->Asc p):=p2
   have pn:PySem.Txt.split z sp32 ≠ []:=pn
   revert pj pn p1 p2 nd nr
   generalize PySem.Txt.split z sp32 = ps
   intro pj nd nr p1 p2 pn
   have S3:Same Hc (upd Hc pl (.lst (ps.map V.str))):=.laid npl
   have e3:upd Hc pl (.lst (ps.map V.str)) pl = some (.lst (ps.map V.str)):=zad
   revert S3 e3
   generalize upd Hc pl (.lst (ps.map V.str)) = H3
   intro S3 e3
   obtain ⟨p0,pr,rfl⟩:∃ p0 pr,ps = p0 :: pr:=by
    cases ps with
    | nil=>exact absurd rfl pn
    | cons x y=>exact ⟨x,y,rfl⟩
   have e3':H3 pl = some (.lst (V.str p0 :: pr.map V.str)):=e3
   have pa:∀ x ∈ p0 :: pr,Asc x∧x.length ≤ 2000000:=fun x hx=>⟨(p2 x hx).2 za,by have:=(p2 x hx).1; omega⟩
   have pl2:(p0 :: pr).length ≤ 2000000:=by omega
   have RD3:=RD.same S3
   have hP:=RD3.at_.top
   have el3:=S3 _ _ el
   have ln:=RD3.at_.len
   subst hG2
   by_cases cd:p0 = "def"
   ·subst cd
    refine zhm (fun Q2 h2=>by simp! [e3']; exact h2) ?_
    generalize hG3:tSeq (tIfS _ _ _) _ = tail3
    simp! []
    refine ⟨pl,_,rfl,e3,pl2,pa,rfl,fun d D d0 ed t' rlA H4 S4 nt nrl ntr et erl=>?_,fun no H4 S4=>?_⟩
    rotate_left
    ·subst hG3
     refine zbk (fun Q2 h2=>by simp! []; exact h2) ?_
     simp! []
     exact qn (nd rfl no) _ ((RD.sm.trans S3).trans S4)
    subst hG3
    refine zaN (fun Q2 h2=>by simp! []; exact h2) ?_
    have RD4:=RD3.same S4
    have hP4:=RD4.at_.top
    simp! [tBM]
    refine ⟨.inl ⟨rfl,_,.of hP4⟩,?_⟩
    have nr0:rlA ≠ PL:=fun z=>by rw [z,hP] at nrl; cases nrl
    have nr1:rlA ∉ das.map (·.2.1):=fun m=>by
     obtain ⟨a,ha,rfl⟩:=List.mem_map.mp m
     obtain ⟨_,_,_,g,_⟩:=RD3.has ha
     rw [g] at nrl; cases nrl
    have nrll:rlA ≠ ll:=fun z=>by rw [z,el3] at nrl; cases nrl
    have ez:z = zbj d:=by rw [← pj,ed]; rfl
    refine ⟨PL,_,_,rfl,rfl,RD4.at_.top,by rw [sizeLine_eq,List.length_map,ln]; omega,das ++ [(t',rlA,[])],_,RD4.snocD et erl (RD3.sm.free nrl) nr0 nr1,?_,?_,by rw [zat nll]; exact S4 _ _ el3,?_⟩
    ·rw [TK,zbc,ez]; rfl
    ·intro x hx
     rcases List.mem_append.mp hx with h | h
     ·exact GD x h
     ·rw [List.mem_singleton.mp h]; exact ⟨D.tk,D.gv,D.wd,fun r hr=>by cases hr⟩
    ·rw [List.map_append,List.mem_append]
     intro h
     rcases h with h | h
     ·exact nl h
     ·simp at h; exact nrll h.symm
   ·refine zgB (fun Q2 h2=>by simp! [e3',cd]; exact h2) ?_
    have cd':(p0 :: pr).head? ≠ some ("def":Str):=fun h=>cd (by simpa using h)
    generalize hG3:tSeq (tIfS _ _ _) _ = tail3
    simp! []
    refine ⟨pl,_,rfl,e3,by simp,pl2,pa,fun r R er rp H4 S4 ra=>?_,fun no H4 S4=>?_⟩
    rotate_left
    ·subst hG3
     refine zbk (fun Q2 h2=>by simp! []; exact h2) ?_
     simp! []
     exact qn (nr cd' (.inr no)) _ ((RD.sm.trans S3).trans S4)
    subst hG3
    have RD4:=RD3.same S4
    have hP4:=RD4.at_.top
    rcases List.eq_nil_or_concat qs with eq | ⟨q0,d,eq⟩
    ·subst eq
     have ed:das = []:=List.length_eq_zero_iff.mp ln
     subst ed
     have i0:i = 0:=by
      have:=congrArg List.length LN
      rw [List.length_take] at this
      have e0:(zak []).length = 0:=rfl
      omega
     refine zg4 (fun Q2 h2=>?_) fun H5 S5=>?_
     ·simp! []
      intro p5 n5
      refine ⟨_,by rw [zaj hP4 n5]; rfl,by rw [zaj hP4 n5]; rfl,?_⟩
      exact h2 _ (.laid n5)
     ·simp! []
      exact qn (nr cd' (.inl i0)) _ (((RD.sm.trans S3).trans S4).trans S5)
    ·rw [List.concat_eq_append] at eq
     subst eq
     obtain ⟨das0,da,eda⟩:∃ x y,das = x ++ [y]:=by
      rcases List.eq_nil_or_concat das with e | ⟨x,y,e⟩
      ·rw [e] at ln; simp at ln
      ·exact ⟨x,y,by rw [e,List.concat_eq_append]⟩
     subst eda
     have ln0:das0.length = q0.length:=by simpa using ln
     refine zgM (fun Q2 h2=>?_) fun H5 S5=>?_
     ·simp! []
      intro p5 n5
      refine ⟨_,by rw [zaj hP4 n5]; rfl,by rw [zaj hP4 n5]; rfl,?_⟩
      have:=h2 _ (.laid n5 (u:=.lst []))
      rw [show ((das0 ++ [da]).map fun a=>V.ref a.1).isEmpty = false by simp]
      exact this
     have RD5:=RD4.same S5
     have hP5:=RD5.at_.top
     have ra5:=ra.same S5
     obtain ⟨ga1,ga2⟩:=RD5.at_.def_ das0.length da d (by simp) (by rw [ln0]; simp)
     have al:atI ((das0 ++ [da]).map fun a=>V.ref a.1) (-1) = some (.ref da.1):=by rw [List.map_append]; exact zeZ _ _
     simp! [tBM,hP5]
     refine ⟨_,al,da.1,rfl,_,by rw [ga1]; rfl,.ref da.2.1,ze4,.inl ⟨rfl,_,.of ga2.top⟩,?_⟩
     have lrs:da.2.2.length = d.2.2.length:=ga2.len
     have ez:z = za4 r:=by rw [← pj,er]; rfl
     have lr:d.2.2.length ≤ (zak (q0 ++ [d])).length:=by
      rw [zbc,List.length_append]
      have:(zak [d]).length = d.2.2.length + 1:=by simp [zak,zaY]
      omega
     refine ⟨da.2.1,_,_,rfl,rfl,ga2.top,by rw [sizeLine_eq,List.length_map]; omega,das0 ++ [(da.1,da.2.1,da.2.2 ++ [rp])],_,RD5.snocR (y:=(d.1,d.2.1)) ra5,?_,?_,?_,?_⟩
     ·rw [TK,zbc,zbc,ez]
      simp [zak,zaY]
      rfl
     ·intro x hx
      rcases List.mem_append.mp hx with h | h
      ·exact GD x (List.mem_append_left _ h)
      ·rw [List.mem_singleton.mp h]
       have D:=GD d (by simp)
       exact ⟨D.tk,D.gv,D.wd,fun r' hr'=>by
        rcases List.mem_append.mp hr' with h | h
        ·exact D.rs r' h
        ·rw [List.mem_singleton.mp h]; exact R⟩
     ·rw [zat (fun z=>nl (by rw [z]; simp))]; exact S5 _ _ (S4 _ _ el3)
     ·have:=nl
      rw [List.map_append] at this ⊢
      exact this
  ·rintro σ Hc ⟨v2,v3,v4,v5,das,qs,rfl,RD,⟨LN,GD⟩,el,nl⟩
   rw [List.length_map,List.take_length] at LN
   subst hG
   simp! []
   refine q qs PL das Hc ⟨fun e=>?_,GD⟩ ?_ RD
   ·rw [e] at LN
    exact zba t 10 LN.symm
   ·have:=StrLaws.join_split t nl10
    rw [← LN] at this
    exact this.symm
end
section
variable {P:Program} {w:World} {K:PySem.W.Frag} {mg:Str->Option Value} {base:Heap} {a:Ad}
theorem zdL {c:Nat} {zs:List Str} (h:zs ≠ []):(Str.join ⟨#[c]⟩ zs).length + 1 = (zs.map (·.length)).sum + zs.length:=by
 cases zs with
 | nil=>exact absurd rfl h
 | cons x r =>
  have el:∀ y:Str,y.length = y.cps.toList.length:=fun y=>by rw [zaz,Array.length_toList]
  have:∀ l:List Str,(l.flatMap fun z=>c :: z.cps.toList).length = (l.map (·.length)).sum + l.length:=by
   intro l
   induction l with
   | nil=>rfl
   | cons y l ih=>rw [List.flatMap_cons,List.length_append,ih,List.map_cons,List.sum_cons,List.length_cons,List.length_cons,el y]; omega
  rw [el,L2.join_list,List.length_append,this,List.map_cons,List.sum_cons,List.length_cons,el x]
  omega
theorem zdn {n i:Nat} (h:i < n):ixN n (i:Int) = some i:=by
 unfold ixN
 rw [if_pos (by omega),if_pos (by omega)]
 simp
theorem sum_set:∀ (l:List Nat) (i x:Nat) (h:i < l.length),(l.set i x).sum + l[i] = l.sum + x
 | [],_,_,h=>by simp at h
 | y :: l,0,x,_=>by simp; omega
 | y :: l,i + 1,x,h=>by
  have:=sum_set l i x (by simpa using h)
  simp only [List.set_cons_succ,List.sum_cons,List.getElem_cons_succ]
  omega
theorem zi2 (xs:List V) (k:Nat):cutV xs none (some (k:Int)) = xs.take k:=by
 unfold cutV
 rw [HT.sIx_nat,HT.sIx_none,List.drop_zero,Nat.sub_zero]
 by_cases c:k ≤ xs.length
 ·rw [Nat.min_eq_left c]
 ·rw [Nat.min_eq_right (by omega),List.take_of_length_le (Nat.le_refl _),List.take_of_length_le (by omega)]
noncomputable def wS (zs:List Str):Nat:=(zs.map (·.length)).sum + zs.length
noncomputable def mS (zs:List Str):Nat:=(zs.map nls).sum
noncomputable def fS (zs:List Str):Nat:=mS zs + zs.length
theorem zcN (x y:List Str):wS (x ++ y) = wS x + wS y:=by simp [wS]; omega
theorem zdm (x y:List Str):mS (x ++ y) = mS x + mS y:=by simp [mS]
theorem zdb (x y:List Str):fS (x ++ y) = fS x + fS y:=by unfold fS; rw [zdm,List.length_append]; omega
theorem zhM (x:List Str) (k:Nat):wS (x.take k) + wS (x.drop k) = wS x:=by rw [← zcN,List.take_append_drop]
theorem zhT (x:List Str) (k:Nat):mS (x.take k) + mS (x.drop k) = mS x:=by rw [← zdm,List.take_append_drop]
theorem ziX (x:List Str) (k:Nat):fS (x.take k) + fS (x.drop k) = fS x:=by rw [← zdb,List.take_append_drop]
theorem zh7 {x y:List Str} (h:x.Sublist y):wS x ≤ wS y∧mS x ≤ mS y∧fS x ≤ fS y:=by
 have h1:(x.map (·.length)).sum ≤ (y.map (·.length)).sum∧(x.map nls).sum ≤ (y.map nls).sum:=by
  induction h with
  | slnil=>exact ⟨Nat.le_refl _,Nat.le_refl _⟩
  | cons a _ ih=>simp; omega
  | cons_cons a _ ih=>simp; omega
 have:=h.length_le
 unfold wS fS mS
 omega
theorem dr1 (x:List Str) (k:Nat):(x.drop (k + 1)).Sublist (x.drop k):=by
 rw [← List.drop_drop]
 exact List.drop_sublist _ _
theorem zdR {c:Nat} (zs:List Str):(Str.join ⟨#[c]⟩ zs).length ≤ wS zs:=by
 cases zs with
 | nil=>exact Nat.le_refl 0
 | cons x r=>have:=zdL (c:=c) (List.cons_ne_nil x r); unfold wS; omega
theorem zel (z:Str):nls z = z.cps.toList.count 10:=rfl
theorem zcE {c:Nat} (x:Str) (r:List Str):nls (Str.join ⟨#[c]⟩ (x :: r)) = mS (x :: r) + (if c = 10 then r.length else 0):=by
 have:∀ l:List Str,(l.flatMap fun z=>c :: z.cps.toList).count 10 = (l.map nls).sum + if c = 10 then l.length else 0:=by
  intro l
  induction l with
  | nil=>simp
  | cons y l ih =>
   rw [List.flatMap_cons,List.count_append,ih,List.map_cons,List.sum_cons,List.length_cons,List.count_cons,← zel]
   by_cases e:c = 10 <;> simp [e] <;> omega
 rw [zel,L2.join_list,List.count_append,this,← zel]
 unfold mS
 rw [List.map_cons,List.sum_cons]
 omega
theorem zja (zs:List Str):nls (Str.join sp32 zs) ≤ mS zs:=by
 cases zs with
 | nil=>exact Nat.le_refl 0
 | cons x r=>unfold sp32; rw [zcE]; simp
theorem zeC (zs:List Str):nls (Str.join nl10 zs) ≤ fS zs:=by
 cases zs with
 | nil=>exact Nat.le_refl 0
 | cons x r=>unfold nl10; rw [zcE]; unfold fS; simp
theorem zcU (z:Str) (c:Nat):wS (PySem.Txt.split z ⟨#[c]⟩) = z.length + 1:=by
 have h:=zba z c
 have e:Str.join ⟨#[c]⟩ (PySem.Txt.split z ⟨#[c]⟩) = z:=StrLaws.join_split z _
 have:=zdL (c:=c) h
 rw [e] at this
 exact this.symm
theorem zem (z:Str):fS (PySem.Txt.split z nl10) = nls z + 1:=by
 have h:PySem.Txt.split z nl10 ≠ []:=zba z 10
 have e:Str.join nl10 (PySem.Txt.split z nl10) = z:=StrLaws.join_split z _
 revert h e
 generalize PySem.Txt.split z nl10 = l
 intro h e
 cases l with
 | nil=>exact absurd rfl h
 | cons x r =>
  rw [← e]
  unfold nl10
  rw [zcE]
  unfold fS
  simp
  omega
theorem zfX (z:Str):mS (PySem.Txt.split z sp32) = nls z:=by
 have h:PySem.Txt.split z sp32 ≠ []:=zba z 32
 have e:Str.join sp32 (PySem.Txt.split z sp32) = z:=StrLaws.join_split z _
 revert h e
 generalize PySem.Txt.split z sp32 = l
 intro h e
 cases l with
 | nil=>exact absurd rfl h
 | cons x r =>
  rw [← e]
  unfold sp32
  rw [zcE]
  simp
theorem zhP {l:List Str} {i:Nat} (h:i < l.length):l[i].length + 1 ≤ wS l∧nls l[i] + 1 ≤ fS l:=by
 have h1:wS [l[i]] ≤ wS l∧_∧fS [l[i]] ≤ fS l:=zh7 (List.singleton_sublist.mpr (List.getElem_mem h))
 simp [wS,fS,mS] at h1
 unfold wS fS mS
 omega
theorem ziO {l:List Str} {i:Nat} {y:Str} (h:i < l.length):wS (l.set i y) ≤ wS l + y.length∧fS (l.set i y) ≤ fS l + nls y:=by
 have h1:=sum_set (l.map (·.length)) i y.length (by simpa using h)
 have h2:=sum_set (l.map nls) i (nls y) (by simpa using h)
 unfold wS fS mS
 rw [List.map_set,List.map_set,List.length_set]
 omega
theorem zbq {c:TT} {t e u:TS} {D:Ends} {σ:St} {H:Hp} (hc:∀ Q,Q true H->c σ H Q) (h:∀ nx:St->Hp->Prop,(∀ σ' H',u D σ' H'->nx σ' H')->t { D with nx:=nx } σ H):tSeq (tIfS c t e) u D σ H:=zbk hc (h _ fun _ _ g=>g)
theorem bNe {v0:Option V} {vr:St} {pk:Addr} {a0 c:Int} {us:List V} {H:Hp} {Q:Bool->Hp->Prop} (hk:H pk = some (.lst (V.int a0 :: us))) (n:a0 ≠ c) (h:Q false H):zf0 (tOp rEq (tOp rIxF (tVar 1) (tC (V.int 0))) (tC (V.int c))) (v0 :: some (V.ref pk) :: vr) H Q:=by
 simp! [hk,n]
 exact h
theorem bYes {v0:Option V} {vr:St} {pk:Addr} {c:Int} {us:List V} {H:Hp} {Q:Bool->Hp->Prop} (hk:H pk = some (.lst (V.int c :: us))) (h:Q true H):zf0 (tOp rEq (tOp rIxF (tVar 1) (tC (V.int 0))) (tC (V.int c))) (v0 :: some (V.ref pk) :: vr) H Q:=by
 simp! [hk]
 exact h
end
section
variable {P:Program} {w:World} {K:PySem.W.Frag} {mg:Str->Option Value} {base:Heap} {a:Ad}
noncomputable def sp_blines:Sp:=fun vs H Q _=>∃ (pk:Addr) (z:Str) (a0 a1 a2 a3:Int),vs = [.str z,.ref pk]∧H pk = some (.lst [.int a0,.int a1,.int a2,.int a3])∧0 ≤ a1∧0 ≤ a2∧a2 < 64∧0 ≤ a3∧a3 < 33∧Asc z∧z.length ≤ 900000∧∀ (y:Str) (H':Hp),Asc y->y.length ≤ 2 * z.length + 700->nls y ≤ 2 * nls z + 130->Same H H'->Q (.str y) H'
structure LnOk (z:Str) (ls:List Str):Prop where
 asc:∀ p ∈ ls,Asc p
 w:wS ls ≤ 2 * z.length + 690
 f:fS ls ≤ 2 * nls z + 128
noncomputable def w12:List Str:=["n","h","-","","def","rest","call","0","7","-1","table","00"]
noncomputable def wds:List Str:=w12 ++ LW.map (·.1)
theorem wds_ok:wds.length = 33∧∀ y ∈ wds,Asc y∧y.length ≤ 5:=by
 refine ⟨by decide +kernel,fun y hy=>?_⟩
 have:wds.all (fun y=>(y.cps.all (· < 128)) && decide (y.length ≤ 5)) = true:=by decide +kernel
 have h:=List.all_eq_true.mp this y hy
 rw [Bool.and_eq_true] at h
 exact ⟨h.1,of_decide_eq_true h.2⟩
theorem zbB {c:Nat} (hc:c < 128) {zs:List Str} (h:∀ p ∈ zs,Asc p):Asc (Str.join ⟨#[c]⟩ zs):=zaO.mpr fun x hx=>by
 rcases zcz hx with rfl | ⟨p,hp,hx⟩
 ·exact hc
 ·exact zaO.mp (h p hp) x hx
theorem zb4 {H:Hp} {l:Addr} {zs:List Str} {k:Nat} {Q:VK} (h:H l = some (.lst (zs.map V.str))) (q:∀ p H',Same H H'->H' p = some (.lst ((zs.take k).map V.str))->Q (.ref p) H'):rSlL K (.ref l) none (some (k:Int)) H Q :=
 ⟨l,_,rfl,.of h,fun p np=>by rw [zi2,← List.map_take]; exact q p _ (.laid np) zad⟩
theorem zbR {H:Hp} {l:Addr} {zs:List Str} {k:Nat} {Q:VK} (h:H l = some (.lst (zs.map V.str))) (q:∀ p H',Same H H'->H' p = some (.lst ((zs.drop k).map V.str))->Q (.ref p) H'):rSlL K (.ref l) (some (k:Int)) none H Q :=
 ⟨l,_,rfl,.of h,fun p np=>by rw [zbL,← List.map_drop]; exact q p _ (.laid np) zad⟩
theorem zcu {H:Hp} {l b:Addr} {xs ys:List Str} {Q:VK} (h1:H l = some (.lst (xs.map V.str))) (h2:H b = some (.lst (ys.map V.str))) (n:xs.length + ys.length ≤ 8000000) (q:∀ p H',Same H H'->H' p = some (.lst ((xs ++ ys).map V.str))->Q (.ref p) H'):rCat (.ref l) (.ref b) H Q :=
 ⟨l,b,_,_,rfl,rfl,h1,h2,by rw [sizeLine_eq,List.length_map,List.length_map]; omega,fun p np=>by rw [← List.map_append]; exact q p _ (.laid np) zad⟩
theorem zfC {H:Hp} {l:Addr} {xs:List Str} {y:Str} {Q:VK} (h1:H l = some (.lst (xs.map V.str))) (n:xs.length ≤ 7000000) (q:∀ p H',Same H H'->H' p = some (.lst ((xs ++ [y]).map V.str))->Q (.ref p) H'):∀ p,H p = none->rCat (.ref l) (.ref p) (upd H p (.lst [V.str y])) Q :=
 fun p np=>zcu (ys:=[y]) (zaj h1 np) zad (by simp; omega) fun p' H' S e=>q p' H' ((Same.laid np).trans S) e
theorem zdY (y:Str):wS [y] = y.length + 1∧fS [y] = nls y + 1∧mS [y] = nls y:=by simp [wS,fS,mS]
theorem zd5 {y:Str} (h:Asc y):∀ p ∈ [y],Asc p:=fun p hp=>by rw [List.mem_singleton.mp hp]; exact h
theorem zex {H:Hp} {l:Addr} {zs:List Str} {Q:VK} (h:H l = some (.lst (zs.map V.str))) (n:wS zs ≤ 8000000) (q:Q (.str (Str.join sp32 zs)) H):rJoin (.str (Str.ofString " ")) [.ref l] H Q:=by
 have e:PySem.Txt.join sp32 zs = Str.join sp32 zs:=StrLaws.glued_eq_join _ _
 refine ⟨sp32,l,zs,by rw [show Str.ofString " " = sp32 by decide],rfl,h,?_,by rw [e]; exact q⟩
 have e:sp32.length = 1:=rfl
 have w1:(zs.map (·.length)).sum + zs.length = wS zs:=rfl
 rw [e]; omega
theorem zhF {c:Prop} [Decidable c] {H:Hp} {Q:VK} (q:∀ y:Str,Asc y->y.length ≤ 1->Q (.str y) H):rMulS (.str (Str.ofString "\n")) (.int (if c then 1 else 0)) H Q:=by
 by_cases h:c
 ·rw [if_pos h]
  exact ⟨_,_,rfl,rfl,by decide,by decide,by rw [sizeLine_eq]; decide +kernel,q _ (by decide +kernel) (by decide +kernel)⟩
 ·rw [if_neg h]
  exact ⟨_,_,rfl,rfl,by decide,by decide,by rw [sizeLine_eq]; decide +kernel,q _ (by decide +kernel) (by decide +kernel)⟩
theorem zge {ls:List Str} {i j:Nat} (A:∀ p ∈ ls,Asc p):∀ p ∈ ls.take i ++ ls.drop j,Asc p:=fun p hp=>by
 rcases List.mem_append.mp hp with h | h
 ·exact A _ (List.mem_of_mem_take h)
 ·exact A _ (List.mem_of_mem_drop h)
theorem zcm {ls ys:List Str} {i j:Nat} (A:∀ p ∈ ls,Asc p) (B:∀ p ∈ ys,Asc p):∀ p ∈ ls.take i ++ ys ++ ls.drop j,Asc p:=fun p hp=>by
 rcases List.mem_append.mp hp with h | h
 ·rcases List.mem_append.mp h with h | h
  ·exact A _ (List.mem_of_mem_take h)
  ·exact B _ h
 ·exact A _ (List.mem_of_mem_drop h)
theorem td1 (ls:List Str) (i:Nat):wS (ls.take i ++ ls.drop (i + 1)) ≤ wS ls∧fS (ls.take i ++ ls.drop (i + 1)) ≤ fS ls∧mS (ls.take i ++ ls.drop (i + 1)) ≤ mS ls:=by
 have h:=zh7 (dr1 ls i)
 have:=zhM ls i
 have:=ziX ls i
 have:=zhT ls i
 rw [zcN,zdb,zdm]
 omega
theorem td3 (ls ys:List Str) (i j:Nat) (h:j = i ∨ j = i + 1):wS (ls.take i ++ ys ++ ls.drop j) ≤ wS ls + wS ys∧fS (ls.take i ++ ys ++ ls.drop j) ≤ fS ls + fS ys∧mS (ls.take i ++ ys ++ ls.drop j) ≤ mS ls + mS ys:=by
 have h':wS (ls.drop j) ≤ wS (ls.drop i)∧mS (ls.drop j) ≤ mS (ls.drop i)∧fS (ls.drop j) ≤ fS (ls.drop i):=by
  rcases h with rfl | rfl
  ·exact ⟨Nat.le_refl _,Nat.le_refl _,Nat.le_refl _⟩
  ·exact zh7 (dr1 ls i)
 have:=zhM ls i
 have:=ziX ls i
 have:=zhT ls i
 rw [zcN,zdb,zdm,zcN,zdb,zdm]
 omega
theorem rests (m:Nat):wS (List.replicate m ("rest":Str)) = 5 * m∧fS (List.replicate m ("rest":Str)) = m:=by
 have h1:("rest":Str).length = 4:=by decide
 have h2:nls ("rest":Str) = 0:=by decide +kernel
 unfold wS fS mS
 rw [List.map_replicate,List.map_replicate,h1,h2]
 simp
 omega
theorem zeK {z y:Str} {ls:List Str} {i:Nat} (il:i < ls.length) (A:∀ p ∈ ls,Asc p) (sw:wS ls = z.length + 1) (sf:fS ls = nls z + 1) (ay:Asc y) (wy:y.length ≤ ls[i].length + 20) (fy:nls y ≤ nls ls[i] + 20):LnOk z (ls.set i y):=by
 have h1:=ziO (y:=y) il
 have h2:=zhP il
 refine ⟨fun p hp=>?_,by omega,by omega⟩
 rcases List.mem_or_eq_of_mem_set hp with h | h
 ·exact A _ h
 ·rw [h]; exact ay
theorem jn_w {zs:List Str} {y:Str} (e:y = Str.join sp32 zs) {n m:Nat} (h:wS zs ≤ n) (h':mS zs ≤ m):y.length ≤ n∧nls y ≤ m:=by
 subst e
 have:=zdR (c:=32) zs
 have:=zja zs
 unfold sp32 at *
 omega
set_option maxHeartbeats 8000000 in
theorem zcd (T:Txt K mg a):FnOk P w K mg base (CX1 P w) 2 a.f_law_bent_lines a.d_law_bent_lines ["text","pick"] sp_blines:=by
 refine T.F_law_bent_lines.okC sc_law_bent_lines (fun vs H Q E h=>?_) (fun cdv A outer s H vs Q E hr h=>?_)
 ·obtain ⟨pk,z,a0,a1,a2,a3,rfl,_⟩:=h
  rfl
 ·obtain ⟨pk,z,a0,a1,a2,a3,rfl,hk,h1,h2,h2',h3,h3',az,zl,q⟩:=h
  have hu:=za0 hr
  refine ⟨_,(@zab _ _ _ _ _ (zal (i:=2) sc_law_bent_lines.nd (by rfl) (Or.inl rfl) (zaR PySem.F.plainAttrs_str PySem.F.slot_str_split PySem.F.type_str_split mt_split (pv 0) (@zaV _ _ _ _ _ _ pa_nil)))
   (@zab _ _ _ _ _ (zal (i:=3) sc_law_bent_lines.nd (by rfl) (Or.inl rfl) (zam op_mod (zar ix_F (pv 1) zac (fun _ _=>rfl)) (zao call_lenF (by rfl) T.z_len (by decide +kernel) (@zaX _ _ _ _ _ _ (pv 2) pa_nil))))
   (@zab _ _ _ _ _ (zal (i:=4) sc_law_bent_lines.nd (by rfl) (Or.inl rfl) (zaR PySem.F.plainAttrs_str PySem.F.slot_str_split PySem.F.type_str_split mt_split (zar ix_F (pv 2) (pv 3) (fun _ _=>rfl)) (@zaV _ _ _ _ _ _ pa_nil)))
   (@zab _ _ _ _ _ (zal (i:=5) sc_law_bent_lines.nd (by rfl) (Or.inl rfl) (zam op_mod (zar ix_F (pv 1) zac (fun _ _=>rfl)) (zam op_add (zao call_lenF (by rfl) T.z_len (by decide +kernel) (@zaX _ _ _ _ _ _ (pv 4) pa_nil)) zac)))
   (@zab _ _ _ _ _ (@zhN _ 6 _ _ _ _ _ _ sc_law_bent_lines.nd (by rfl) (Or.inl rfl) (@zaV _ _ _ _ _ _ (@zaV _ _ _ _ _ _ (@zaV _ _ _ _ _ _ (@zaV _ _ _ _ _ _ (@zaV _ _ _ _ _ _ (@zaV _ _ _ _ _ _ (@zaV _ _ _ _ _ _ (@zaV _ _ _ _ _ _ (@zaV _ _ _ _ _ _ (@zaV _ _ _ _ _ _ (@zaV _ _ _ _ _ _ (@zaV _ _ _ _ _ _ pa_nil)))))))))))) (by first | exact .inl (by rfl) | exact .inr (by rfl) | assumption))
   (@zab _ _ _ _ _ (zal (i:=7) sc_law_bent_lines.nd (by rfl) (Or.inl rfl) (zar ix_F (zam op_cat (pv 6) (zax (zbs (by rfl)) (by rfl) T.z_list (by decide +kernel) (zaa (zbM (zaT T) (hr.mono (by decide)) (by rfl) T.m_law_letters T.F_law_letters.kp T.b_law_letters .nil zau) pa_nil))) (zar ix_F (pv 1) zac (fun _ _=>rfl)) (fun _ _=>rfl)))
   (@zab _ _ _ _ _ (@zay _ _ _ _ _ _ _ _ (zai op_eq (zar ix_F (pv 1) zac (fun _ _=>rfl)) zac (zan _)) (@zae _ _ _ (zal (i:=2) sc_law_bent_lines.nd (by rfl) (Or.inl rfl) (zam op_cat (zas sl_list (pv 2) po_none (zaw (pv 3))) (zas sl_list (pv 2) (zaw (zam op_add (pv 3) zac)) po_none)))) pss_nil)
   (@zab _ _ _ _ _ (@zay _ _ _ _ _ _ _ _ (zai op_eq (zar ix_F (pv 1) zac (fun _ _=>rfl)) zac (zan _)) (@zab _ _ _ _ _ (zal (i:=8) sc_law_bent_lines.nd (by rfl) (Or.inl rfl) (zam op_cat (zas sl_list (pv 2) po_none (zaw (pv 3))) (zas sl_list (pv 2) (zaw (zam op_add (pv 3) zac)) po_none)))
   (@zab _ _ _ _ _ (zal (i:=9) sc_law_bent_lines.nd (by rfl) (Or.inl rfl) (zam op_mod (zar ix_F (pv 1) zac (fun _ _=>rfl)) (zao call_lenF (by rfl) T.z_len (by decide +kernel) (@zaX _ _ _ _ _ _ (pv 2) pa_nil))))
   (@zae _ _ _ (zal (i:=2) sc_law_bent_lines.nd (by rfl) (Or.inl rfl) (zam op_cat (zam op_cat (zas sl_list (pv 8) po_none (zaw (pv 9))) (zaC (zaa (zar ix_F (pv 2) (pv 3) (fun _ _=>rfl)) pa_nil))) (zas sl_list (pv 8) (zaw (pv 9)) po_none)))))) pss_nil)
   (@zab _ _ _ _ _ (@zay _ _ _ _ _ _ _ _ (zai op_eq (zar ix_F (pv 1) zac (fun _ _=>rfl)) zac (zan _)) (@zae _ _ _ (zal (i:=2) sc_law_bent_lines.nd (by rfl) (Or.inl rfl) (zam op_cat (zam op_cat (zas sl_list (pv 2) po_none (zaw (pv 3))) (zaC (zaa (zar ix_F (pv 2) (pv 3) (fun _ _=>rfl)) pa_nil))) (zas sl_list (pv 2) (zaw (pv 3)) po_none)))) pss_nil)
   (@zab _ _ _ _ _ (@zay _ _ _ _ _ _ _ _ (zai op_eq (zar ix_F (pv 1) zac (fun _ _=>rfl)) zac (zan _)) (@zae _ _ _ (zbQ (zaR PySem.F.plainAttrs_str PySem.F.slot_str_join PySem.F.type_str_join mt_join zaf (zaa (zam op_cat (zam op_cat (zas sl_list (pv 4) po_none (zaw (pv 5))) (zaC (@zaX _ _ _ _ _ _ (pv 7) pa_nil))) (zas sl_list (pv 4) (zaw (pv 5)) po_none)) pa_nil)) (zca (pv 2) (pv 3) set_list))) pss_nil)
   (@zab _ _ _ _ _ (@zay _ _ _ _ _ _ _ _ (zai op_eq (zar ix_F (pv 1) zac (fun _ _=>rfl)) zac (zan _)) (@zae _ _ _ (zbQ (zaR PySem.F.plainAttrs_str PySem.F.slot_str_join PySem.F.type_str_join mt_join zaf (zaa (zam op_cat (zas sl_list (pv 4) po_none (zaw (pv 5))) (zas sl_list (pv 4) (zaw (zam op_add (pv 5) zac)) po_none)) pa_nil)) (zca (pv 2) (pv 3) set_list))) pss_nil)
   (@zab _ _ _ _ _ (@zay _ _ _ _ _ _ _ _ (zai op_eq (zar ix_F (pv 1) zac (fun _ _=>rfl)) zac (zan _)) (@zae _ _ _ (zbQ (zaR PySem.F.plainAttrs_str PySem.F.slot_str_join PySem.F.type_str_join mt_join zaf (zaa (zam op_cat (zam op_cat (zas sl_list (pv 4) po_none (zaw (pv 5))) (zaC (@zaX _ _ _ _ _ _ (pv 7) pa_nil))) (zas sl_list (pv 4) (zaw (zam op_add (pv 5) zac)) po_none)) pa_nil)) (zca (pv 2) (pv 3) set_list))) pss_nil)
   (@zab _ _ _ _ _ (@zay _ _ _ _ _ _ _ _ (zai op_eq (zar ix_F (pv 1) zac (fun _ _=>rfl)) zac (zan _)) (@zab _ _ _ _ _ (zal (i:=10) sc_law_bent_lines.nd (by rfl) (Or.inl rfl) (zam op_add (zam op_mul zac (zar ix_F (pv 1) zac (fun _ _=>rfl))) (zam op_mod (zar ix_F (pv 1) zac (fun _ _=>rfl)) zac)))
   (@zae _ _ _ (zal (i:=2) sc_law_bent_lines.nd (by rfl) (Or.inl rfl) (zam op_cat (zam op_cat (zas sl_list (pv 2) po_none (zaw (zam op_add (pv 3) zac))) (zam op_rep (zaC (@zaV _ _ _ _ _ _ pa_nil)) (pv 10))) (zas sl_list (pv 2) (zaw (zam op_add (pv 3) zac)) po_none))))) pss_nil)
   (@zae _ _ _ (zaq (zam op_add_str (zam op_add_str (zam op_mulS zaf (zax call_int1 (by rfl) T.z_int (by decide +kernel) (zaa (za6 op_eq (zar ix_F (pv 1) zac (fun _ _=>rfl)) zac (zan _)) pa_nil))) (zaR PySem.F.plainAttrs_str PySem.F.slot_str_join PySem.F.type_str_join mt_join zaf (@zaX _ _ _ _ _ _ (pv 2) pa_nil))) (zam op_mulS zaf (zax call_int1 (by rfl) T.z_int (by decide +kernel) (zaa (za6 op_eq (zar ix_F (pv 1) zac (fun _ _=>rfl)) zac (zan _)) pa_nil))))))))))))))))))),?_⟩
  obtain ⟨g1,g2⟩:=za2 (z:=z) (c:=10)
  have ne:=zba z 10
  have sw:=zcU z 10
  have sf:=zem z
  generalize hG:tSeq (tAsg _ (zbn 3)) _ = tail
  simp! [tBM]
  refine ⟨rfl,z,nl10,rfl,by rw [show Str.ofString "\n" = nl10 by decide],rfl,by rw [sizeLine_eq]; omega,by rw [sizeLine_eq]; unfold nl10; omega,fun l nl=>?_⟩
  have g1:(PySem.Txt.split z nl10).length ≤ z.length + 1:=g1
  have g2:∀ p ∈ PySem.Txt.split z nl10,p.length ≤ z.length∧(Asc z->Asc p):=g2
  have ne:PySem.Txt.split z nl10 ≠ []:=ne
  have sw:wS (PySem.Txt.split z nl10) = z.length + 1:=sw
  revert g1 g2 ne sw sf
  generalize PySem.Txt.split z nl10 = ls
  intro sf g1 g2 ne sw
  have hk1:=zaj (u:=.lst (ls.map V.str)) hk nl
  have e1:upd H l (.lst (ls.map V.str)) l = some (.lst (ls.map V.str)):=zad
  have S1:Same H (upd H l (.lst (ls.map V.str))):=.laid nl
  revert hk1 e1 S1
  generalize upd H l (.lst (ls.map V.str)) = H1
  intro hk1 e1 S1
  have n0:0 < ls.length:=List.length_pos_iff.mpr ne
  have lf:lenF (.ref l) H1 = some ls.length:=by rw [zcC,e1]; show some _ = some _; rw [List.length_map]
  subst hG
  generalize hG:tSeq (tAsg _ (zbn 4)) _ = tail
  simp! []
  refine ⟨_,by rw [hk1]; rfl,_,zdC,_,lf,a1,rfl,by omega,?_⟩
  have i0:0 ≤ a1 % (ls.length:Int):=Int.emod_nonneg _ (by omega)
  have i1:a1 % (ls.length:Int) < ls.length:=Int.emod_lt_of_pos _ (by omega)
  obtain ⟨i,hi⟩:=Int.eq_ofNat_of_zero_le i0
  rw [hi] at i1 ⊢
  have il:i < ls.length:=by omega
  have gi:=List.getElem?_eq_getElem il
  have ai:atI (ls.map V.str) (i:Int) = some (.str ls[i]):=zaQ (by rw [List.getElem?_map,gi]; rfl)
  subst hG
  generalize hG:tSeq (tAsg _ (zbn 5)) _ = tail
  have gg:=g2 _ (List.getElem_mem il)
  obtain ⟨k1,k2⟩:=za2 (z:=ls[i]) (c:=32)
  have kw:=zcU ls[i] 32
  have kf:=zfX ls[i]
  simp! [tBM,e1,ai]
  refine ⟨rfl,ls[i],sp32,rfl,by rw [show Str.ofString " " = sp32 by decide],rfl,by rw [sizeLine_eq]; omega,by rw [sizeLine_eq]; unfold sp32; omega,fun so ns=>?_⟩
  have k1:(PySem.Txt.split ls[i] sp32).length ≤ ls[i].length + 1:=k1
  have k2:∀ p ∈ PySem.Txt.split ls[i] sp32,p.length ≤ ls[i].length∧(Asc ls[i]->Asc p):=k2
  have kw:wS (PySem.Txt.split ls[i] sp32) = ls[i].length + 1:=kw
  revert k1 k2 kw kf
  generalize PySem.Txt.split ls[i] sp32 = ks
  intro kf k1 k2 kw
  have hk2:=zaj (u:=.lst (ks.map V.str)) hk1 ns
  have e2l:=zaj (u:=.lst (ks.map V.str)) e1 ns
  have e2:upd H1 so (.lst (ks.map V.str)) so = some (.lst (ks.map V.str)):=zad
  have S2:=S1.step ns (u:=.lst (ks.map V.str))
  revert hk2 e2l e2 S2
  generalize upd H1 so (.lst (ks.map V.str)) = H2
  intro hk2 e2l e2 S2
  have lf2:lenF (.ref so) H2 = some ks.length:=by rw [zcC,e2]; show some _ = some _; rw [List.length_map]
  subst hG
  generalize hG:tSeq (tAsg _ (zbn 6)) _ = tail
  simp! []
  refine ⟨_,by rw [hk2]; rfl,_,zdZ,_,lf2,a2,rfl,by omega,?_⟩
  have j0:0 ≤ a2 % ((ks.length:Int) + 1):=Int.emod_nonneg _ (by omega)
  obtain ⟨k,hj⟩:=Int.eq_ofNat_of_zero_le j0
  rw [hj]
  subst hG
  generalize hG:tSeq (tAsg _ (zbn 7)) _ = tail
  simp! []
  intro wl nw
  have hk3:=zaj (u:=.lst (w12.map V.str)) hk2 nw
  have e3l:=zaj (u:=.lst (w12.map V.str)) e2l nw
  have e3s:=zaj (u:=.lst (w12.map V.str)) e2 nw
  have e3:upd H2 wl (.lst (w12.map V.str)) wl = some (.lst (w12.map V.str)):=zad
  have S3:=S2.step nw (u:=.lst (w12.map V.str))
  revert hk3 e3l e3s e3 S3
  have ew:upd H2 wl (.lst (w12.map V.str)) = upd H2 wl (.lst [V.str "n",V.str "h",V.str "-",V.str "",V.str "def",V.str "rest",V.str "call",V.str "0",V.str "7",V.str "-1",V.str "table",V.str "00"]):=rfl
  rw [ew]
  generalize upd H2 wl _ = H3
  intro hk3 e3l e3s e3 S3
  clear ew
  subst hG
  generalize hG:tSeq (tIfS _ _ _) _ = tail
  simp! []
  refine ⟨rfl,fun d H4 S4 nd hd=>⟨d,rfl,_,hd,fun ll nll=>?_⟩⟩
  rw [LET_keys]
  refine ⟨wl,ll,_,_,rfl,rfl,zaj (S4 _ _ e3) nll,zad,by rw [sizeLine_eq,List.length_map,List.length_map]; decide +kernel,fun cl nc=>?_⟩
  have ew:w12.map V.str ++ LW.map (fun p=>V.str p.1) = wds.map V.str:=by unfold wds; rw [List.map_append,List.map_map]; rfl
  rw [ew]
  have hk5:=zaj (u:=.lst (wds.map V.str)) (zaj (u:=.lst (LW.map fun p=>V.str p.1)) (S4 _ _ hk3) nll) nc
  have e5l:=zaj (u:=.lst (wds.map V.str)) (zaj (u:=.lst (LW.map fun p=>V.str p.1)) (S4 _ _ e3l) nll) nc
  have e5s:=zaj (u:=.lst (wds.map V.str)) (zaj (u:=.lst (LW.map fun p=>V.str p.1)) (S4 _ _ e3s) nll) nc
  have e5:upd (upd H4 ll (.lst (LW.map fun p=>V.str p.1))) cl (.lst (wds.map V.str)) cl = some (.lst (wds.map V.str)):=zad
  have S5:=((S3.trans S4).step nll (u:=.lst (LW.map fun p=>V.str p.1))).step nc (u:=.lst (wds.map V.str))
  revert hk5 e5l e5s e5 S5
  generalize upd (upd H4 ll (.lst (LW.map fun p=>V.str p.1))) cl (.lst (wds.map V.str)) = H5
  intro hk5 e5l e5s e5 S5
  obtain ⟨n,rfl⟩:=Int.eq_ofNat_of_zero_le h3
  have nw':n < wds.length:=by rw [wds_ok.1]; omega
  have wok:=wds_ok.2 _ (List.getElem_mem nw')
  have aw:atI (wds.map V.str) (n:Int) = some (.str wds[n]):=zaQ (by rw [List.getElem?_map,List.getElem?_eq_getElem nw']; rfl)
  refine ⟨_,by rw [hk5]; rfl,_,ze4,cl,rfl,n,rfl,_,by rw [e5]; rfl,_,aw,?_⟩
  revert wok
  generalize wds[n] = wd
  intro wok
  subst hG
  clear e5 aw nw' hd nd ew e3 e3l e3s hk3 S3 S4 nc nll hk2 e2l e2 S2 lf2 hk1 e1 S1 lf nw ns
  generalize hR:tRet _ = ret
  have FIN:∀ (ms:List Str) (l':Addr) (H':Hp) (vr:St),LnOk z ms->H' l' = some (.lst (ms.map V.str))->H' pk = some (.lst [.int a0,.int a1,.int a2,.int n])->Same H H'->ret { nx:=fun x H'=>Q V.non H',rt:=Q } (some (V.str z) :: some (V.ref pk) :: some (V.ref l') :: vr) H':=by
   intro ms l' H' vr ok e1 hk1 S1
   subst hR
   simp! [tBM,hk1]
   obtain ⟨oa,ow,of_⟩:=ok
   have w1:(ms.map (·.length)).sum + ms.length = wS ms:=rfl
   have e:PySem.Txt.join nl10 ms = Str.join nl10 ms:=StrLaws.glued_eq_join _ _
   have l1:=zdR (c:=10) ms
   have l2:=zeC ms
   have l1:(Str.join nl10 ms).length ≤ wS ms:=l1
   refine zhF fun y1 a1' b1=>⟨rfl,nl10,l',ms,by rw [show Str.ofString "\n" = nl10 by decide],rfl,e1,?_,?_⟩
   ·have e:nl10.length = 1:=rfl
    rw [e]; omega
   rw [e]
   refine ⟨y1,rfl,_,rfl,by omega,_,by rw [hk1]; rfl,_,zc4,rfl,zhF fun y2 a2' b2=>⟨_,rfl,?_,?_⟩⟩
   ·rw [za1]; omega
   refine q _ H' (zbf (zbf a1' (zbB (by decide) oa)) a2') ?_ ?_ S1
   ·rw [za1,za1]; omega
   ·have:=zcZ y1
    have:=zcZ y2
    rw [zbU,zbU]; omega
  have A:∀ p ∈ ls,Asc p:=fun p hp=>(g2 p hp).2 az
  have AK:∀ p ∈ ks,Asc p:=fun p hp=>(k2 p hp).2 (A _ (List.getElem_mem il))
  have gl:=zhP il
  have bt:∀ (xs:List Str) k,(xs.take k).length ≤ xs.length:=fun xs k=>by rw [List.length_take]; omega
  have bd:∀ (xs:List Str) k,(xs.drop k).length ≤ xs.length:=fun xs k=>by rw [List.length_drop]; omega
  by_cases c5:a0 = 5
  ·subst c5
   refine zbq (fun Q2 h2=>bYes hk5 h2) fun nx hnx=>?_
   simp! [tSl,zbv,tNoPart]
   have:=bt ls i
   have:=bd ls (i + 1)
   refine zb4 e5l fun p1 H6 S6 e6=>zbR (k:=i + 1) (S6 _ _ e5l) fun p2 H7 S7 e7=>zcu (S7 _ _ e6) e7 (by omega) fun p3 H8 S8 e8=>hnx _ _ ?_
   have hk8:=S8 _ _ (S7 _ _ (S6 _ _ hk5))
   repeat refine zaN (fun Q2 h2=>bNe hk8 (by decide) h2) ?_
   have:=td1 ls i
   exact FIN _ _ _ _ ⟨zge A,by omega,by omega⟩ e8 hk8 (((S5.trans S6).trans S7).trans S8)
  refine zaN (fun Q2 h2=>bNe hk5 c5 h2) ?_
  by_cases c6:a0 = 6
  ·subst c6
   refine zbq (fun Q2 h2=>bYes hk5 h2) fun nx hnx=>?_
   simp! [tSl,zbv,tNoPart]
   have:=bt ls i
   have:=bd ls (i + 1)
   refine zb4 e5l fun p1 H6 S6 e6=>zbR (k:=i + 1) (S6 _ _ e5l) fun p2 H7 S7 e7=>zcu (S7 _ _ e6) e7 (by omega) fun p3 H8 S8 e8=>?_
   have S8':=((S5.trans S6).trans S7).trans S8
   have hk8:=S8' _ _ hk
   have l8:=S8 _ _ (S7 _ _ (S6 _ _ e5l))
   have lo:lenO (H8 l) = some ls.length:=by rw [l8]; show some _ = some _; rw [List.length_map]
   refine ⟨_,by rw [hk8]; rfl,_,zdZ,_,lo,a2,rfl,by omega,?_⟩
   have o0:0 ≤ a2 % (ls.length:Int):=Int.emod_nonneg _ (by omega)
   obtain ⟨o,ho⟩:=Int.eq_ofNat_of_zero_le o0
   rw [ho]
   have td:=td1 ls i
   have ta:=zge (i:=i) (j:=i + 1) A
   have rl:(ls.take i ++ ls.drop (i + 1)).length ≤ 2 * ls.length:=by rw [List.length_append]; omega
   revert td ta rl e8
   generalize ls.take i ++ ls.drop (i + 1) = rs
   intro e8 td ta rl
   have:=bt rs o
   have:=bd rs o
   refine zb4 e8 fun p4 H9 S9 e9=>⟨_,by rw [S9 _ _ l8]; rfl,_,ai,zfC e9 (by omega) fun p5 H10 S10 e10=>zbR (S10 _ _ (S9 _ _ e8)) fun p6 H11 S11 e11=>zcu (S11 _ _ e10) e11 (by rw [List.length_append]; simp only [List.length_cons,List.length_nil]; omega) fun p7 H12 S12 e12=>hnx _ _ ?_⟩
   have SZ:=(((S8'.trans S9).trans S10).trans S11).trans S12
   have hkz:=SZ _ _ hk
   repeat refine zaN (fun Q2 h2=>bNe hkz (by decide) h2) ?_
   have h3:=td3 rs [ls[i]] o o (.inl rfl)
   have h1:=zdY ls[i]
   exact FIN _ _ _ _ ⟨zcm ta (zd5 (A _ (List.getElem_mem il))),by omega,by omega⟩ e12 hkz SZ
  refine zaN (fun Q2 h2=>bNe hk5 c6 h2) ?_
  by_cases c7:a0 = 7
  ·subst c7
   refine zbq (fun Q2 h2=>bYes hk5 h2) fun nx hnx=>?_
   simp! [tSl,zbv,tNoPart]
   have:=bt ls i
   have:=bd ls i
   refine zb4 e5l fun p1 H6 S6 e6=>⟨_,by rw [S6 _ _ e5l]; rfl,_,ai,zfC e6 (by omega) fun p2 H7 S7 e7=>zbR (S7 _ _ (S6 _ _ e5l)) fun p3 H8 S8 e8=>zcu (S8 _ _ e7) e8 (by rw [List.length_append]; simp only [List.length_cons,List.length_nil]; omega) fun p4 H9 S9 e9=>hnx _ _ ?_⟩
   have SZ:=(((S5.trans S6).trans S7).trans S8).trans S9
   have hkz:=SZ _ _ hk
   repeat refine zaN (fun Q2 h2=>bNe hkz (by decide) h2) ?_
   have h3:=td3 ls [ls[i]] i i (.inl rfl)
   have h1:=zdY ls[i]
   exact FIN _ _ _ _ ⟨zcm A (zd5 (A _ (List.getElem_mem il))),by omega,by omega⟩ e9 hkz SZ
  refine zaN (fun Q2 h2=>bNe hk5 c7 h2) ?_
  by_cases c8:a0 = 8
  ·subst c8
   refine zbq (fun Q2 h2=>bYes hk5 h2) fun nx hnx=>?_
   simp! [tSl,zbv,tNoPart,tBM]
   have h3:=td3 ks [wd] k k (.inl rfl)
   have h1:=zdY wd
   have ta:=zcm (i:=k) (j:=k) AK (zd5 wok.1)
   have:=zcZ wd
   have:=bt ks k
   have:=bd ks (k)
   have kb:ks.length ≤ 900002:=by have:=gg.1; omega
   refine ⟨rfl,zb4 e5s fun p1 H6 S6 e6=>zfC e6 (by omega) fun p2 H7 S7 e7=>zbR (k:=k) (S7 _ _ (S6 _ _ e5s)) fun p3 H8 S8 e8=>zcu (S8 _ _ e7) e8 (by rw [List.length_append]; simp only [List.length_cons,List.length_nil]; omega) fun p4 H9 S9 e9=>zex e9 (by have:=gg.1; omega) ⟨_,S9 _ _ (S8 _ _ (S7 _ _ (S6 _ _ e5l))),i,zdn (by rw [List.length_map]; exact il),hnx _ _ ?_⟩⟩
   rw [← List.map_set]
   obtain ⟨b1,b2⟩:=jn_w rfl (n:=ls[i].length + 20) (m:=nls ls[i] + 20) (Nat.le_trans h3.1 (by omega)) (Nat.le_trans h3.2.2 (by omega))
   have SZ:=zaM (u:=.lst ((ls.set i (Str.join sp32 (ks.take k ++ [wd] ++ ks.drop (k)))).map V.str)) ((((S5.trans S6).trans S7).trans S8).trans S9) nl
   have hkz:=SZ _ _ hk
   repeat refine zaN (fun Q2 h2=>bNe hkz (by decide) h2) ?_
   exact FIN _ _ _ _ (zeK il A sw sf (zbB (by decide) ta) b1 b2) zad hkz SZ
  refine zaN (fun Q2 h2=>bNe hk5 c8 h2) ?_
  by_cases c9:a0 = 9
  ·subst c9
   refine zbq (fun Q2 h2=>bYes hk5 h2) fun nx hnx=>?_
   simp! [tSl,zbv,tNoPart,tBM]
   have h3:=td1 ks k
   have ta:=zge (i:=k) (j:=k + 1) AK
   have:=bt ks k
   have:=bd ks (k + 1)
   have kb:ks.length ≤ 900002:=by have:=gg.1; omega
   refine ⟨rfl,zb4 e5s fun p1 H6 S6 e6=>zbR (k:=k + 1) (S6 _ _ e5s) fun p3 H8 S8 e8=>zcu (S8 _ _ e6) e8 (by omega) fun p4 H9 S9 e9=>zex e9 (by have:=gg.1; omega) ⟨_,S9 _ _ (S8 _ _ (S6 _ _ e5l)),i,zdn (by rw [List.length_map]; exact il),hnx _ _ ?_⟩⟩
   rw [← List.map_set]
   obtain ⟨b1,b2⟩:=jn_w rfl (n:=ls[i].length + 20) (m:=nls ls[i] + 20) (Nat.le_trans h3.1 (by omega)) (Nat.le_trans h3.2.2 (by omega))
   have SZ:=zaM (u:=.lst ((ls.set i (Str.join sp32 (ks.take k ++ ks.drop (k + 1)))).map V.str)) (((S5.trans S6).trans S8).trans S9) nl
   have hkz:=SZ _ _ hk
   repeat refine zaN (fun Q2 h2=>bNe hkz (by decide) h2) ?_
   exact FIN _ _ _ _ (zeK il A sw sf (zbB (by decide) ta) b1 b2) zad hkz SZ
  refine zaN (fun Q2 h2=>bNe hk5 c9 h2) ?_
  by_cases c10:a0 = 10
  ·subst c10
   refine zbq (fun Q2 h2=>bYes hk5 h2) fun nx hnx=>?_
   simp! [tSl,zbv,tNoPart,tBM]
   have h3:=td3 ks [wd] k (k + 1) (.inr rfl)
   have h1:=zdY wd
   have ta:=zcm (i:=k) (j:=(k + 1)) AK (zd5 wok.1)
   have:=zcZ wd
   have:=bt ks k
   have:=bd ks ((k + 1))
   have kb:ks.length ≤ 900002:=by have:=gg.1; omega
   refine ⟨rfl,zb4 e5s fun p1 H6 S6 e6=>zfC e6 (by omega) fun p2 H7 S7 e7=>zbR (k:=(k + 1)) (S7 _ _ (S6 _ _ e5s)) fun p3 H8 S8 e8=>zcu (S8 _ _ e7) e8 (by rw [List.length_append]; simp only [List.length_cons,List.length_nil]; omega) fun p4 H9 S9 e9=>zex e9 (by have:=gg.1; omega) ⟨_,S9 _ _ (S8 _ _ (S7 _ _ (S6 _ _ e5l))),i,zdn (by rw [List.length_map]; exact il),hnx _ _ ?_⟩⟩
   rw [← List.map_set]
   obtain ⟨b1,b2⟩:=jn_w rfl (n:=ls[i].length + 20) (m:=nls ls[i] + 20) (Nat.le_trans h3.1 (by omega)) (Nat.le_trans h3.2.2 (by omega))
   have SZ:=zaM (u:=.lst ((ls.set i (Str.join sp32 (ks.take k ++ [wd] ++ ks.drop ((k + 1))))).map V.str)) ((((S5.trans S6).trans S7).trans S8).trans S9) nl
   have hkz:=SZ _ _ hk
   repeat refine zaN (fun Q2 h2=>bNe hkz (by decide) h2) ?_
   exact FIN _ _ _ _ (zeK il A sw sf (zbB (by decide) ta) b1 b2) zad hkz SZ
  refine zaN (fun Q2 h2=>bNe hk5 c10 h2) ?_
  by_cases c13:a0 = 13
  ·subst c13
   refine zbq (fun Q2 h2=>bYes hk5 h2) fun nx hnx=>?_
   simp! [tSl,zbv,tNoPart,tBM]
   have m0:0 ≤ 2 * a2 + (n:Int) % 2:=by omega
   have m1:2 * a2 + (n:Int) % 2 ≤ 127:=by omega
   refine ⟨_,by rw [hk5]; rfl,_,zdZ,a2,rfl,.inl (by decide),_,by rw [hk5]; rfl,_,ze4,n,rfl,by decide,?_⟩
   obtain ⟨m,hm⟩:=Int.eq_ofNat_of_zero_le m0
   rw [hm] at m1 ⊢
   have:=bt ls (i + 1)
   have:=bd ls (i + 1)
   refine zb4 (k:=i + 1) e5l fun p1 H6 S6 e6 p np=>?_
   refine ⟨p,m,_,rfl,rfl,zad,by omega,by omega,by rw [sizeLine_eq]; simp; omega,fun p2 np2=>?_⟩
   have er:(List.replicate (m:Int).toNat [V.str (Str.ofString "rest")]).flatten = (List.replicate m ("rest":Str)).map V.str:=by
    rw [Int.toNat_natCast,List.map_replicate]
    exact List.flatten_replicate_singleton
   rw [er]
   have S7:=(Same.laid np (u:=.lst [V.str (Str.ofString "rest")])).step np2 (u:=.lst ((List.replicate m ("rest":Str)).map V.str))
   have e7:upd (upd H6 p (.lst [V.str (Str.ofString "rest")])) p2 (.lst ((List.replicate m ("rest":Str)).map V.str)) p2 = some (.lst ((List.replicate m ("rest":Str)).map V.str)):=zad
   revert S7 e7
   generalize upd (upd H6 p (.lst [V.str (Str.ofString "rest")])) p2 (.lst ((List.replicate m ("rest":Str)).map V.str)) = H7
   intro S7 e7
   refine zcu (S7 _ _ e6) e7 (by rw [List.length_replicate]; omega) fun p3 H8 S8 e8=>zbR (k:=i + 1) (S8 _ _ (S7 _ _ (S6 _ _ e5l))) fun p4 H9 S9 e9=>zcu (S9 _ _ e8) e9 (by rw [List.length_append,List.length_replicate]; omega) fun p5 H10 S10 e10=>hnx _ _ ?_
   have SZ:=((((S5.trans S6).trans S7).trans S8).trans S9).trans S10
   have hkz:=SZ _ _ hk
   repeat refine zaN (fun Q2 h2=>bNe hkz (by decide) h2) ?_
   have h3:=td3 ls (List.replicate m ("rest":Str)) (i + 1) (i + 1) (.inl rfl)
   have h1:=rests m
   exact FIN _ _ _ _ ⟨zcm A (fun p hp=>by rw [List.eq_of_mem_replicate hp]; decide +kernel),by omega,by omega⟩ e10 hkz SZ
  refine zaN (fun Q2 h2=>bNe hk5 c13 h2) ?_
  exact FIN _ _ _ _ ⟨A,by omega,by omega⟩ e5l hk5 S5
end
section
variable {P:Program} {w:World} {K:PySem.W.Frag} {mg:Str->Option Value} {base:Heap} {a:Ad}
noncomputable def sp_dword:Sp:=fun vs H Q _=>∃ (b c pk:Addr) (cs:List Int) (z:Str) (a0 a1 a2 a3:Int),vs = [.str z,.ref pk,.ref b]∧BagAt H b c cs∧H pk = some (.lst [.int a0,.int a1,.int a2,.int a3])∧0 ≤ a0∧0 ≤ a1∧0 ≤ a2∧0 ≤ a3∧Asc z∧z.length ≤ 900000∧∀ (y:Str) (H':Hp),Asc y->y.length ≤ 2 * z.length + 700->nls y ≤ 2 * nls z + 300->BagAt H' b c cs->Kp b H H'->Q (.str y) H'
theorem zjp {x:Nat} (h:(x:Int) < 26):∃ ch,atI (Str.ofString "abcdefghijklmnopqrstuvwxyz").cps.toList (x:Int) = some ch∧ch < 128:=by
 have hl:(Str.ofString "abcdefghijklmnopqrstuvwxyz").cps.toList.length = 26:=by decide +kernel
 have ha:(Str.ofString "abcdefghijklmnopqrstuvwxyz").cps.toList.all (· < 128) = true:=by decide +kernel
 have hx:x < (Str.ofString "abcdefghijklmnopqrstuvwxyz").cps.toList.length:=by omega
 exact ⟨_,zaQ (List.getElem?_eq_getElem hx),of_decide_eq_true (List.all_eq_true.mp ha _ (List.getElem_mem hx))⟩
theorem zgU {b c:Addr} {cs:List Int} {H H':Hp} (S:Same H H'):Kp b H H':=fun q o h _=>S q o h
set_option maxHeartbeats 8000000 in
theorem zcc (T:Txt K mg a):FnOk P w K mg base (CX1 P w) 3 a.f_law_drawn_word a.d_law_drawn_word ["text","pick","bag"] sp_dword:=by
 refine T.F_law_drawn_word.okC sc_law_drawn_word (fun vs H Q E h=>?_) (fun cdv A outer s H vs Q E hr h=>?_)
 ·obtain ⟨b,c,pk,cs,z,a0,a1,a2,a3,rfl,_⟩:=h
  rfl
 ·obtain ⟨b,c,pk,cs,z,a0,a1,a2,a3,rfl,B,hk,p0,p1,p2,p3,az,zl,q⟩:=h
  have hu:=za0 hr
  have kb:pk ≠ b:=B.nInts (ns:=[a0,a1,a2,a3]) hk
  refine ⟨_,(@zab _ _ _ _ _ (zal (i:=3) sc_law_drawn_word.nd (by rfl) (Or.inl rfl) (zaR PySem.F.plainAttrs_str PySem.F.slot_str_split PySem.F.type_str_split mt_split (pv 0) (@zaV _ _ _ _ _ _ pa_nil)))
   (@zab _ _ _ _ _ (zal (i:=4) sc_law_drawn_word.nd (by rfl) (Or.inl rfl) (zam op_mod (zar ix_F (pv 1) zac (fun _ _=>rfl)) (zao call_lenF (by rfl) T.z_len (by decide +kernel) (@zaX _ _ _ _ _ _ (pv 3) pa_nil))))
   (@zab _ _ _ _ _ (zal (i:=5) sc_law_drawn_word.nd (by rfl) (Or.inl rfl) zaf)
   (@zab _ _ _ _ _ (zbd PassesOwn.never (by rfl) (zaI (by rfl) T.z_range (zaa (zam op_add zac (zah (zag T) (hr.mono (by decide)) (by rfl) T.m_law_draw T.F_law_draw.kp T.b_law_draw .nil zau (@zaX _ _ _ _ _ _ (pv 2) (@zfQ _ _ _ _ _ _ pa_nil)))) pa_nil)) (zav (i:=6) sc_law_drawn_word.nd (by rfl) (Or.inl rfl))
   (@zae _ _ _ (zal (i:=5) sc_law_drawn_word.nd (by rfl) (Or.inl rfl) (zam op_add_str (pv 5) (zar ix_str zaf (zah (zag T) (hr.mono (by decide)) (by rfl) T.m_law_draw T.F_law_draw.kp T.b_law_draw .nil zau (@zaX _ _ _ _ _ _ (pv 2) (@zfQ _ _ _ _ _ _ pa_nil))) (fun _ _=>rfl))))))
   (@zab _ _ _ _ _ (@zay _ _ _ _ _ _ _ _ (zai op_eq (zam op_mod (zar ix_F (pv 1) zac (fun _ _=>rfl)) zac) zac (zan _)) (@zae _ _ _ (zbQ (zaR PySem.F.plainAttrs_str PySem.F.slot_str_join PySem.F.type_str_join mt_join zaf (zaa (zam op_cat (zaC (@zaX _ _ _ _ _ _ (pv 5) pa_nil)) (zas sl_list (zaR PySem.F.plainAttrs_str PySem.F.slot_str_split PySem.F.type_str_split mt_split (zar ix_F (pv 3) (pv 4) (fun _ _=>rfl)) (@zaV _ _ _ _ _ _ pa_nil)) (zaw zac) po_none)) pa_nil)) (zca (pv 3) (pv 4) set_list))) (@zab _ _ _ _ _ (zej (i:=7) sc_law_drawn_word.nd (by rfl) (Or.inl rfl) (N':=["k","bag"]) (cap:=[none,some 2]) ⟨rfl,(by decide +kernel),(by decide +kernel),(by rfl),rfl,(by rfl)⟩ (by rfl) (zaI (by rfl) T.z_range (zaa (zam op_mod (zar ix_F (pv 1) zac (fun _ _=>rfl)) zac) pa_nil)) (fun C_ ex_ s_ H_=>(zav (i:=0) (show (["k","bag"]:List Str).Nodup by decide +kernel) (by rfl) (Or.inl rfl))) zaH (fun C_ ex_ s_ H_=>zaU) (fun C_ ex_ s_ H_=>(zam op_add_str zaf (zax call_strI (by rfl) T.z_str (by decide +kernel) (zaa (zah (zaP T) (by exact hr.mono (by decide)) (by rfl) T.m_law_number T.F_law_number.kp T.b_law_number .nil zau (@zaX _ _ _ _ _ _ (pv 1) pa_nil)) pa_nil)))))
   (@zae _ _ _ (zal (i:=3) sc_law_drawn_word.nd (by rfl) (Or.inl rfl) (zam op_cat (zam op_cat (zas sl_list (pv 3) po_none (zaw (zam op_add (pv 4) zac))) (zaC (zaa (zam op_add_str (pv 5) (zaR PySem.F.plainAttrs_str PySem.F.slot_str_join PySem.F.type_str_join mt_join zaf (@zaX _ _ _ _ _ _ (pv 7) pa_nil))) pa_nil))) (zas sl_list (pv 3) (zaw (zam op_add (pv 4) zac)) po_none))))))
   (@zae _ _ _ (zaq (zaR PySem.F.plainAttrs_str PySem.F.slot_str_join PySem.F.type_str_join mt_join zaf (@zaX _ _ _ _ _ _ (pv 3) pa_nil))))))))),?_⟩
  obtain ⟨g1,g2⟩:=za2 (z:=z) (c:=10)
  have ne:=zba z 10
  have sw:=zcU z 10
  have sf:=zem z
  generalize hG:tSeq (tAsg _ (zbn 4)) _ = tail
  simp! [tBM]
  refine ⟨rfl,z,nl10,rfl,by rw [show Str.ofString "\n" = nl10 by decide],rfl,by rw [sizeLine_eq]; omega,by rw [sizeLine_eq]; unfold nl10; omega,fun l nl=>?_⟩
  have g1:(PySem.Txt.split z nl10).length ≤ z.length + 1:=g1
  have g2:∀ p ∈ PySem.Txt.split z nl10,p.length ≤ z.length∧(Asc z->Asc p):=g2
  have ne:PySem.Txt.split z nl10 ≠ []:=ne
  have sw:wS (PySem.Txt.split z nl10) = z.length + 1:=sw
  revert g1 g2 ne sw sf
  generalize PySem.Txt.split z nl10 = ls
  intro sf g1 g2 ne sw
  have lb:=(B.apart nl).1
  have hk1:=zaj (u:=.lst (ls.map V.str)) hk nl
  have e1:upd H l (.lst (ls.map V.str)) l = some (.lst (ls.map V.str)):=zad
  have B1:=B.laid nl (u:=.lst (ls.map V.str))
  have k1:Kp b H (upd H l (.lst (ls.map V.str))):=Kp.refl.laid nl
  revert hk1 e1 B1 k1
  generalize upd H l (.lst (ls.map V.str)) = H1
  intro hk1 e1 B1 k1
  have n0:0 < ls.length:=List.length_pos_iff.mpr ne
  have lf:lenF (.ref l) H1 = some ls.length:=by rw [zcC,e1]; show some _ = some _; rw [List.length_map]
  subst hG
  generalize hG:tSeq (tFor _ _ _) _ = tail
  simp! []
  refine ⟨_,by rw [hk1]; rfl,_,zdC,_,lf,a1,rfl,by omega,?_⟩
  have i0:0 ≤ a1 % (ls.length:Int):=Int.emod_nonneg _ (by omega)
  have i1:a1 % (ls.length:Int) < ls.length:=Int.emod_lt_of_pos _ (by omega)
  obtain ⟨i,hi⟩:=Int.eq_ofNat_of_zero_le i0
  rw [hi] at i1 ⊢
  have il:i < ls.length:=by omega
  have gi:=List.getElem?_eq_getElem il
  have ai:atI (ls.map V.str) (i:Int) = some (.str ls[i]):=zaQ (by rw [List.getElem?_map,gi]; rfl)
  have A:∀ p ∈ ls,Asc p:=fun p hp=>(g2 p hp).2 az
  have gl:=zhP il
  have bt:∀ (xs:List Str) k,(xs.take k).length ≤ xs.length:=fun xs k=>by rw [List.length_take]; omega
  have bd:∀ (xs:List Str) k,(xs.drop k).length ≤ xs.length:=fun xs k=>by rw [List.length_drop]; omega
  subst hG
  generalize hG:tSeq (tIfS _ _ _) _ = tail
  refine ziA (fun n H2=>1 ≤ n∧n ≤ 9∧BagAt H2 b c cs∧Kp b H H2∧H2 l = some (.lst (ls.map V.str))) (fun Q2 hQ=>?_) ?_
  ·simp! []
   exact ⟨b,c,cs,9,rfl,B1,by decide,by decide,fun x H2 x0 x1 B2 k2=>⟨x,rfl,hQ (1 + x) _ ⟨by omega,by omega,B2,k1.trans k2,k2 _ _ e1 lb⟩⟩⟩
  rintro n H2 ⟨n1,n2,B2,k2,e2⟩
  refine for1 (H1:=H2) n (fun Q2 h2=>by simp! []; exact h2) (by omega) (by omega) (fun j σ Hc=>∃ (v6:Option V) (wd:Str),σ = [some (V.str z),some (V.ref pk),some (V.ref b),some (V.ref l),some (V.int i),some (V.str wd),v6,none]∧Asc wd∧wd.length = j∧BagAt Hc b c cs∧Kp b H Hc∧Hc l = some (.lst (ls.map V.str)))
   ⟨_,_,rfl,by decide +kernel,rfl,B2,k2,e2⟩ ?_ ?_
  ·rintro j σ Hc hj ⟨v6,wd,rfl,aw,lw,Bc,kc,ec⟩
   simp! []
   refine ⟨b,c,cs,26,rfl,Bc,by decide,by decide,fun x H3 x0 x1 B3 k3=>?_⟩
   obtain ⟨xN,rfl⟩:=Int.eq_ofNat_of_zero_le x0
   obtain ⟨ch,hc1,hc2⟩:=zjp x1
   have l1:(⟨#[ch]⟩:Str).length = 1:=rfl
   exact ⟨_,_,ch,rfl,rfl,by decide,hc1,_,rfl,by rw [l1]; omega,zbf aw (zcK hc2),by rw [za1,l1]; omega,B3,kc.trans k3,k3 _ _ ec lb⟩
  rintro σ Hc ⟨v6,wd,rfl,aw,lw,Bc,kc,ec⟩
  have lw':wd.length ≤ 9:=by omega
  have hkc:=kc _ _ hk kb
  have lc:=(B.apart nl).2
  have FIN:∀ (ms:List Str) (l':Addr) (H':Hp) (v4 v5 v6 v7:Option V),(∀ p ∈ ms,Asc p)->wS ms ≤ 2 * z.length + 690->fS ms ≤ 2 * nls z + 300->H' l' = some (.lst (ms.map V.str))->BagAt H' b c cs->Kp b H H'->tBM K "str" rJoin (tC (V.str (Str.ofString "\n"))) (zch (tVar 3) tNil) [some (V.str z),some (V.ref pk),some (V.ref b),some (V.ref l'),v4,v5,v6,v7] H' Q:=by
   intro ms l' H' v4 v5 v6 v7 oa ow of_ e1 B1 k1
   have w1:(ms.map (·.length)).sum + ms.length = wS ms:=rfl
   have e:PySem.Txt.join nl10 ms = Str.join nl10 ms:=StrLaws.glued_eq_join _ _
   have l1:=zdR (c:=10) ms
   have l2:=zeC ms
   have l1:(Str.join nl10 ms).length ≤ wS ms:=l1
   simp! [tBM]
   refine ⟨rfl,nl10,l',ms,by rw [show Str.ofString "\n" = nl10 by decide],rfl,e1,?_,?_⟩
   ·have e:nl10.length = 1:=rfl
    rw [e]; omega
   rw [e]
   exact q _ H' (zbB (by decide) oa) (by omega) (by omega) B1 k1
  subst hG
  dsimp only
  by_cases c2:a2 % 2 = 0
  ·refine zbq (fun Q2 h2=>?_) fun nx hnx=>?_
   ·simp! [hkc,c2]
    exact ⟨by decide,by rw [decide_eq_true trivial]; exact h2⟩
   ·obtain ⟨s1,s2⟩:=za2 (z:=ls[i]) (c:=32)
    have kw:=zcU ls[i] 32
    have kf:=zfX ls[i]
    have gg:=g2 _ (List.getElem_mem il)
    simp! [tSl,zbv,tNoPart,tBM]
    refine ⟨rfl,fun p np=>?_⟩
    have S1:Same Hc (upd Hc p (.lst [V.str wd])):=.laid np
    have e1p:upd Hc p (.lst [V.str wd]) p = some (.lst ([wd].map V.str)):=zad
    revert S1 e1p
    generalize upd Hc p (.lst [V.str wd]) = H3
    intro S1 e1p
    refine ⟨_,by rw [S1 _ _ ec]; rfl,_,ai,rfl,ls[i],sp32,rfl,by rw [show Str.ofString " " = sp32 by decide],rfl,by rw [sizeLine_eq]; omega,by rw [sizeLine_eq]; unfold sp32; omega,fun so nso=>?_⟩
    have s1:(PySem.Txt.split ls[i] sp32).length ≤ ls[i].length + 1:=s1
    have s2:∀ p ∈ PySem.Txt.split ls[i] sp32,p.length ≤ ls[i].length∧(Asc ls[i]->Asc p):=s2
    have kw:wS (PySem.Txt.split ls[i] sp32) = ls[i].length + 1:=kw
    revert s1 s2 kw kf
    generalize PySem.Txt.split ls[i] sp32 = ks
    intro kf s1 s2 kw
    have AK:∀ p ∈ ks,Asc p:=fun p hp=>(s2 p hp).2 (A _ (List.getElem_mem il))
    have bk:=bd ks 1
    have h1:=zdY wd
    have nw:=zcZ wd
    have wd1:=zhM ks 1
    have md1:=zhT ks 1
    have wa:=zcN [wd] (ks.drop 1)
    have ma:=zdm [wd] (ks.drop 1)
    refine zbR (k:=1) zad fun p2 H4 S4 e4=>zcu (S4 _ _ (zaj e1p nso)) e4 (by simp only [List.length_cons,List.length_nil]; omega) fun p3 H5 S5 e5=>zex e5 (by omega) ⟨_,S5 _ _ (S4 _ _ (zaj (S1 _ _ ec) nso)),i,zdn (by rw [List.length_map]; exact il),hnx _ _ ?_⟩
    rw [← List.map_set]
    obtain ⟨b1,b2⟩:=jn_w rfl (zs:=[wd] ++ ks.drop 1) (n:=ls[i].length + 20) (m:=nls ls[i] + 20) (by omega) (by omega)
    have ta:∀ p ∈ [wd] ++ ks.drop 1,Asc p:=fun p hp=>by
     rcases List.mem_append.mp hp with h | h
     ·rw [List.mem_singleton.mp h]; exact aw
     ·exact AK _ (List.mem_of_mem_drop h)
    have SS:=((S1.step nso (u:=.lst (ks.map V.str))).trans S4).trans S5
    obtain ⟨o1,o2,o3⟩:=zeK il A sw sf (zbB (c:=32) (by decide) ta) b1 b2
    exact FIN _ _ _ _ _ _ _ o1 o2 (by omega) zad ((Bc.keep SS).other lb lc) ((kc.trans (zgU (c:=c) (cs:=cs) SS)).new nl)
  ·refine zhX (fun Q2 h2=>?_) ?_
   ·simp! [hkc,c2]
    exact ⟨by decide,by rw [decide_eq_false id]; exact h2⟩
   ·generalize hG:tAsg (tOp _ _ _) (zbn 3) = tail
    simp! [hkc]
    refine zeu (H1:=Hc) (a3 % 5) (fun Q2 h2=>by simp! [hkc]; exact ⟨by decide,h2⟩) (by omega) (by omega) (fun D j ys H5=>∃ zs:List Str,ys = zs.map V.str∧(∀ y ∈ zs,Asc y∧y.length ≤ 62)∧zs.length = j∧H5 D = some (.lst ys)∧BagAt H5 b c cs∧Kp b Hc H5)
     (fun D hD=>⟨[],rfl,fun _ h=>absurd h List.not_mem_nil,rfl,zad,Bc.laid hD,Kp.refl.laid hD⟩) ?_ (by rw [sizeLine_eq]; omega) ?_ ?_
    ·rintro D hD j ys H5 hj ⟨zs,rfl,_,lz,h5,_⟩
     exact ⟨h5,by rw [List.length_map]; omega⟩
    ·rintro D hD j ys H5 hj ⟨zs,rfl,az',lz,h5,B5,k5⟩
     obtain ⟨Db,Dc⟩:=Bc.apart hD
     simp! [tTrue,zaE]
     refine ⟨b,c,cs,rfl,B5,fun r H6 r0 r1 B6 k6=>?_⟩
     have sl:(Str.ofString (toString r)).length ≤ 61:=zbh ⟨r0,r1⟩
     have sa:Asc (Str.ofString (toString r)):=(zbA ⟨r0,r1⟩).2.2.1
     have e1:(Str.ofString " ").length = 1:=by decide
     refine ⟨r,rfl,logB ⟨r0,r1⟩,by omega,k6 _ _ h5 Db,zs ++ [Str.ofString " " ++ Str.ofString (toString r)],by rw [List.map_append]; rfl,fun y hy=>?_,by simp [lz],B6.other Db Dc,(k5.trans k6).new hD⟩
     rcases List.mem_append.mp hy with hy | hy
     ·exact az' y hy
     ·rw [List.mem_singleton.mp hy]; exact ⟨zbf (by decide +kernel) sa,by rw [za1]; omega⟩
    ·rintro D hD ys H5 ⟨zs,rfl,az',lz,h5,B5,k5⟩
     subst hG
     have h62:∀ y ∈ zs,y.length ≤ 62:=fun y hy=>(az' y hy).2
     have sm:=zci h62
     have jl:=zdD _ h62
     have zl4:zs.length ≤ 4:=by omega
     have z62:zs.length * 62 ≤ 248:=by omega
     have ja:Asc (PySem.Txt.join ("":Str) zs):=zeW fun y hy=>(az' y hy).1
     have:=bt ls (i + 1)
     have:=bd ls (i + 1)
     have el5:=k5 _ _ ec lb
     simp! [tSl,zbv,tNoPart]
     refine zb4 (k:=i + 1) el5 fun p1 H6 S6 e6=>?_
     generalize hT:tBM K "str" rJoin (tC (V.str (Str.ofString "\n"))) (zch (tVar 3) tNil) = tl at FIN ⊢
     simp! [tBM]
     refine ⟨rfl,Str.ofString "",D,zs,rfl,rfl,S6 _ _ h5,by have:(Str.ofString "").length = 0:=rfl; rw [this]; omega,_,rfl,by omega,?_⟩
     generalize PySem.Txt.join (Str.ofString "") zs = nm at jl ja ⊢
     have aww:=zbf aw ja
     have lww:(wd ++ nm).length ≤ 257:=by rw [za1]; omega
     refine zfC e6 (by omega) fun p2 H7 S7 e7=>zbR (k:=i + 1) (S7 _ _ (S6 _ _ el5)) fun p3 H8 S8 e8=>zcu (S8 _ _ e7) e8 (by rw [List.length_append]; simp only [List.length_cons,List.length_nil]; omega) fun p4 H9 S9 e9=>?_
     have h3:=td3 ls [wd ++ nm] (i + 1) (i + 1) (.inl rfl)
     have h1:=zdY (wd ++ nm)
     have:=zcZ (wd ++ nm)
     have SS:=((S6.trans S7).trans S8).trans S9
     exact FIN _ _ _ _ _ _ _ (zcm A (zd5 aww)) (by omega) (by omega) e9 (B5.keep SS) ((kc.trans k5).trans (zgU (c:=c) (cs:=cs) SS))
end
section
variable {P:Program} {w:World} {K:PySem.W.Frag} {mg:Str->Option Value} {base:Heap} {a:Ad}
theorem nls_upper:∀ (l:List Nat),(∀ c ∈ l,c < 128)->(PySem.Txt.upper ⟨l.toArray⟩).cps.toList.count 10 = l.count 10
 | [],_=>by decide +kernel
 | c :: l,h=>by
  have h1:=nls_upper l fun x hx=>h x (List.mem_cons_of_mem _ hx)
  have hc:=h c (List.mem_cons_self ..)
  have e:(⟨(c :: l).toArray⟩:Str) = (⟨#[c]⟩:Str) ++ ⟨l.toArray⟩:=by
   refine PySem.Str.ext' ?_
   rw [PySem.Str.cps_append]
   simp
  rw [e,PySem.W.KOpn.upper_app,PySem.W.KOpn.upper_one hc,PySem.Str.cps_append,Array.toList_append,List.count_append,h1,List.count_cons (l:=l)]
  show List.count 10 [if 97 ≤ c∧c ≤ 122 then c - 32 else c] + _ = _
  have:List.count 10 [if 97 ≤ c∧c ≤ 122 then c - 32 else c] = if c == 10 then 1 else 0:=by
   rw [List.count_singleton]
   by_cases h:97 ≤ c∧c ≤ 122
   ·rw [if_pos h]
    have e1:(c - 32 == 10) = false:=beq_false_of_ne (by omega)
    have e2:(c == 10) = false:=beq_false_of_ne (by omega)
    rw [e1,e2]
   ·rw [if_neg h]
  rw [this]
  omega
theorem up_ok {z:Str} (h:Asc z):Asc (PySem.Txt.upper z)∧(PySem.Txt.upper z).length = z.length∧nls (PySem.Txt.upper z) = nls z:=by
 have e:z = ⟨z.cps.toList.toArray⟩:=by cases z; rfl
 have hc:∀ c ∈ z.cps.toList,c < 128:=fun c hc=>zaO.mp h c hc
 have u:=upper_asc _ hc
 have n:=nls_upper _ hc
 rw [← e] at u n
 refine ⟨zaO.mpr u.2,?_,n⟩
 rw [u.1,Array.length_toList,zaz]
theorem zfv {z:Str} (h:Asc z):Asc (PySem.Txt.replace z (Str.ofString "\n") (Str.ofString ""))∧(PySem.Txt.replace z (Str.ofString "\n") (Str.ofString "")).length ≤ z.length∧nls (PySem.Txt.replace z (Str.ofString "\n") (Str.ofString "")) = 0:=by
 have e:=PyProof.Rows.replace_strikes z 10
 rw [show Str.ofString "\n" = ⟨#[10]⟩ by decide,show Str.ofString "" = ⟨#[]⟩ by decide]
 refine ⟨zaO.mpr fun c hc=>?_,?_,?_⟩
 ·rw [e] at hc
  exact zaO.mp h c (List.mem_filter.mp hc).1
 ·rw [zaz,← Array.length_toList,e,zaz,← Array.length_toList]
  exact List.length_filter_le _ _
 ·unfold nls
  rw [e,List.count_eq_zero]
  intro h
  have:=(List.mem_filter.mp h).2
  simp at this
noncomputable def sp_eline:Sp:=fun vs H Q _=>∃ (b c pk:Addr) (cs:List Int) (z:Str) (a0 a1 a2 a3:Int),vs = [.str z,.ref pk,.ref b]∧BagAt H b c cs∧H pk = some (.lst [.int a0,.int a1,.int a2,.int a3])∧0 ≤ a2∧0 ≤ a3∧Asc z∧z.length ≤ 900000∧nls z ≤ 3550∧∀ (y:Str) (H':Hp),Asc y->y.length ≤ 2 * z.length + 42700->nls y ≤ 2 * nls z + 300->BagAt H' b c cs->Kp b H H'->Q (.str y) H'
set_option maxHeartbeats 8000000 in
theorem zcx (T:Txt K mg a):FnOk P w K mg base (CX1 P w) 4 a.f_law_each_line a.d_law_each_line ["text","pick","bag"] sp_eline:=by
 refine T.F_law_each_line.okC sc_law_each_line (fun vs H Q E h=>?_) (fun cdv A outer s H vs Q E hr h=>?_)
 ·obtain ⟨b,c,pk,cs,z,a0,a1,a2,a3,rfl,_⟩:=h
  rfl
 ·obtain ⟨b,c,pk,cs,z,a0,a1,a2,a3,rfl,B,hk,p2,p3,az,zl,zn,q⟩:=h
  have hu:=za0 hr
  have kb:pk ≠ b:=B.nInts (ns:=[a0,a1,a2,a3]) hk
  refine ⟨_,(zab (zal (i:=3) sc_law_each_line.nd (by rfl) (Or.inl rfl) (zhS (by decide +kernel) (zf3 (zcS T) (hr.mono (by decide)) (by rfl) T.m_law_run T.F_law_run.kp T.b_law_run .nil zau (zaa (pv 2) pa_nil))))
   (zab (zal (i:=4) sc_law_each_line.nd (by rfl) (Or.inl rfl) (zaC pa_nil))
   (zab (zbd PassesOwn.never (by rfl) (zbm (zaR PySem.F.plainAttrs_str PySem.F.slot_str_split PySem.F.type_str_split mt_split (pv 0) (zaa zaf pa_nil))) (zav (i:=5) sc_law_each_line.nd (by rfl) (Or.inl rfl))
   (zae (zay (PW.pt (zbT (zai op_eq (zam op_mod (zar ix_F (pv 1) zac (fun _ _=>rfl)) zac) zac (zan _)) (zbt (zai op_eq (zas sl_str (pv 5) po_none (zaw zac)) zaf (zan _))))) (zae (zaZ (zaR PySem.F.plainAttrs_list PySem.F.slot_list_append PySem.F.type_list_append mt_append (pv 4) (zaa (pv 5) pa_nil)))) (zae (zay (zai op_eq (zam op_mod (zar ix_F (pv 1) zac (fun _ _=>rfl)) zac) zac (zan _)) (zae (zaZ (zaR PySem.F.plainAttrs_list PySem.F.slot_list_append PySem.F.type_list_append mt_append (pv 4) (zaa (zam op_add_str (pv 3) (pv 5)) pa_nil)))) (zae (zay (zai op_eq (zam op_mod (zar ix_F (pv 1) zac (fun _ _=>rfl)) zac) zac (zan _)) (zae (zaZ (zaR PySem.F.plainAttrs_list PySem.F.slot_list_append PySem.F.type_list_append mt_append (pv 4) (zaa (zam op_add_str (pv 5) (pv 3)) pa_nil)))) (zae (zaZ (zaR PySem.F.plainAttrs_list PySem.F.slot_list_append PySem.F.type_list_append mt_append (pv 4) (zaa (zjh PySem.F.plainAttrs_str PySem.F.slot_str_upper PySem.F.type_str_upper mt_upper (pv 5)) pa_nil)))))))))))
   (zae (zaq (zaR PySem.F.plainAttrs_str PySem.F.slot_str_join PySem.F.type_str_join mt_join zaf (zaa (pv 4) pa_nil))))))),?_⟩
  generalize hG:tSeq (tFor _ _ _) _ = tail
  simp! [zjj]
  refine ⟨b,c,cs,rfl,B,fun pc0 H1 ap lp B1 k1=>⟨pc0,rfl,?_,?_⟩⟩
  ·have:(Str.ofString "").length = 0:=rfl
   rw [this]; omega
  have st:=zfv ap
  revert st
  generalize PySem.Txt.replace pc0 (Str.ofString "\n") (Str.ofString "") = pc
  rintro ⟨apc,lpc,npc⟩
  intro L nL
  have hk1:=k1 _ _ hk kb
  have eL:upd H1 L (.lst []) L = some (.lst (([]:List Str).map V.str)):=zad
  have B2:=B1.laid nL (u:=.lst [])
  have hk2:=zaj (u:=.lst []) hk1 nL
  have k2:=k1.laid nL (u:=.lst [])
  obtain ⟨Lb,Lc⟩:=B1.apart nL
  have nL0:H L = none:=zfn k1 nL Lb
  revert eL B2 hk2 k2
  generalize upd H1 L (.lst []) = H2
  intro eL B2 hk2 k2
  clear hk1 B1 k1 nL
  subst hG
  generalize hG:tRet _ = tail
  obtain ⟨g1,g2⟩:=za2 (z:=z) (c:=10)
  have sw:=zcU z 10
  have sf:=zem z
  have g1:(PySem.Txt.split z nl10).length ≤ z.length + 1:=g1
  have g2:∀ p ∈ PySem.Txt.split z nl10,p.length ≤ z.length∧(Asc z->Asc p):=g2
  have sw:wS (PySem.Txt.split z nl10) = z.length + 1:=sw
  refine zic (fun sl H3=>H3 sl = some (.lst ((PySem.Txt.split z nl10).map V.str))∧H2 sl = none∧Same H2 H3) (fun Q2 hQ=>?_) ?_
  ·simp! [tBM]
   exact ⟨rfl,z,nl10,rfl,by rw [show Str.ofString "\n" = nl10 by decide],rfl,by rw [sizeLine_eq]; omega,by rw [sizeLine_eq]; unfold nl10; omega,fun l nl=>hQ l _ ⟨zad,nl,.laid nl⟩⟩
  revert g1 g2 sw sf
  generalize PySem.Txt.split z nl10 = ls
  intro sf g1 g2 sw
  have A:∀ p ∈ ls,Asc p:=fun p hp=>(g2 p hp).2 az
  have ln:ls.length ≤ 3551:=by
   have:fS ls = mS ls + ls.length:=rfl
   omega
  rintro sl H3 ⟨e3,ns,S3⟩
  have nsL:sl ≠ L:=fun e=>by rw [e,eL] at ns; cases ns
  obtain ⟨sb,sc⟩:=B2.apart ns
  refine forL (H1:=H3) sl (ls.map V.str) (fun Q2 h2=>by simp! []; exact h2) (fun i σ Hc=>∃ (v5:Option V) (ms:List Str),σ = [some (V.str z),some (V.ref pk),some (V.ref b),some (V.str pc),some (V.ref L),v5]∧(∀ p ∈ ms,Asc p)∧wS ms ≤ wS (ls.take i) + 12 * i∧fS ms ≤ fS (ls.take i)∧ms.length = i∧Hc L = some (.lst (ms.map V.str))∧Hc sl = some (.lst (ls.map V.str))∧Hc pk = some (.lst [.int a0,.int a1,.int a2,.int a3])∧BagAt Hc b c cs∧Kp b H Hc)
   ⟨_,[],rfl,fun _ h=>absurd h List.not_mem_nil,Nat.zero_le _,Nat.zero_le _,rfl,S3 _ _ eL,e3,S3 _ _ hk2,B2.keep S3,k2.trans (zgU (c:=c) (cs:=cs) S3)⟩ (fun i σ Hc _ ⟨_,_,_,_,_,_,_,_,es,_⟩=>.of es) ?_ ?_
  ·rintro i x σ Hc hx ⟨v5,ms,rfl,am,wm,fm,lm,eLc,es,hkc,Bc,kc⟩
   obtain ⟨ln,hln,rfl⟩:=zaD hx
   have il:i < ls.length:=(List.getElem?_eq_some_iff.mp hln).1
   have al:=A ln (List.mem_of_getElem? hln)
   have tk:ls.take (i + 1) = ls.take i ++ [ln]:=by rw [List.take_succ,hln]; rfl
   have h1:=zdY ln
   have hkL:pk ≠ L:=fun e=>by rw [e,nL0] at hk; cases hk
   have tyL:tyV K "list" (V.ref L) Hc:=.inl ⟨rfl,_,.of eLc⟩
   have STEP:∀ (y:Str),Asc y->y.length ≤ ln.length + 12->nls y ≤ nls ln->rAppend (V.ref L) [V.str y] Hc fun _ H1=>∃ x:List Str,(∀ (p:Str),p ∈ x->Asc p)∧wS x ≤ wS (ls.take (i + 1)) + 12 * (i + 1)∧fS x ≤ fS (ls.take (i + 1))∧x.length = i + 1∧H1 L = some (.lst (x.map V.str))∧H1 sl = some (.lst (ls.map V.str))∧H1 pk = some (.lst [.int a0,.int a1,.int a2,.int a3])∧BagAt H1 b c cs∧Kp b H H1:=by
    intro y ay ly ny
    have h2:=zdY y
    refine ⟨L,_,_,rfl,rfl,eLc,by rw [sizeLine_eq,List.length_map]; omega,ms ++ [y],fun p hp=>?_,?_,?_,by simp [lm],by rw [zad,List.map_append]; rfl,by rw [zat nsL]; exact es,by rw [zat hkL]; exact hkc,Bc.other Lb Lc,kc.new nL0⟩
    ·rcases List.mem_append.mp hp with h | h
     ·exact am p h
     ·rw [List.mem_singleton.mp h]; exact ay
    ·rw [zcN,tk,zcN]; omega
    ·rw [zdb,tk,zdb]; omega
   have lnb:ln.length ≤ 900000:=by have:=(g2 ln (List.mem_of_getElem? hln)).1; omega
   have lnb':ln.length ≤ sizeLine:=by rw [sizeLine_eq]; omega
   have up:=up_ok al
   simp! [tBM,hkc,tSl,zbv,tNoPart]
   have s1:=STEP _ al (by omega) (Nat.le_refl _)
   have s2:=STEP _ (zbf apc al) (by rw [za1]; omega) (by rw [zbU]; omega)
   have s3:=STEP _ (zbf al apc) (by rw [za1]; omega) (by rw [zbU]; omega)
   have s4:=STEP _ up.1 (by omega) (by omega)
   have tl:PySem.Builtin.Str.tooLong (PySem.Txt.upper ln).length = false:=by rw [up.2.1]; unfold PySem.Builtin.Str.tooLong; exact decide_eq_false (by have:=sizeLine_eq; omega)
   refine ⟨by decide,ite2 (fun _=>?_) fun _=>?_⟩
   ·refine ⟨ln,rfl,lnb',rfl,ite2 (fun _=>⟨tyL,s1⟩) fun _=>⟨_,by rw [hkc]; rfl,_,zdZ,a2,rfl,by decide,ite2 (fun _=>⟨tyL,by omega,s2⟩) fun _=>⟨_,by rw [hkc]; rfl,_,zdZ,a2,rfl,by decide,ite2 (fun _=>⟨tyL,by omega,s3⟩) fun _=>⟨tyL,?_⟩⟩⟩⟩
    simp! [tBM0]
    exact ⟨rfl,ln,rfl,rfl,tl,s4⟩
   ·refine ⟨by decide,ite2 (fun _=>⟨tyL,by omega,s2⟩) fun _=>⟨by decide,ite2 (fun _=>⟨tyL,by omega,s3⟩) fun _=>⟨tyL,?_⟩⟩⟩
    simp! [tBM0]
    exact ⟨rfl,ln,rfl,rfl,tl,s4⟩
  ·rintro σ Hc ⟨v5,ms,rfl,am,wm,fm,lm,eLc,es,hkc,Bc,kc⟩
   rw [List.length_map,List.take_length] at *
   subst hG
   have w1:(ms.map (·.length)).sum + ms.length = wS ms:=rfl
   have e:PySem.Txt.join nl10 ms = Str.join nl10 ms:=StrLaws.glued_eq_join _ _
   have l1:=zdR (c:=10) ms
   have l2:=zeC ms
   have l1:(Str.join nl10 ms).length ≤ wS ms:=l1
   simp! [tBM]
   refine ⟨rfl,nl10,L,ms,by rw [show Str.ofString "\n" = nl10 by decide],rfl,eLc,?_,?_⟩
   ·have e:nl10.length = 1:=rfl
    rw [e]; omega
   rw [e]
   exact q _ Hc (zbB (by decide) am) (by omega) (by omega) Bc kc
noncomputable def sp_spoilt:Sp:=fun vs H Q _=>∃ (b c pk:Addr) (cs:List Int) (z:Str) (a0 a1 a2 a3:Int),vs = [.str z,.ref pk,.ref b]∧BagAt H b c cs∧H pk = some (.lst [.int a0,.int a1,.int a2,.int a3])∧0 ≤ a0∧0 ≤ a1∧0 ≤ a2∧a2 < 64∧0 ≤ a3∧a3 < 33∧Asc z∧z.length ≤ 900000∧nls z ≤ 3550∧∀ (y:Str) (H':Hp),Asc y->y.length ≤ 2 * z.length + 42700->nls y ≤ 2 * nls z + 300->BagAt H' b c cs->Kp b H H'->Q (.str y) H'
set_option maxHeartbeats 4000000 in
theorem zdo (T:Txt K mg a):FnOk P w K mg base (CX1 P w) 5 a.f_law_spoilt a.d_law_spoilt ["text","pick","bag"] sp_spoilt:=by
 refine T.F_law_spoilt.okC sc_law_spoilt (fun vs H Q E h=>?_) (fun cdv A outer s H vs Q E hr h=>?_)
 ·obtain ⟨b,c,pk,cs,z,a0,a1,a2,a3,rfl,_⟩:=h
  rfl
 ·obtain ⟨b,c,pk,cs,z,a0,a1,a2,a3,rfl,B,hk,p0,p1,p2,p2',p3,p3',az,zl,zn,q⟩:=h
  have hu:=za0 hr
  refine ⟨_,(zab (zay (zai op_lt (zar ix_F (pv 1) zac (fun _ _=>rfl)) zac (zan _)) (zae (zaq (zah (zcv T) (hr.mono (by decide)) (by rfl) T.m_law_bent_text T.F_law_bent_text.kp T.b_law_bent_text .nil zau (zaa (pv 0) (zaa (pv 1) (zaa (pv 2) pa_nil)))))) pss_nil)
   (zab (zay (zai op_eq (zar ix_F (pv 1) zac (fun _ _=>rfl)) zac (zan _)) (zae (zaq (zah (zcc T) (hr.mono (by decide)) (by rfl) T.m_law_drawn_word T.F_law_drawn_word.kp T.b_law_drawn_word .nil zau (zaa (pv 0) (zaa (pv 1) (zaa (pv 2) pa_nil)))))) pss_nil)
   (zab (zay (zai op_eq (zar ix_F (pv 1) zac (fun _ _=>rfl)) zac (zan _)) (zae (zaq (zah (zcx T) (hr.mono (by decide)) (by rfl) T.m_law_each_line T.F_law_each_line.kp T.b_law_each_line .nil zau (zaa (pv 0) (zaa (pv 1) (zaa (pv 2) pa_nil)))))) pss_nil)
   (zae (zaq (zah (zcd T) (hr.mono (by decide)) (by rfl) T.m_law_bent_lines T.F_law_bent_lines.kp T.b_law_bent_lines .nil zau (zaa (pv 0) (zaa (pv 1) pa_nil)))))))),?_⟩
  simp! [hk]
  refine ite2 (fun _=>?_) fun _=>ite2 (fun _=>?_) fun _=>ite2 (fun _=>?_) fun _=>?_
  ·exact ⟨b,c,pk,cs,z,a0,a1,a2,a3,rfl,B,hk,p0,p1,p2,az,zl,fun y H' ay ly ny B' k'=>q y H' ay (by omega) (by omega) B' k'⟩
  ·exact ⟨b,c,pk,cs,z,a0,a1,a2,a3,rfl,B,hk,p0,p1,p2,p3,az,zl,fun y H' ay ly ny B' k'=>q y H' ay (by omega) (by omega) B' k'⟩
  ·exact ⟨b,c,pk,cs,z,a0,a1,a2,a3,rfl,B,hk,p2,p3,az,zl,zn,fun y H' ay ly ny B' k'=>q y H' ay (by omega) (by omega) B' k'⟩
  ·exact ⟨pk,z,a0,a1,a2,a3,rfl,hk,p1,p2,p2',p3,p3',az,zl,fun y H' ay ly ny S=>q y H' ay (by omega) (by omega) (B.keep S) (zgU (c:=c) (cs:=cs) S)⟩
end
section
variable {P:Program} {w:World} {K:PySem.W.Frag} {mg:Str->Option Value} {base:Heap} {a:Ad}
theorem zfg {ds:List Df} {i:Nat} {d:Df} (h:ds[i]? = some d):zak (ds.take (i + 1)) = zak (ds.take i) ++ zaY d:=by
 show List.flatMap zaY _ = List.flatMap zaY _ ++ _
 rw [List.take_succ,h,List.flatMap_append]
 simp
theorem zhh {ds:List Df} (h:TxP ds) (i:Nat):(zak (ds.take i)).length ≤ 2020:=by
 have:(zak (ds.take i)).length ≤ (zak ds).length:=by
  have e:zak ds = zak (ds.take i) ++ zak (ds.drop i):=by
   show List.flatMap zaY _ = List.flatMap zaY _ ++ List.flatMap zaY _
   rw [← List.flatMap_append,List.take_append_drop]
  rw [e,List.length_append]; omega
 have:=(zde h).2.2
 omega
theorem ziT (d:Df):("def ":Str) ++ tkTx d.1.1 ++ (" ":Str) ++ d.1.2 ++ (" ":Str) ++ Str.ofString (toString d.2.1) = zbj d:=by
 unfold zbj za8
 apply L2.str_eq_of
 have e:∀ a b:Str,(a ++ b).cps.toList = a.cps.toList ++ b.cps.toList:=fun a b=>by show (a.cps ++ b.cps).toList = _; simp
 show _ = (Str.join ⟨#[32]⟩ _).cps.toList
 rw [L2.join_list]
 simp only [e,List.flatMap_cons,List.flatMap_nil,show ("def ":Str).cps.toList = [100,101,102,32] by decide,show ("def":Str).cps.toList = [100,101,102] by decide,show (" ":Str).cps.toList = [32] by decide]
 simp [strI]
theorem zfx {x:Nat} (z:Str) (zs ys:List Str):Str.join ⟨#[x]⟩ (z :: (zs ++ ys)) = Str.join ⟨#[x]⟩ (z :: zs) ++ PySem.Txt.join ("":Str) (ys.map fun y=>(⟨#[x]⟩:Str) ++ y):=by
 apply L2.str_eq_of
 have e:∀ a b:Str,(a ++ b).cps.toList = a.cps.toList ++ b.cps.toList:=fun a b=>by show (a.cps ++ b.cps).toList = _; simp
 rw [e,L2.join_list,L2.join_list,Law.join_list,List.flatMap_append,List.append_assoc,List.flatMap_map]
 congr 2
 have:(fun y:Str=>((⟨#[x]⟩:Str) ++ y).cps.toList) = fun y=>x :: y.cps.toList:=funext fun y=>by rw [e]; rfl
 rw [this]
theorem zgK {x:Nat} {y:Str}:((⟨#[x]⟩:Str) ++ y).length = y.length + 1:=by
 rw [zaz,zcD,← zaz y]; exact Nat.add_comm _ _
noncomputable def zbP (r:Row) (i:Nat):Str:=Str.join sp32 (r.1 :: (pI (r.2.take i)).map strI)
theorem zfe {r:Row} (h:TxR r) (i:Nat):(zbP r i).length ≤ 7000:=by
 have l:=zi4 h i
 have h1:∀ z ∈ (r.1 :: (pI (r.2.take i)).map strI),z.length ≤ 61:=fun z hz=>by
  rcases List.mem_cons.mp hz with rfl | hz
  ·exact (zc0 h).1 _ (by simp [zaS])
  ·obtain ⟨n,hn,rfl⟩:=List.mem_map.mp hz
   exact zbh (h.nb n (zi8 n hn))
 have:=zcj (x:=32) h1
 rw [List.length_cons,List.length_map] at this
 have m2:((pI (r.2.take i)).length + 1) * (61 + 1) ≤ 103 * 62:=Nat.mul_le_mul_right _ (by omega)
 unfold zbP sp32
 omega
noncomputable def sp_written:Sp:=fun vs H Q _=>∃ (pl:Addr) (das:List (Addr × Addr × List Addr)) (ds:List Df),vs = [.ref pl]∧ProgAt H pl das ds∧TxP ds∧∀ H',Same H H'->Q (.str (zaL ds)) H'
theorem zhR {d:Df} (h:TxD d):(("def ":Str) ++ tkTx d.1.1).length ≤ 200∧(("def ":Str) ++ tkTx d.1.1 ++ (" ":Str)).length ≤ 300∧(("def ":Str) ++ tkTx d.1.1 ++ (" ":Str) ++ d.1.2).length ≤ 400∧(("def ":Str) ++ tkTx d.1.1 ++ (" ":Str) ++ d.1.2 ++ (" ":Str)).length ≤ 500:=by
 have tl:=zcB h.tl
 have gl:d.1.2.length = 1:=by rcases h.gv with e | e <;> rw [e] <;> rfl
 have e1:("def ":Str).length = 4:=by decide
 have e2:(" ":Str).length = 1:=by decide
 have al:∀ a b:Str,(a ++ b).length = a.length + b.length:=fun a b=>by rw [zaz,zcD]; rfl
 simp only [al]
 omega
set_option maxHeartbeats 4000000 in
theorem zbO (T:Txt K mg a):FnOk P w K mg base (CX1 P w) 1 a.f_law_written a.d_law_written ["program"] sp_written:=by
 refine T.F_law_written.okC sc_law_written (fun vs H Q E h=>?_) (fun cdv A outer s H vs Q E hr h=>?_)
 ·obtain ⟨pl,das,ds,rfl,_⟩:=h
  rfl
 ·obtain ⟨pl,das,ds,rfl,PR,TP,q⟩:=h
  have hu:=za0 hr
  refine ⟨_,(zab (zal (i:=1) sc_law_written.nd (by rfl) (Or.inl rfl) (zaC pa_nil))
   (zab (zbd PassesOwn.never (by rfl) (zbm (pv 0)) (zf5 (n:=4) (by rfl) (zbp (zav (i:=2) sc_law_written.nd (by rfl) (Or.inl rfl)) (zbp (zav (i:=3) sc_law_written.nd (by rfl) (Or.inl rfl)) (zbp (zav (i:=4) sc_law_written.nd (by rfl) (Or.inl rfl)) (zbp (zav (i:=5) sc_law_written.nd (by rfl) (Or.inl rfl)) pgs_nil)))))
   (zab (zaZ (zaR PySem.F.plainAttrs_list PySem.F.slot_list_append PySem.F.type_list_append mt_append (pv 1) (zaa (zam op_add_str (zam op_add_str (zam op_add_str (zam op_add_str (zam op_add_str zaf (zar ix_F (zaC (zaa (pv 2) (zaa zaf pa_nil))) (zax call_int1 (by rfl) T.z_int (by decide +kernel) (zaa (za6 op_eq (pv 2) zaf (zan _)) pa_nil)) (fun _ _=>rfl))) zaf) (pv 3)) zaf) (zax call_strI (by rfl) T.z_str (by decide +kernel) (zaa (pv 4) pa_nil))) pa_nil)))
   (zae (zbd PassesOwn.never (by rfl) (zbm (pv 5)) (zav (i:=6) sc_law_written.nd (by rfl) (Or.inl rfl))
   (zab (zal (i:=7) sc_law_written.nd (by rfl) (Or.inl rfl) (zar ix_F (pv 6) zac (fun _ _=>rfl)))
   (zab (zbd PassesOwn.never (by rfl) (zhw (zas sl_tup (pv 6) (zaw zac) po_none)) (zav (i:=8) sc_law_written.nd (by rfl) (Or.inl rfl))
   (zae (zay (zbz (zao call_isF (by rfl) T.z_isinstance (by decide +kernel) (zaa (pv 8) (zaa (zbe (v:=.ty "tuple") (u:=.type "tuple") (by rfl) T.z_tuple (by decide +kernel) (by rfl)) pa_nil)))) (zae (zal (i:=7) sc_law_written.nd (by rfl) (Or.inl rfl) (zam op_add_str (pv 7) (zaR PySem.F.plainAttrs_str PySem.F.slot_str_join PySem.F.type_str_join mt_join zaf (zaa (za7 (N':=["q"]) (cap:=[none]) ⟨rfl,(by decide +kernel),(by decide +kernel),(by rfl),rfl,(by rfl)⟩ (by rfl) (zhw (pv 8)) (fun C_ ex_ s_ H_=>(zav (i:=0) (show (["q"]:List Str).Nodup by decide +kernel) (by rfl) (Or.inl rfl))) zaH (fun C_ ex_ s_ H_=>zaU) (fun C_ ex_ s_ H_=>(zam op_add_str zaf (zax call_strI (by rfl) T.z_str (by decide +kernel) (zaa (pv 0) pa_nil))))) pa_nil))))) (zae (zal (i:=7) sc_law_written.nd (by rfl) (Or.inl rfl) (zam op_add_str (zam op_add_str (pv 7) zaf) (zax call_strI (by rfl) T.z_str (by decide +kernel) (zaa (pv 8) pa_nil))))))))
   (zae (zaZ (zaR PySem.F.plainAttrs_list PySem.F.slot_list_append PySem.F.type_list_append mt_append (pv 1) (zaa (pv 7) pa_nil))))))))))
   (zae (zaq (zaR PySem.F.plainAttrs_str PySem.F.slot_str_join PySem.F.type_str_join mt_join zaf (zaa (pv 1) pa_nil)))))),?_⟩
  have lp:=PR.len
  generalize hG:tSeq (tFor _ _ _) _ = tail
  simp! []
  intro L nL
  have S1:Same H (upd H L (.lst [])):=.laid nL
  have e1:upd H L (.lst []) L = some (.lst []):=zad
  revert S1 e1
  generalize upd H L (.lst []) = H1
  intro S1 e1
  subst hG
  generalize hG:tRet _ = tail
  refine forL (H1:=H1) pl (das.map fun a=>V.ref a.1) (fun Q2 h2=>by simp! []; exact h2) (fun i σ Hc=>∃ v2 v3 v4 v5 v6 v7 v8:Option V,σ = [some (V.ref pl),some (V.ref L),v2,v3,v4,v5,v6,v7,v8]∧Same H Hc∧Hc L = some (.lst ((zak (ds.take i)).map V.str))) ⟨_,_,_,_,_,_,_,rfl,S1,e1⟩ (fun i σ Hc _ ⟨_,_,_,_,_,_,_,_,Sc,_⟩=>.of (Sc _ _ PR.top)) ?_ ?_
  ·rintro i x σ Hc hx ⟨v2,v3,v4,v5,v6,v7,v8,rfl,Sc,eL⟩
   obtain ⟨da,hda,rfl⟩:=zaD hx
   have il:i < ds.length:=by rw [← lp]; exact (List.getElem?_eq_some_iff.mp hda).1
   obtain ⟨d,hd⟩:∃ d,ds[i]? = some d:=⟨_,List.getElem?_eq_getElem il⟩
   have TD:=TP.ds d (List.mem_of_getElem? hd)
   obtain ⟨ht,RW⟩:=(PR.same Sc).def_ i da d hda hd
   have lk:=zfg hd
   have ll:=zhh TP i
   have rl:=TD.rl
   have tl:=TD.tl
   refine zdv ht rfl ?_
   generalize hG2:tFor _ _ _ = tail2
   obtain ⟨dl1,dl2,dl3,dl4⟩:=zhR TD
   have sl:=zbh TD.wd
   have al:∀ x y:Str,(x ++ y).length = x.length + y.length:=fun x y=>by rw [zaz,zcD]; rfl
   have gl:d.1.2.length = 1:=by rcases TD.gv with e | e <;> rw [e] <;> rfl
   have e1:("def ":Str).length = 4:=by decide
   have e2:(" ":Str).length = 1:=by decide
   have tkl:=zcB TD.tl
   simp! [tBM]
   refine ⟨.inl ⟨rfl,_,.of eL⟩,fun p np=>?_⟩
   have ea:atI [V.str d.1.1,V.str (Str.ofString "-")] (if d.1.1 = Str.ofString "" then 1 else 0) = some (V.str (tkTx d.1.1)):=by
    unfold tkTx
    by_cases c:d.1.1 = Str.ofString ""
    ·rw [if_pos c,if_pos c]; exact zdC
    ·rw [if_neg c,if_neg c]; exact zc4
   have sl:(Str.ofString (toString d.2.1)).length ≤ 61:=sl
   refine ⟨_,ea,_,rfl,by omega,by omega,by omega,by omega,logB TD.wd,by omega,?_⟩
   rw [ziT]
   have eLp:=zaj (u:=.lst [V.str d.1.1,V.str (Str.ofString "-")]) eL np
   refine ⟨L,_,_,rfl,rfl,eLp,by rw [sizeLine_eq,List.length_map]; omega,?_⟩
   have npL:p ≠ L:=fun z=>by rw [z,eL] at np; cases np
   have S2:Same H (upd (upd Hc p (.lst [V.str d.1.1,V.str (Str.ofString "-")])) L (.lst ((zak (ds.take i)).map V.str ++ [V.str (zbj d)]))):=zaM (fun c o e=>zaj (Sc _ _ e) np) nL
   have eL2:upd (upd Hc p (.lst [V.str d.1.1,V.str (Str.ofString "-")])) L (.lst ((zak (ds.take i)).map V.str ++ [V.str (zbj d)])) L = some (.lst ((zak (ds.take i) ++ [zbj d]).map V.str)):=by rw [zad,List.map_append]; rfl
   revert S2 eL2
   generalize upd (upd Hc p (.lst [V.str d.1.1,V.str (Str.ofString "-")])) L (.lst ((zak (ds.take i)).map V.str ++ [V.str (zbj d)])) = H2
   intro S2 eL2
   obtain ⟨ht2,RW2⟩:=(PR.same S2).def_ i da d hda hd
   clear eLp eL Sc np npL RW ht
   subst hG2
   refine forL (H1:=H2) da.2.1 (da.2.2.map V.ref) (fun Q2 h2=>by simp! []; exact h2) (fun j σ Hd=>∃ v6 v7 v8:Option V,σ = [some (V.ref pl),some (V.ref L),some (V.str d.1.1),some (V.str d.1.2),some (V.int d.2.1),some (V.ref da.2.1),v6,v7,v8]∧Same H Hd∧Hd L = some (.lst ((zak (ds.take i) ++ zbj d :: (d.2.2.take j).map za4).map V.str))) ⟨_,_,_,rfl,S2,eL2⟩ (fun j σ Hd _ ⟨_,_,_,_,Sd,_⟩=>.of ((PR.same Sd).def_ i da d hda hd).2.top) ?_ ?_
   ·rintro j x σ Hd hx ⟨v6,v7,v8,rfl,Sd,eLd⟩
    obtain ⟨rp,hrp,rfl⟩:=zaD hx
    obtain ⟨r,hr0⟩:∃ r,d.2.2[j]? = some r:=⟨_,List.getElem?_eq_getElem (by rw [← RW2.len]; exact (List.getElem?_eq_some_iff.mp hrp).1)⟩
    have TR:=TD.rs r (List.mem_of_getElem? hr0)
    have RA:=((PR.same Sd).def_ i da d hda hd).2.row j rp r hrp hr0
    obtain ⟨us,hp,PA⟩:=id RA
    have l3:=TR.len
    have lu:=PA.len
    generalize hG3:tSeq (tFor _ _ _) _ = tail3
    simp! [hp]
    subst hG3
    generalize hG3:zgC _ = tail3
    refine forT_ (fun tp H3=>Same Hd H3∧H3 tp = some (.tup us)) (fun Q2 hQ=>?_) ?_
    ·simp! [tSl,tNoPart,zbv,rSlT]
     refine ⟨_,.of hp,fun z=>?_,fun tp ntp=>?_⟩
     ·have:=z.1
      simp [HT.sIx] at this
     ·have ec:cutV (V.str r.1 :: us) (some 1) none = us:=zbL (V.str r.1 :: us) 1
      rw [ec] at *
      exact hQ tp _ ⟨.laid ntp,zad⟩
    rintro tp H3 ⟨S3,e3⟩
    refine forT (H1:=H3) tp us (fun Q2 h2=>h2) (fun m σ Hf=>∃ v8:Option V,σ = [some (V.ref pl),some (V.ref L),some (V.str d.1.1),some (V.str d.1.2),some (V.int d.2.1),some (V.ref da.2.1),some (V.ref rp),some (V.str (zbP r m)),v8]∧Same H3 Hf) ⟨_,by rw [show zbP r 0 = r.1 from rfl],Same.refl _⟩ (fun m σ Hf _ ⟨_,_,Sf⟩=>.of (Sf _ _ e3)) ?_ ?_
    ·rintro m x σ Hf hx ⟨v8,rfl,Sf⟩
     have ml:m < r.2.length:=by rw [← lu]; exact (List.getElem?_eq_some_iff.mp hx).1
     obtain ⟨pt,hpt⟩:∃ pt,r.2[m]? = some pt:=⟨_,List.getElem?_eq_getElem ml⟩
     have pa:=PA.at_ m x pt hx hpt
     have nbp:∀ z ∈ pOf pt,NumB z:=fun z hz=>TR.nb z (List.mem_flatMap.mpr ⟨pt,List.mem_of_getElem? hpt,hz⟩)
     have tk:=zh5 hpt
     have lup:=zfe TR m
     cases pt with
     | inl n =>
      cases (show x = .int n from pa)
      have sn:=zbh (nbp n (by simp [pOf]))
      simp! []
      have el:zbP r m ++ Str.ofString " " ++ Str.ofString (toString n) = zbP r (m + 1):=by
       unfold zbP
       rw [tk,List.map_append,show Str.ofString " " = sp32 by decide]
       exact (zfB _ _ _).symm
      have sn:(Str.ofString (toString n)).length ≤ 61:=sn
      exact ⟨by omega,logB (nbp n (by simp [pOf])),by rw [al]; omega,el,Sf⟩
     | inr l =>
      obtain ⟨qa,rfl,hqa⟩:=pa
      have hqf:=Sf _ _ (S3 _ _ hqa)
      have l100:=TR.inr (List.mem_of_getElem? hpt)
      simp! [hqf,tBM]
      refine ⟨rfl,?_⟩
      refine zi7 (H1:=Hf) qa (l.map V.int) (fun v=>match v with | .int x=>some (.str (sp32 ++ strI x)) | _=>none) (fun Q2 h2=>by simp! []; exact h2) hqf (by rw [sizeLine_eq,List.length_map]; omega) ?_ ?_
      ·intro x H4 R N hx S4 hR hN
       obtain ⟨z,hz,rfl⟩:=List.mem_map.mp hx
       have sz:(Str.ofString (toString z)).length ≤ 61:=zbh (nbp z hz)
       simp! [zaE,tTrue]
       rw [show Str.ofString " " = sp32 by decide]
       exact ⟨logB (nbp z hz),by have:sp32.length = 1:=rfl; omega,hR _ _ rfl (Same.refl _)⟩
      ·intro D H4 nD S4 e4
       have em:(l.map V.int).filterMap (fun v=>match v with | .int x=>some (V.str (sp32 ++ strI x)) | _=>none) = (((l.map strI).map fun y=>sp32 ++ y).map V.str):=by
        rw [List.filterMap_map,List.map_map,List.map_map]
        show List.filterMap (some ∘ fun x=>V.str (sp32 ++ strI x)) l = _
        rw [List.filterMap_eq_map]; rfl
       rw [em] at e4
       have h62:∀ z ∈ (l.map strI).map fun y=>sp32 ++ y,z.length ≤ 62:=fun z hz=>by
        obtain ⟨y,hy,rfl⟩:=List.mem_map.mp hz
        obtain ⟨n,hn,rfl⟩:=List.mem_map.mp hy
        have:=zbh (nbp n hn)
        have e:=zgK (x:=32) (y:=strI n)
        show ((⟨#[32]⟩:Str) ++ strI n).length ≤ 62
        omega
       have sm:=zci h62
       rw [List.length_map,List.length_map] at sm
       have m62:l.length * 62 ≤ 100 * 62:=Nat.mul_le_mul_right _ l100
       have jl:(PySem.Txt.join ("":Str) ((l.map strI).map fun y=>sp32 ++ y)).length ≤ 6200:=by
        have:=zdD _ h62
        rw [List.length_map,List.length_map] at this
        omega
       refine ⟨Str.ofString "",D,_,rfl,rfl,e4,by have:(Str.ofString "").length = 0:=rfl; rw [this]; omega,_,rfl,by omega,?_,Sf.trans S4⟩
       unfold zbP
       rw [tk,List.map_append]
       exact (zfx r.1 _ _).symm
    ·rintro σ Hf ⟨v8,rfl,Sf⟩
     rw [lu]
     subst hG3
     have eu:zbP r r.2.length = za4 r:=by unfold zbP; rw [List.take_length]; rfl
     rw [eu]
     have eLf:=Sf _ _ (S3 _ _ eLd)
     simp! [tBM]
     refine ⟨.inl ⟨rfl,_,.of eLf⟩,L,_,_,rfl,rfl,eLf,?_,?_⟩
     ·rw [sizeLine_eq,List.length_map,List.length_append,List.length_cons,List.length_map,List.length_take]; omega
     ·refine ⟨zaM (fun c o e=>Sf _ _ (S3 _ _ (Sd _ _ e))) nL,?_⟩
      rw [zad,List.take_succ,hr0]
      simp
   ·rintro σ Hd ⟨v6,v7,v8,rfl,Sd,eLd⟩
    rw [List.length_map,RW2.len,List.take_length] at eLd
    exact ⟨_,_,_,_,_,_,_,rfl,Sd,by rw [eLd,lk]; rfl⟩
  ·rintro σ Hc ⟨v2,v3,v4,v5,v6,v7,v8,rfl,Sc,eL⟩
   rw [List.length_map,lp,List.take_length] at eL
   subst hG
   obtain ⟨g1,g2,g3⟩:=zde TP
   simp! [tBM]
   refine ⟨rfl,nl10,L,zak ds,by rw [show Str.ofString "\n" = nl10 by decide],rfl,eL,g2,?_⟩
   have e:PySem.Txt.join nl10 (zak ds) = zaL ds:=StrLaws.glued_eq_join _ _
   rw [e]
   exact q Hc Sc
end
section
variable {P:Program} {w:World} {K:PySem.W.Frag} {mg:Str->Option Value} {base:Heap} {a:Ad}
noncomputable def DefA (H:Hp) (a:DA) (d:Df):Prop:=H a.1 = some (.tup [.str d.1.1,.str d.1.2,.int d.2.1,.ref a.2.1])∧RowsOf H a.2.1 a.2.2 d.2.2
theorem DefA.same {H H':Hp} {a:DA} {d:Df} (S:Same H H') (h:DefA H a d):DefA H' a d:=⟨S _ _ h.1,h.2.same S⟩
theorem DefA.put {H:Hp} {a:DA} {d:Df} {fl:Addr} {xs:List V} {u:HO} (h:DefA H a d) (hf:H fl = some (.lst xs)) (n:a.2.1 ≠ fl):DefA (upd H fl u) a d:=by
 refine ⟨by rw [zat (fun e=>by rw [← e,h.1] at hf; cases hf)]; exact h.1,?_⟩
 exact h.2.fr (M:=(· = fl)) (Fr.put rfl fun ys e=>by rw [hf] at e; cases e) n
structure DL (H:Hp) (as:List DA) (ds:List Df):Prop where
 len:as.length = ds.length
 def_:∀ (i:Nat) (a:DA) (d:Df),as[i]? = some a->ds[i]? = some d->DefA H a d
theorem DL.same {H H':Hp} {as:List DA} {ds:List Df} (S:Same H H') (h:DL H as ds):DL H' as ds:=⟨h.len,fun i a d h1 h2=>(h.def_ i a d h1 h2).same S⟩
theorem DL.put {H:Hp} {as:List DA} {ds:List Df} {fl:Addr} {xs:List V} {u:HO} (h:DL H as ds) (hf:H fl = some (.lst xs)) (n:∀ a ∈ as,a.2.1 ≠ fl):DL (upd H fl u) as ds :=
 ⟨h.len,fun i a d h1 h2=>(h.def_ i a d h1 h2).put hf (n a (List.mem_of_getElem? h1))⟩
theorem DL.snoc {H:Hp} {as:List DA} {ds:List Df} {a:DA} {d:Df} (h:DL H as ds) (hr:DefA H a d):DL H (as ++ [a]) (ds ++ [d]):=by
 refine ⟨by rw [List.length_append,List.length_append,h.len]; rfl,fun i q x h1 h2=>?_⟩
 rcases Nat.lt_trichotomy i as.length with c | c | c
 ·rw [List.getElem?_append_left c] at h1
  rw [List.getElem?_append_left (by rw [← h.len]; exact c)] at h2
  exact h.def_ i q x h1 h2
 ·subst c
  rw [List.getElem?_append_right (Nat.le_refl _),Nat.sub_self] at h1
  rw [h.len,List.getElem?_append_right (Nat.le_refl _),Nat.sub_self] at h2
  cases h1
  cases h2
  exact hr
 ·rw [List.getElem?_eq_none (by simp; omega)] at h1
  cases h1
noncomputable def zgE (r:Row):Prop:=r.2.length ≤ 3∧∀ ks:List Int,Sum.inr ks ∈ r.2->ks.length ≤ 2000000
theorem Al.row2 {H:Hp} {p q:Addr} {r:Row} (A:zbg H p r) (B:zbg H q r) (sm:zgE r):Al H 3 (.ref p) (.ref q):=by
 obtain ⟨vs,hp,PA⟩:=A
 obtain ⟨us,hq,PB⟩:=B
 have la:=PA.len
 have lb:=PB.len
 have l3:=sm.1
 refine .inr ⟨p,q,_,_,rfl,rfl,.inr ⟨hp,hq⟩,by rw [List.length_cons,List.length_cons]; omega,by rw [List.length_cons]; omega,fun i a b e1 e2=>?_⟩
 cases i with
 | zero=>cases e1; cases e2; exact .inl ⟨rfl,rfl⟩
 | succ i =>
  rw [List.getElem?_cons_succ] at e1 e2
  have hi:=(List.getElem?_eq_some_iff.mp e1).1
  have e3:=List.getElem?_eq_getElem (l:=r.2) (i:=i) (by omega)
  have pa:=PA.at_ i a _ e1 e3
  have pb:=PB.at_ i b _ e2 e3
  have mm:=List.mem_of_getElem? e3
  revert pa pb mm
  generalize r.2[i] = pt
  intro pa pb mm
  cases pt with
  | inl x=>cases (show a = .int x from pa); cases (show b = .int x from pb); exact .inl ⟨rfl,rfl⟩
  | inr ks =>
   obtain ⟨qa,rfl,ha⟩:=pa
   obtain ⟨qb,rfl,hb⟩:=pb
   have:=sm.2 ks mm
   refine .inr ⟨qa,qb,_,_,rfl,rfl,.inr ⟨ha,hb⟩,rfl,by rw [List.length_map]; omega,fun i a b e1 e2=>?_⟩
   rw [e1] at e2
   cases e2
   obtain ⟨z,_,rfl⟩:=zaD e1
   exact .inl ⟨rfl,rfl⟩
theorem Al.rows {H:Hp} {l1 l2:Addr} {rs1 rs2:List Addr} {rws:List Row} (A:RowsOf H l1 rs1 rws) (B:RowsOf H l2 rs2 rws) (sm:∀ r ∈ rws,zgE r) (ln:rws.length ≤ 2000000):Al H 4 (.ref l1) (.ref l2):=by
 have la:=A.len
 have lb:=B.len
 refine .inr ⟨l1,l2,_,_,rfl,rfl,.inl ⟨A.top,B.top⟩,by rw [List.length_map,List.length_map]; omega,by rw [List.length_map]; omega,fun i a b e1 e2=>?_⟩
 obtain ⟨p,hp,rfl⟩:=zaD e1
 obtain ⟨q,hq,rfl⟩:=zaD e2
 have il:i < rws.length:=by rw [← la]; exact (List.getElem?_eq_some_iff.mp hp).1
 have e3:=List.getElem?_eq_getElem il
 exact Al.row2 (A.row i p _ hp e3) (B.row i q _ hq e3) (sm _ (List.getElem_mem il))
theorem Al.prog {H:Hp} {p1 p2:Addr} {as bs:List DA} {ds:List Df} (A:ProgAt H p1 as ds) (B:ProgAt H p2 bs ds) (sm:∀ d ∈ ds,d.2.2.length ≤ 2000000∧∀ r ∈ d.2.2,zgE r) (ln:ds.length ≤ 2000000):Al H 6 (.ref p1) (.ref p2):=by
 have la:=A.len
 have lb:=B.len
 refine .inr ⟨p1,p2,_,_,rfl,rfl,.inl ⟨A.top,B.top⟩,by rw [List.length_map,List.length_map]; omega,by rw [List.length_map]; omega,fun i x y e1 e2=>?_⟩
 obtain ⟨p,hp,rfl⟩:=zaD e1
 obtain ⟨q,hq,rfl⟩:=zaD e2
 have il:i < ds.length:=by rw [← la]; exact (List.getElem?_eq_some_iff.mp hp).1
 have e3:=List.getElem?_eq_getElem il
 obtain ⟨a1,a2⟩:=A.def_ i p _ hp e3
 obtain ⟨b1,b2⟩:=B.def_ i q _ hq e3
 obtain ⟨s1,s2⟩:=sm _ (List.getElem_mem il)
 refine .inr ⟨p.1,q.1,_,_,rfl,rfl,.inr ⟨a1,b1⟩,rfl,by simp,fun j x y h1 h2=>?_⟩
 match j,h1,h2 with
 | 0,h1,h2=>cases h1; cases h2; exact .inl ⟨rfl,rfl⟩
 | 1,h1,h2=>cases h1; cases h2; exact .inl ⟨rfl,rfl⟩
 | 2,h1,h2=>cases h1; cases h2; exact .inl ⟨rfl,rfl⟩
 | 3,h1,h2=>cases h1; cases h2; exact Al.rows a2 b2 s2 s1
 | j + 4,h1,h2=>simp at h1
noncomputable def spLaw (K:PySem.W.Frag):Sp:=fun vs H Q _=>∃ (a:Addr) (ns:List Int),vs = [.ref a]∧SqL K H a (ns.map V.int)∧ns.length ≤ 63∧∀ H',Q (.bl true) H'
theorem LW_words:∀ p ∈ LW,(p.1 ≠ "call"->∀ c ∈ p.2.cps.toList,c = 112 ∨ c = 107 ∨ c = 116 ∨ c = 105)∧(p.1 = "call"->p.2 = "pfq"):=by decide +kernel
theorem zb3.tx {words many:Int} {sg:List Sg} {r:Row} (F:zb3 words many sg r) (w1:words ≤ 16) (m1:many ≤ 1000) (g1:sg.length ≤ 1000) (s6:∀ x ∈ sg,x.1.cps.size ≤ 6):TxR r:=by
 obtain ⟨ls,m,l,pf⟩:=F
 obtain ⟨w2,w3⟩:=LW_words _ m
 have b60:(1000:Int) < 10 ^ 60:=by decide
 have b0:-(10 ^ 60:Int) < 0:=by decide
 have part:∀ (i:Nat) (p:Part),r.2[i]? = some p->∃ c,ls.cps[i]? = some c∧zbF words many sg r.2 c p:=fun i p h=>by
  have il:=(List.getElem?_eq_some_iff.mp h).1
  have hc:=Array.getElem?_eq_getElem (show i < ls.cps.size by omega)
  exact ⟨_,hc,pf.at_ i _ p hc h⟩
 have nb1:∀ (c:Nat) (p:Part),zbF words many sg r.2 c p->∀ z ∈ pOf p,NumB z:=fun c p h z hz=>by
  rcases h with ⟨_,x,rfl,h1,h2⟩ | ⟨_,x,rfl,h1,h2⟩ | ⟨_,x,rfl,h1,h2⟩ | ⟨_,x,rfl,h1,h2⟩ | ⟨_,x,rfl,h1,h2⟩ | ⟨_,f,l',y,_,_,rfl,_,h1⟩
  ·simp [pOf] at hz; subst hz; exact ⟨by omega,by omega⟩
  ·simp [pOf] at hz; subst hz; exact ⟨by omega,by omega⟩
  ·simp [pOf] at hz; subst hz; exact ⟨by omega,by omega⟩
  ·simp [pOf] at hz; subst hz; exact ⟨by omega,by omega⟩
  ·simp [pOf] at hz; subst hz; exact ⟨h1,h2⟩
  ·obtain ⟨z0,z1⟩:=h1 z hz; exact ⟨by omega,by omega⟩
 refine ⟨⟨ls,m,fun c=>⟨l,fun x hx=>?_⟩⟩,fun c=>?_,fun z hz=>?_⟩
 ·obtain ⟨i,hi⟩:=List.mem_iff_getElem?.mp hx
  obtain ⟨ch,hc,h⟩:=part i x hi
  have:=w2 c ch (by rw [← Array.getElem?_toList] at hc; exact List.mem_of_getElem? hc)
  rcases h with ⟨_,x,rfl,_⟩ | ⟨_,x,rfl,_⟩ | ⟨_,x,rfl,_⟩ | ⟨_,x,rfl,_⟩ | ⟨_,x,rfl,_⟩ | ⟨e,_⟩
  ·exact ⟨x,rfl⟩
  ·exact ⟨x,rfl⟩
  ·exact ⟨x,rfl⟩
  ·exact ⟨x,rfl⟩
  ·exact ⟨x,rfl⟩
  ·omega
 ·have e:=w3 c
  dsimp only at e
  subst e
  have l3:r.2.length = 3:=l
  match er:r.2,l3 with
  | [u,v,x],_ =>
   have h0:=pf.at_ 0 112 u (by decide) (by rw [er]; rfl)
   have h1:=pf.at_ 1 102 v (by decide) (by rw [er]; rfl)
   have h2:=pf.at_ 2 113 x (by decide) (by rw [er]; rfl)
   rcases h0 with ⟨_,x0,rfl,_⟩ | ⟨e,_⟩ | ⟨e,_⟩ | ⟨e,_⟩ | ⟨e,_⟩ | ⟨e,_⟩
   rotate_left
   all_goals first | exact absurd e (by decide) | skip
   rcases h1 with ⟨e,_⟩ | ⟨e,_⟩ | ⟨e,_⟩ | ⟨_,x1,rfl,_⟩ | ⟨e,_⟩ | ⟨e,_⟩
   all_goals first | exact absurd e (by decide) | skip
   rcases h2 with ⟨e,_⟩ | ⟨e,_⟩ | ⟨e,_⟩ | ⟨e,_⟩ | ⟨e,_⟩ | ⟨_,f,l',y,_,hy,rfl,hl,_⟩
   all_goals first | exact absurd e (by decide) | skip
   have:=s6 y (List.mem_of_getElem? hy)
   exact ⟨x0,x1,l',rfl,by omega⟩
 ·obtain ⟨p,hp,hz⟩:=List.mem_flatMap.mp hz
  obtain ⟨i,hi⟩:=List.mem_iff_getElem?.mp hp
  obtain ⟨c,_,h⟩:=part i p hi
  exact nb1 c p h z hz
theorem ProgFit.tx {ds:List Df} (h:ProgFit ds):TxP ds:=by
 refine ⟨fun z=>by have:=h.n0; rw [z] at this; simp at this,by have:=h.n1; omega,fun d hd=>?_⟩
 have D:=h.defs d hd
 have m:d.1 ∈ ds.map (·.1):=List.mem_map.mpr ⟨d,hd,rfl⟩
 have b60:(16:Int) < 10 ^ 60:=by decide
 have b0:-(10 ^ 60:Int) < 0:=by decide
 have w0:=D.w0
 have w1:=D.w1
 have n1:=D.n1
 have dl:=h.n1
 exact ⟨h.sg.let_ d.1 m,by have:=h.sg.sz d.1 m; omega,h.sg.gives d.1 m,⟨by omega,by omega⟩,fun r hr=>(D.rows r hr).tx w1 (by omega) (by rw [List.length_map]; omega) h.sg.sz,by omega⟩
end
section
variable {P:Program} {w:World} {K:PySem.W.Frag} {mg:Str->Option Value} {base:Heap} {a:Ad}
noncomputable def TxRw (r:Row):Prop:=TxR r∧(zaB r).length ≤ 42
noncomputable def TxW (d:Df):Prop:=TxD d∧d.2.2.length ≤ 6∧∀ r ∈ d.2.2,(zaB r).length ≤ 42
theorem pI_inl:∀ ns:List Int,((ns.map Sum.inl:List Part).flatMap pOf).length = ns.length
 | []=>rfl
 | n :: ns=>by simp [pOf,pI_inl ns]
noncomputable def NL (H:Hp) (b c:Addr) (cs:List Int) (D:Addr) (j:Nat) (ys:List V) (H2:Hp):Prop:=∃ ns:List Int,ys = ns.map V.int∧ns.length = j∧(∀ n ∈ ns,NumB n)∧H2 D = some (.lst ys)∧BagAt H2 b c cs∧Kp b H H2
theorem NL.step {H H2 H3:Hp} {b c D:Addr} {cs:List Int} {j:Nat} {ys:List V} {n:Int} (hb:BagAt H b c cs) (nD:H D = none) (x:NL H b c cs D j ys H2) (hn:NumB n) (B3:BagAt H3 b c cs) (k3:Kp b H2 H3):H3 D = some (.lst ys)∧NL H b c cs D (j + 1) (ys ++ [.int n]) (upd H3 D (.lst (ys ++ [.int n]))):=by
 obtain ⟨ns,rfl,l,al,hD,B2,k2⟩:=x
 have nDb:=(hb.apart nD).1
 have nDc:=(hb.apart nD).2
 refine ⟨k3 _ _ hD nDb,ns ++ [n],by rw [List.map_append]; rfl,by rw [List.length_append,l]; rfl,fun m hm=>?_,zad,B3.other nDb nDc,fun q o h z=>?_⟩
 ·rcases List.mem_append.mp hm with h | h
  ·exact al m h
  ·rw [List.mem_singleton.mp h]; exact hn
 ·rw [zat (zaA h nD)]; exact k3 _ _ (k2 _ _ h z) z
theorem NL.nil {H:Hp} {b c D:Addr} {cs:List Int} (hb:BagAt H b c cs) (nD:H D = none):NL H b c cs D 0 [] (upd H D (.lst [])):=⟨[],rfl,rfl,by simp,zad,hb.laid nD,Kp.refl.laid nD⟩
theorem NL.top {H H2:Hp} {b c D:Addr} {cs:List Int} {j:Nat} {ys:List V} (x:NL H b c cs D j ys H2):H2 D = some (.lst ys)∧ys.length ≤ j:=by
 obtain ⟨ns,rfl,l,_,hD,_⟩:=x
 exact ⟨hD,by rw [List.length_map]; omega⟩
noncomputable def sp_wrow:Sp:=fun vs H Q _=>∃ (b c:Addr) (cs:List Int),vs = [.ref b]∧BagAt H b c cs∧∀ (p:Addr) (r:Row) (H':Hp),zbg H' p r->TxRw r->BagAt H' b c cs->Kp b H H'->Q (.ref p) H'
set_option maxHeartbeats 4000000 in
theorem zcM (T:Txt K mg a):FnOk P w K mg base (CX1 P w) 3 a.f_law_wild_row a.d_law_wild_row ["bag"] sp_wrow:=by
 refine T.F_law_wild_row.okC sc_law_wild_row (fun vs H Q E h=>?_) (fun cdv A outer s H vs Q E hr h=>?_)
 ·obtain ⟨b,c,cs,rfl,_⟩:=h
  rfl
 ·obtain ⟨b,c,cs,rfl,hb,q⟩:=h
  have hu:=za0 hr
  refine ⟨_,(zab (zal (i:=1) sc_law_wild_row.nd (by rfl) (Or.inl rfl) (zar ix_F (zax (zbs (by rfl)) (by rfl) T.z_list (by decide +kernel) (zaa (zbM (zaT T) (hr.mono (by decide)) (by rfl) T.m_law_letters T.F_law_letters.kp T.b_law_letters .nil zau) pa_nil)) (zah (zag T) (hr.mono (by decide)) (by rfl) T.m_law_draw T.F_law_draw.kp T.b_law_draw .nil zau (zaa (pv 0) (zaa zac pa_nil))) (fun _ _=>rfl)))
   (zab (zay (zai op_eq (pv 1) zaf (zan _)) (zab (zal (i:=2) sc_law_wild_row.nd (by rfl) (Or.inl rfl) (zam op_add (zah (zag T) (hr.mono (by decide)) (by rfl) T.m_law_draw T.F_law_draw.kp T.b_law_draw .nil zau (zaa (pv 0) (zaa zac pa_nil))) (zam op_mul zac (zax call_int1 (by rfl) T.z_int (by decide +kernel) (zaa (za6 op_eq (zah (zag T) (hr.mono (by decide)) (by rfl) T.m_law_draw T.F_law_draw.kp T.b_law_draw .nil zau (zaa (pv 0) (zaa zac pa_nil))) zac (zan _)) pa_nil)))))
   (zab (zal (i:=3) sc_law_wild_row.nd (by rfl) (Or.inl rfl) (zax call_tuple_of (by rfl) T.z_tuple (by decide +kernel) (zaa (za7 (N':=["k","bag"]) (cap:=[none,some 0]) ⟨rfl,(by decide +kernel),(by decide +kernel),(by rfl),rfl,(by rfl)⟩ (by rfl) (zaI (by rfl) T.z_range (zaa (pv 2) pa_nil)) (fun C_ ex_ s_ H_=>(zav (i:=0) (show (["k","bag"]:List Str).Nodup by decide +kernel) (by rfl) (Or.inl rfl))) zaH (fun C_ ex_ s_ H_=>zaU) (fun C_ ex_ s_ H_=>(zah (zaP T) (by exact hr.mono (by decide)) (by rfl) T.m_law_number T.F_law_number.kp T.b_law_number .nil zau (zaa (pv 1) pa_nil)))) pa_nil)))
   (zae (zaq (zbo (zaa zaf (zaa (zah (zaP T) (hr.mono (by decide)) (by rfl) T.m_law_number T.F_law_number.kp T.b_law_number .nil zau (zaa (pv 0) pa_nil)) (zaa (zah (zaP T) (hr.mono (by decide)) (by rfl) T.m_law_number T.F_law_number.kp T.b_law_number .nil zau (zaa (pv 0) pa_nil)) (zaa (pv 3) pa_nil))))))))) pss_nil)
   (zae (zaq (zax call_tuple_of (by rfl) T.z_tuple (by decide +kernel) (zaa (zam op_cat (zaC (zaa (pv 1) pa_nil)) (za7 (N':=["letter","bag"]) (cap:=[none,some 0]) ⟨rfl,(by decide +kernel),(by decide +kernel),(by rfl),rfl,(by rfl)⟩ (by rfl) (zcT (zeJ hu (zbM (zaT T) (hr.mono (by decide)) (by rfl) T.m_law_letters T.F_law_letters.kp T.b_law_letters .nil zau) (pv 1) (fun _ _=>rfl))) (fun C_ ex_ s_ H_=>(zav (i:=0) (show (["letter","bag"]:List Str).Nodup by decide +kernel) (by rfl) (Or.inl rfl))) zaH (fun C_ ex_ s_ H_=>zaU) (fun C_ ex_ s_ H_=>(zah (zaP T) (by exact hr.mono (by decide)) (by rfl) T.m_law_number T.F_law_number.kp T.b_law_number .nil zau (zaa (pv 1) pa_nil))))) pa_nil)))))),?_⟩
  generalize hG:tSeq (tIfS _ _ _) _ = tail
  simp! []
  refine ⟨rfl,fun p H1 S1 np e1=>⟨p,rfl,_,e1,fun l hl=>?_⟩⟩
  rw [LET_keys]
  have hb1:=hb.keep S1
  have nlb:=(hb1.apart hl).1
  refine ⟨b,c,cs,21,rfl,hb1.laid hl,by decide,by decide,fun x H2 x0 x1 hb2 k2=>?_⟩
  have k02:Kp b H H2:=(Kp.laid (fun q o h _=>S1 q o h) hl).trans k2
  have hl2:=k2 _ _ zad nlb
  obtain ⟨xN,rfl⟩:=Int.eq_ofNat_of_zero_le x0
  have hx:xN < LW.length:=by
   have:LW.length = 21:=by decide +kernel
   omega
  have hwm:=List.getElem_mem hx
  have a1:atI (LW.map fun p=>V.str p.1) ((xN:Nat):Int) = some (.str LW[xN].1):=zaQ (by rw [List.getElem?_map,List.getElem?_eq_getElem hx]; rfl)
  revert hwm a1
  generalize LW[xN] = wd
  intro hwm a1
  refine ⟨_,rfl,_,by rw [hl2]; rfl,_,a1,?_⟩
  clear hl2 hl e1 np a1 k2 nlb hb1 S1
  subst hG
  generalize hG:tRet (tCB _ _) = tail
  obtain ⟨wd1,wd2⟩:=wd
  have q2:∀ (p:Addr) (r:Row) (H':Hp),zbg H' p r->TxRw r->BagAt H' b c cs->Kp b H2 H'->Q (.ref p) H':=fun p r H' h1 h2 h3 h4=>q p r H' h1 h2 h3 (k02.trans h4)
  clear q k02 hb
  by_cases cw:wd1 = "call"
  ·subst cw
   simp! []
   refine ⟨b,c,cs,9,rfl,hb2,by decide,by decide,fun x3 H3 x30 x31 hb3 k3=>⟨b,c,cs,16,rfl,hb3,by decide,by decide,fun x4 H4 x40 x41 hb4 k4=>?_⟩⟩
   have many:∀ (m:Int),0 ≤ m->m ≤ 40->zbw [none,some 0] (zdy (zch (tVar 2) tNil)) (zbn 0) tTrue (ze5 sp_number [] E0 (zch (tVar 1) tNil)) [some (V.ref b),some (V.str (Str.ofString "call")),some (V.int m),none] H4 fun x H1=>∃ p,x = V.ref p∧∃ x,(SqL K H1 p x∧∀ (l:Addr),H1 l = none->sp_number [V.ref b] (upd H1 l (HO.tup x)) (fun x H1=>sp_number [V.ref b] H1 (fun x_1 H1=>∀ (p:Addr),H1 p = none->Q (V.ref p) (upd H1 p (HO.tup [V.str (Str.ofString "call"),x,x_1,V.ref l]))) E0) E0) ∨ SqT K H1 p x∧sp_number [V.ref b] H1 (fun x H1=>sp_number [V.ref b] H1 (fun x_1 H1=>∀ (p_1:Addr),H1 p_1 = none->Q (V.ref p_1) (upd H1 p_1 (HO.tup [V.str (Str.ofString "call"),x,x_1,V.ref p]))) E0) E0:=by
    intro m m0 m1
    refine zeu (H1:=H4) m (fun Q2 h2=>by simp! []; exact h2) (by omega) (by omega) (NL H4 b c cs) (fun D nD=>.nil hb4 nD) ?_ (by rw [sizeLine_eq]; omega) ?_ ?_
    ·rintro D nD j ys H5 hj N5
     exact N5.top
    ·rintro D nD j ys H5 hj N5
     obtain ⟨ns,_,_,_,_,B5,_⟩:=id N5
     simp! [zaE,tTrue]
     exact ⟨b,c,cs,rfl,B5,fun n H6 n0 n1 B6 k6=>N5.step hb4 nD ⟨n0,n1⟩ B6 k6⟩
    ·rintro D nD ys H5 ⟨ns,rfl,ln,al,hD,B5,k5⟩
     refine ⟨D,rfl,_,.inl ⟨.of hD,fun tl ntl=>?_⟩⟩
     have nt:=(B5.apart ntl).1
     refine ⟨b,c,cs,rfl,B5.laid ntl,fun u H6 u0 u1 B6 k6=>⟨b,c,cs,rfl,B6,fun v H7 v0 v1 B7 k7=>fun pt npt=>?_⟩⟩
     have et:=B6.tup k7 ((B5.laid ntl).tup k6 zad)
     refine q2 pt ("call",[.inl u,.inl v,.inr ns]) _ ⟨_,zad,rfl,fun i x p h1 h2=>?_⟩ ?_ (B7.laid npt) ((k3.trans k4).trans (k5.trans (((Kp.refl.laid ntl).trans k6).trans (k7.trans (Kp.refl.laid npt)))))
     ·match i,h1,h2 with
      | 0,h1,h2=>cases h1; cases h2; rfl
      | 1,h1,h2=>cases h1; cases h2; rfl
      | 2,h1,h2=>cases h1; cases h2; exact ⟨tl,rfl,zaj et npt⟩
      | i + 3,h1,h2=>simp at h1
     ·refine ⟨⟨⟨wd2,hwm,fun z=>absurd rfl z⟩,fun _=>⟨u,v,ns,rfl,by omega⟩,fun z hz=>?_⟩,by simp [zaB,pOf]; omega⟩
      simp [zaB,pOf] at hz
      rcases hz with rfl | rfl | hz
      ·exact ⟨u0,u1⟩
      ·exact ⟨v0,v1⟩
      ·exact al z hz
   refine ⟨rfl,?_⟩
   by_cases c7:V.int x4 = V.int 7
   ·rw [if_pos c7]
    exact ⟨.inl ⟨by decide,by decide⟩,x3,rfl,many _ (by omega) (by omega)⟩
   ·rw [if_neg c7]
    exact ⟨.inl ⟨by decide,by decide⟩,x3,rfl,many _ (by omega) (by omega)⟩
  ·simp! [cw]
   subst hG
   have ls3:=(LW_w _ hwm).2.2.1
   obtain ⟨_,_,vl⟩:=LW_ok _ hwm
   dsimp only at ls3 vl
   simp! []
   intro t1 n1
   have hbt:=hb2.laid n1 (u:=.lst [V.str wd1])
   have e1:upd H2 t1 (.lst [V.str wd1]) t1 = some (.lst [V.str wd1]):=zad
   have k1:Kp b H2 (upd H2 t1 (.lst [V.str wd1])):=Kp.refl.laid n1
   revert hbt e1 k1
   generalize upd H2 t1 (.lst [V.str wd1]) = H3
   intro hbt e1 k1
   refine zjg (fun z H4=>z = wd2∧Same H3 H4) (fun Q2 hQ=>?_) ?_
   ·simp! []
    refine ⟨rfl,fun pd H4 S4 _ e4=>?_⟩
    first | exact ⟨_,e4,_,vl,hQ _ _ ⟨rfl,S4⟩⟩ | exact ⟨pd,rfl,_,e4,_,vl,hQ _ _ ⟨rfl,S4⟩⟩ | exact ⟨pd,_,_,_,rfl,rfl,e4,vl,hQ _ _ ⟨rfl,S4⟩⟩
   rintro z H4 ⟨rfl,S4⟩
   have hb4:=hbt.keep S4
   refine ziz (H1:=H4) z (fun Q2 h2=>h2) (LW_ok _ hwm).2.1 (NL H4 b c cs) (fun D nD=>.nil hb4 nD) ?_ (by rw [sizeLine_eq]; omega) ?_ ?_
   ·rintro D nD j ys H5 hj N5
    exact N5.top
   ·rintro D nD j ch ys H5 hj N5
    obtain ⟨ns,_,_,_,_,B5,_⟩:=id N5
    simp! [zaE,tTrue]
    exact ⟨b,c,cs,rfl,B5,fun n H6 n0 n1 B6 k6=>N5.step hb4 nD ⟨n0,n1⟩ B6 k6⟩
   ·rintro D nD ys H5 ⟨ns,rfl,ln,al,hD,B5,k5⟩
    have nt1:t1 ≠ b:=fun e=>by
     obtain ⟨⟨i,v,st,n,h,_⟩,_⟩:=hbt
     rw [e,h] at e1; cases e1
    have e5:=k5 _ _ (S4 _ _ e1) nt1
    have k34:Kp b H3 H4:=fun q o h _=>S4 q o h
    refine ⟨t1,D,_,_,rfl,rfl,e5,hD,by rw [sizeLine_eq,List.length_map]; simp; omega,fun t2 n2=>?_⟩
    refine ⟨t2,rfl,_,.inl ⟨.of zad,fun t3 n3=>?_⟩⟩
    refine q2 t3 (wd1,ns.map Sum.inl) _ ⟨ns.map V.int,by rw [zad]; rfl,by simp,fun i x p h1 h2=>?_⟩ ⟨⟨⟨z,hwm,fun _=>⟨by rw [List.length_map]; exact ln,fun x hx=>?_⟩⟩,fun e=>absurd e cw,fun y hy=>?_⟩,by show ((ns.map Sum.inl:List Part).flatMap pOf).length ≤ 42; rw [pI_inl]; omega⟩ ((B5.laid n2).laid n3) (k1.trans (k34.trans (k5.trans ((Kp.refl.laid n2).laid n3))))
    ·rw [List.getElem?_map] at h1 h2
     obtain ⟨y,hy,rfl⟩:=Option.map_eq_some_iff.mp h1
     rw [hy] at h2
     cases h2
     rfl
    ·obtain ⟨y,_,rfl⟩:=List.mem_map.mp hx
     exact ⟨y,rfl⟩
    ·obtain ⟨p,hp,hy⟩:=List.mem_flatMap.mp hy
     obtain ⟨n,hn,rfl⟩:=List.mem_map.mp hp
     simp [pOf] at hy
     rw [hy]; exact al n hn
end
section
variable {P:Program} {w:World} {K:PySem.W.Frag} {mg:Str->Option Value} {base:Heap} {a:Ad}
theorem BagAt.nRefs {H:Hp} {b c l:Addr} {cs:List Int} {qs:List Addr} (B:BagAt H b c cs) (h:H l = some (.lst (qs.map V.ref))):l ≠ b:=fun e=>by
 obtain ⟨⟨i,v,st,n,hb,_⟩,_⟩:=B
 rw [e,hb] at h
 cases qs with
 | nil=>cases h
 | cons x r=>cases r with
  | nil=>cases h
  | cons y r=>cases h
structure RL (H:Hp) (fs:List Addr) (rws:List Row):Prop where
 len:fs.length = rws.length
 row:∀ (i:Nat) (p:Addr) (r:Row),fs[i]? = some p->rws[i]? = some r->zbg H p r
theorem RL.same {H H':Hp} {fs:List Addr} {rws:List Row} (S:Same H H') (h:RL H fs rws):RL H' fs rws:=⟨h.len,fun i p r h1 h2=>(h.row i p r h1 h2).same S⟩
theorem RL.put {H:Hp} {fs:List Addr} {rws:List Row} {fl:Addr} {xs:List V} {u:HO} (h:RL H fs rws) (hf:H fl = some (.lst xs)):RL (upd H fl u) fs rws :=
 ⟨h.len,fun i p r h1 h2=>(h.row i p r h1 h2).fr (Fr.put (M:=(· = fl)) rfl fun ys e=>by rw [hf] at e; cases e)⟩
theorem RL.snoc {H:Hp} {fs:List Addr} {rws:List Row} {p:Addr} {r:Row} (h:RL H fs rws) (hr:zbg H p r):RL H (fs ++ [p]) (rws ++ [r]):=by
 refine ⟨by rw [List.length_append,List.length_append,h.len]; rfl,fun i q x h1 h2=>?_⟩
 rcases Nat.lt_trichotomy i fs.length with c | c | c
 ·rw [List.getElem?_append_left c] at h1
  rw [List.getElem?_append_left (by rw [← h.len]; exact c)] at h2
  exact h.row i q x h1 h2
 ·subst c
  rw [List.getElem?_append_right (Nat.le_refl _),Nat.sub_self] at h1
  rw [h.len,List.getElem?_append_right (Nat.le_refl _),Nat.sub_self] at h2
  cases h1
  cases h2
  exact hr
 ·rw [List.getElem?_eq_none (by simp; omega)] at h1
  cases h1
theorem RL.kp {H H':Hp} {b c:Addr} {cs:List Int} {fs:List Addr} {rws:List Row} (B:BagAt H b c cs) (k:Kp b H H') (h:RL H fs rws):RL H' fs rws:=⟨h.len,fun i p r h1 h2=>(h.row i p r h1 h2).kp B k⟩
noncomputable def sp_wild:Sp:=fun vs H Q _=>∃ (b c:Addr) (cs:List Int),vs = [.ref b]∧BagAt H b c cs∧cs.length ≤ 63∧∀ (pl:Addr) (das:List DA) (ds:List Df) (H':Hp),ProgAt H' pl das ds->TxP ds->ds.length ≤ 10->(∀ d ∈ ds,TxW d)->BagAt H' b c cs->Kp b H H'->Q (.ref pl) H'
theorem DefA.kp {b c:Addr} {cs:List Int} {H H':Hp} {a:DA} {d:Df} (x:BagAt H b c cs) (k:Kp b H H') (n:a.2.1 ≠ b) (h:DefA H a d):DefA H' a d:=⟨x.tup k h.1,h.2.kp x k n⟩
set_option maxHeartbeats 4000000 in
theorem zef (T:Txt K mg a):FnOk P w K mg base (CX1 P w) 4 a.f_law_wild a.d_law_wild ["bag"] sp_wild:=by
 refine T.F_law_wild.okC sc_law_wild (fun vs H Q E h=>?_) (fun cdv A outer s H vs Q E hr h=>?_)
 ·obtain ⟨b,c,cs,rfl,_⟩:=h
  rfl
 ·obtain ⟨b,c,cs,rfl,hb,l63,q⟩:=h
  have hu:=za0 hr
  have pick:∀ x:Nat,(x:Int) < 2->∃ ch,atI (Str.ofString "nh").cps.toList ((x:Nat):Int) = some ch∧NH ch:=by
   intro x hx
   have hn:(Str.ofString "nh").cps.toList = [110,104]:=by decide
   rw [hn]
   match x,hx with
   | 0,_=>exact ⟨110,zc4,.inl rfl⟩
   | 1,_=>exact ⟨104,zdC,.inr rfl⟩
   | n + 2,h=>omega
  refine ⟨_,(zab (zal (i:=1) sc_law_wild.nd (by rfl) (Or.inl rfl) (zaC pa_nil))
   (zab (zbd PassesOwn.never (by rfl) (zaI (by rfl) T.z_range (zaa (zam op_add zac (zah (zag T) (hr.mono (by decide)) (by rfl) T.m_law_draw T.F_law_draw.kp T.b_law_draw .nil zau (zaa (pv 0) (zaa zac pa_nil)))) pa_nil)) (zav (i:=2) sc_law_wild.nd (by rfl) (Or.inl rfl))
   (zab (zal (i:=3) sc_law_wild.nd (by rfl) (Or.inl rfl) (zam op_add (zah (zag T) (hr.mono (by decide)) (by rfl) T.m_law_draw T.F_law_draw.kp T.b_law_draw .nil zau (zaa (pv 0) (zaa zac pa_nil))) (zam op_mul zac (zax call_int1 (by rfl) T.z_int (by decide +kernel) (zaa (za6 op_eq (zah (zag T) (hr.mono (by decide)) (by rfl) T.m_law_draw T.F_law_draw.kp T.b_law_draw .nil zau (zaa (pv 0) (zaa zac pa_nil))) zac (zan _)) pa_nil)))))
   (zab (zal (i:=4) sc_law_wild.nd (by rfl) (Or.inl rfl) (zaR PySem.F.plainAttrs_str PySem.F.slot_str_join PySem.F.type_str_join mt_join zaf (zaa (za7 (N':=["j","bag"]) (cap:=[none,some 0]) ⟨rfl,(by decide +kernel),(by decide +kernel),(by rfl),rfl,(by rfl)⟩ (by rfl) (zaI (by rfl) T.z_range (zaa (pv 3) pa_nil)) (fun C_ ex_ s_ H_=>(zav (i:=0) (show (["j","bag"]:List Str).Nodup by decide +kernel) (by rfl) (Or.inl rfl))) zaH (fun C_ ex_ s_ H_=>zaU) (fun C_ ex_ s_ H_=>(zar ix_str zaf (zah (zag T) (by exact hr.mono (by decide)) (by rfl) T.m_law_draw T.F_law_draw.kp T.b_law_draw .nil zau (zaa (pv 1) (zaa zac pa_nil))) (fun _ _=>rfl)))) pa_nil)))
   (zab (zal (i:=5) sc_law_wild.nd (by rfl) (Or.inl rfl) (zar ix_str zaf (zah (zag T) (hr.mono (by decide)) (by rfl) T.m_law_draw T.F_law_draw.kp T.b_law_draw .nil zau (zaa (pv 0) (zaa zac pa_nil))) (fun _ _=>rfl)))
   (zab (zal (i:=6) sc_law_wild.nd (by rfl) (Or.inl rfl) (zah (zaP T) (hr.mono (by decide)) (by rfl) T.m_law_number T.F_law_number.kp T.b_law_number .nil zau (zaa (pv 0) pa_nil)))
   (zab (zal (i:=7) sc_law_wild.nd (by rfl) (Or.inl rfl) (zam op_add (zah (zag T) (hr.mono (by decide)) (by rfl) T.m_law_draw T.F_law_draw.kp T.b_law_draw .nil zau (zaa (pv 0) (zaa zac pa_nil))) (zam op_fdivB (zao call_lenF (by rfl) T.z_len (by decide +kernel) (zaa (zar ix_F (pv 0) zac (fun _ _=>rfl)) pa_nil)) zac)))
   (zae (zaZ (zaR PySem.F.plainAttrs_list PySem.F.slot_list_append PySem.F.type_list_append mt_append (pv 1) (zaa (zbo (zaa (pv 4) (zaa (pv 5) (zaa (pv 6) (zaa (za7 (N':=["j","bag"]) (cap:=[none,some 0]) ⟨rfl,(by decide +kernel),(by decide +kernel),(by rfl),rfl,(by rfl)⟩ (by rfl) (zaI (by rfl) T.z_range (zaa (pv 7) pa_nil)) (fun C_ ex_ s_ H_=>(zav (i:=0) (show (["j","bag"]:List Str).Nodup by decide +kernel) (by rfl) (Or.inl rfl))) zaH (fun C_ ex_ s_ H_=>zaU) (fun C_ ex_ s_ H_=>(zah (zcM T) (by exact hr.mono (by decide)) (by rfl) T.m_law_wild_row T.F_law_wild_row.kp T.b_law_wild_row .nil zau (zaa (pv 1) pa_nil)))) pa_nil))))) pa_nil))))))))))
   (zae (zaq (pv 1))))),?_⟩
  generalize hG:tSeq (tFor _ _ _) _ = tail
  simp! []
  intro PL nPL
  have hb1:=hb.laid nPL (u:=.lst [])
  have e1:upd H PL (.lst []) PL = some (.lst []):=zad
  have k1:Kp b H (upd H PL (.lst [])):=Kp.refl.laid nPL
  have nPb:=(hb.apart nPL).1
  have nPc:=(hb.apart nPL).2
  revert hb1 e1 k1
  generalize upd H PL (.lst []) = H1
  intro hb1 e1 k1
  subst hG
  generalize hG:tRet _ = tail
  refine ziA (fun n H2=>1 ≤ n∧n ≤ 10∧BagAt H2 b c cs∧Kp b H H2∧H2 PL = some (.lst [])) (fun Q2 hQ=>?_) ?_
  ·simp! []
   exact ⟨b,c,cs,10,rfl,hb1,by decide,by decide,fun x H2 x0 x1 B2 k2=>⟨x,rfl,hQ (1 + x) _ ⟨by omega,by omega,B2,k1.trans k2,k2 _ _ e1 nPb⟩⟩⟩
  rintro n H2 ⟨n1,n2,hb2,k2,e2⟩
  refine for1 (H1:=H2) n (fun Q2 h2=>by simp! []; exact h2) (by omega) (by omega) (fun i σ Hc=>∃ (v2 v3 v4 v5 v6 v7:Option V) (das:List DA) (ds:List Df),σ = [some (V.ref b),some (V.ref PL),v2,v3,v4,v5,v6,v7]∧BagAt Hc b c cs∧Kp b H Hc∧Hc PL = some (.lst (das.map fun a=>V.ref a.1))∧DL Hc das ds∧(∀ a ∈ das,a.2.1 ≠ PL)∧ds.length = i∧∀ d ∈ ds,TxW d)
   ⟨_,_,_,_,_,_,[],[],rfl,hb2,k2,e2,⟨rfl,fun i a d h=>by simp at h⟩,by simp,rfl,by simp⟩ ?_ ?_
  ·rintro i σ Hc hi ⟨v2,v3,v4,v5,v6,v7,das,ds,rfl,B,kc,eP,D,nD,ld,al⟩
   generalize hG2:tSeq (tAsg _ (zbn 4)) _ = tail2
   simp! []
   refine ⟨b,c,cs,9,rfl,B,by decide,by decide,fun x3 H3 x30 x31 B3 k3=>⟨b,c,cs,16,rfl,B3,by decide,by decide,fun x4 H4 x40 x41 B4 k4=>?_⟩⟩
   have key:∀ (W:Int) (D':Ends),0 ≤ W->W ≤ 50->(∀ v2 v3 v4 v5 v6 v7 Hc,(∃ (das:List DA) (ds:List Df),BagAt Hc b c cs∧Kp b H Hc∧Hc PL = some (.lst (das.map fun a=>V.ref a.1))∧DL Hc das ds∧(∀ a ∈ das,a.2.1 ≠ PL)∧ds.length = i + 1∧∀ d ∈ ds,TxW d)->D'.nx [some (V.ref b),some (V.ref PL),v2,v3,v4,v5,v6,v7] Hc)->tail2 D' [some (V.ref b),some (V.ref PL),some (V.int (0 + i)),some (V.int W),v4,v5,v6,v7] H4:=by
    intro W D' W0 W1 hnx
    subst hG2
    generalize hG2:tSeq (tAsg _ (zbn 5)) _ = tail2
    have k34:=k3.trans k4
    have D4:DL H4 das ds:=⟨D.len,fun i a d h1 h2=>(D.def_ i a d h1 h2).kp B k34 (B.nRefs (D.def_ i a d h1 h2).2.top)⟩
    have eP4:=k34 _ _ eP nPb
    have kH4:=kc.trans k34
    simp! [tBM]
    refine ⟨rfl,?_⟩
    refine zeu (H1:=H4) W (fun Q2 h2=>by simp! []; exact h2) (by omega) (by omega) (fun D i ys H5=>∃ l:List Nat,l.length = i∧ys = (l.map fun c=>(⟨#[c]⟩:Str)).map V.str∧(∀ x ∈ l,NH x)∧H5 D = some (.lst ys)∧BagAt H5 b c cs∧Kp b H4 H5)
     (fun D hD=>⟨[],rfl,rfl,by simp,zad,B4.laid hD,Kp.refl.laid hD⟩) ?_ (by rw [sizeLine_eq]; omega) ?_ ?_
    ·rintro D hD i ys H5 hi ⟨l,l1,rfl,l2,hd,hb5,k5⟩
     exact ⟨hd,by rw [List.length_map,List.length_map]; omega⟩
    ·rintro D hD i ys H5 hi ⟨l,l1,rfl,l2,hd,hb5,k5⟩
     simp! [zaE,tTrue]
     refine ⟨b,c,cs,_,rfl,hb5,by omega,by omega,fun x H6 x0 x1 hb6 k6=>?_⟩
     have nD:=(B4.apart hD).1
     have nDc:=(B4.apart hD).2
     have hd6:=k6 _ _ hd nD
     obtain ⟨xN,rfl⟩:=Int.eq_ofNat_of_zero_le x0
     obtain ⟨ch,hc1,hc2⟩:=pick xN x1
     refine ⟨_,_,ch,rfl,rfl,by decide,hc1,hd6,l ++ [ch],by rw [List.length_append,l1]; rfl,by simp,fun y hy=>?_,hb6.other nD nDc,fun q o h n=>?_⟩
     ·rcases List.mem_append.mp hy with h | h
      ·exact l2 y h
      ·rw [List.mem_singleton.mp h]; exact hc2
     ·rw [zat (zaA h hD)]
      exact k6 _ _ (k5 _ _ h n) n
    ·rintro Dj hDj ys H5 ⟨l,l1,rfl,l2,hd,B5,k5⟩
     refine ⟨_,Dj,_,rfl,rfl,hd,?_,?_⟩
     ·rw [show (Str.ofString "").length = 0 by decide,Nat.mul_zero,List.map_map]
      have e1:(l.map ((fun x:Str=>x.length) ∘ fun c=>(⟨#[c]⟩:Str))) = l.map fun _=>1:=rfl
      have e2:(l.map fun _=>1).sum = l.length:=by
       clear l1 l2 hd e1
       induction l with
       | nil=>rfl
       | cons x r ih=>rw [List.map_cons,List.sum_cons,ih,List.length_cons]; omega
      rw [e1,e2]
      omega
     rw [zd2]
     subst hG2
     generalize hG2:zgC _ = tail2
     simp! []
     refine ⟨b,c,cs,2,rfl,B5,by decide,by decide,fun x6 H6 x60 x61 B6 k6=>?_⟩
     obtain ⟨xN,rfl⟩:=Int.eq_ofNat_of_zero_le x60
     obtain ⟨ch,hc1,hc2⟩:=pick xN x61
     refine ⟨_,_,ch,rfl,rfl,by decide,hc1,?_⟩
     refine ⟨b,c,cs,rfl,B6,fun wv H7 w0 w1 B7 k7=>?_⟩
     refine ⟨b,c,cs,4,rfl,B7,by decide,by decide,fun x8 H8 x80 x81 B8 k8=>?_⟩
     obtain ⟨⟨q1,q2,q3,q4,q5,_⟩,bc,_⟩:=id B8
     refine ⟨_,by rw [q5]; rfl,V.ref c,zc4,cs.length,by simp [lenF,bc],⟨by decide,by decide⟩,x8,rfl,?_⟩
     have m0:0 ≤ x8 + (cs.length:Int) / 16:=by omega
     have m1:x8 + (cs.length:Int) / 16 ≤ 6:=by omega
     revert m0 m1
     generalize x8 + (cs.length:Int) / 16 = m
     intro m0 m1
     clear q5 x80 x81 bc
     have k48:Kp b H4 H8:=k5.trans (k6.trans (k7.trans k8))
     have D8:DL H8 das ds:=⟨D4.len,fun i a d h1 h2=>(D4.def_ i a d h1 h2).kp B4 k48 (B4.nRefs (D4.def_ i a d h1 h2).2.top)⟩
     have eP8:=k48 _ _ eP4 nPb
     have kH8:=kH4.trans k48
     subst hG2
     simp! [tBM]
     refine ⟨.inl ⟨rfl,_,.of eP8⟩,?_⟩
     refine zeu (H1:=H8) m (fun Q2 h2=>by simp! []; exact h2) (by omega) (by omega) (fun D i ys H4=>∃ (rs:List Addr) (rws:List Row),ys = rs.map V.ref∧rs.length = i∧H4 D = some (.lst ys)∧RL H4 rs rws∧(∀ r ∈ rws,TxRw r)∧BagAt H4 b c cs∧Kp b H8 H4)
      (fun D hD=>⟨[],[],rfl,rfl,zad,⟨rfl,fun i p r h1 _=>by cases h1⟩,(fun r h=>by cases h),B8.laid hD,Kp.refl.laid hD⟩) ?_ (by rw [sizeLine_eq]; omega) ?_ ?_
     ·rintro D hD i ys H9 hi ⟨rs,rws,rfl,ls,h9,_⟩
      exact ⟨h9,by rw [List.length_map]; omega⟩
     ·rintro D hD i ys H9 hi ⟨rs,rws,rfl,ls,h9,R9,F9,B9,k9⟩
      simp! [zaE,tTrue]
      refine ⟨b,c,cs,rfl,B9,fun p r H10 RA RF B10 k10=>?_⟩
      have nDb:=(B8.apart hD).1
      have nDc:=(B8.apart hD).2
      have h10:=k10 _ _ h9 nDb
      have R10:=(R9.kp B9 k10).snoc RA
      refine ⟨h10,rs ++ [p],by rw [List.map_append]; rfl,by rw [List.length_append,ls]; rfl,rws ++ [r],R10.put h10,fun r' hr'=>?_,B10.other nDb nDc,(k9.trans k10).new hD⟩
      rcases List.mem_append.mp hr' with hr' | hr'
      ·exact F9 r' hr'
      ·rw [List.mem_singleton.mp hr']; exact RF
     ·rintro Dr hDr ys H9 ⟨rs,rws,rfl,ls,h9,R9,F9,B9,k9⟩
      have nDb:=(B8.apart hDr).1
      have nDP:Dr ≠ PL:=fun e=>by rw [e,eP8] at hDr; cases hDr
      have D9:DL H9 das ds:=⟨D8.len,fun i a d h1 h2=>(D8.def_ i a d h1 h2).kp B8 k9 (B8.nRefs (D8.def_ i a d h1 h2).2.top)⟩
      have eP9:=k9 _ _ eP8 nPb
      intro tp ntp
      have D10:=D9.same (Same.laid (u:=.tup [V.str ⟨l.toArray⟩,V.str ⟨#[ch]⟩,V.int wv,V.ref Dr]) ntp)
      have eP10:=zaj (u:=.tup [V.str ⟨l.toArray⟩,V.str ⟨#[ch]⟩,V.int wv,V.ref Dr]) eP9 ntp
      have R10:=R9.same (Same.laid (u:=.tup [V.str ⟨l.toArray⟩,V.str ⟨#[ch]⟩,V.int wv,V.ref Dr]) ntp)
      have DN:DefA (upd H9 tp (.tup [V.str ⟨l.toArray⟩,V.str ⟨#[ch]⟩,V.int wv,V.ref Dr])) (tp,Dr,rs) ((⟨l.toArray⟩,⟨#[ch]⟩),wv,rws):=⟨zad,zaj h9 ntp,R10.len,R10.row⟩
      have B10:=B9.laid (u:=.tup [V.str ⟨l.toArray⟩,V.str ⟨#[ch]⟩,V.int wv,V.ref Dr]) ntp
      have k10:Kp b H (upd H9 tp (.tup [V.str ⟨l.toArray⟩,V.str ⟨#[ch]⟩,V.int wv,V.ref Dr])):=(kH8.trans k9).laid ntp
      have lrw:=R9.len
      have ldl:=D9.len
      refine ⟨PL,_,_,rfl,rfl,eP10,by rw [sizeLine_eq,List.length_map]; omega,?_⟩
      refine hnx _ _ _ _ _ _ _ ⟨das ++ [(tp,Dr,rs)],ds ++ [((⟨l.toArray⟩,⟨#[ch]⟩),wv,rws)],B10.other nPb nPc,k10.new nPL,by rw [zad,List.map_append]; rfl,(D10.snoc DN).put eP10 (fun a ha=>?_),fun a ha=>?_,by rw [List.length_append,ld]; rfl,fun d hd=>?_⟩
      ·rcases List.mem_append.mp ha with h | h
       ·exact nD a h
       ·rw [List.mem_singleton.mp h]; exact nDP
      ·rcases List.mem_append.mp ha with h | h
       ·exact nD a h
       ·rw [List.mem_singleton.mp h]; exact nDP
      ·rcases List.mem_append.mp hd with h | h
       ·exact al d h
       ·rw [List.mem_singleton.mp h]
        refine ⟨⟨l2,?_,?_,⟨w0,w1⟩,fun r hr=>(F9 r hr).1,?_⟩,by show rws.length ≤ 6; omega,fun r hr=>(F9 r hr).2⟩
        ·show l.toArray.size ≤ 100
         rw [List.size_toArray]; omega
        ·rcases hc2 with h | h
         ·left; rw [h]
         ·right; rw [h]
        ·show rws.length ≤ 100
         omega
   refine ⟨rfl,?_⟩
   have hk:∀ v2 v3 v4 v5 v6 v7 Hc,(∃ (das:List DA) (ds:List Df),BagAt Hc b c cs∧Kp b H Hc∧Hc PL = some (.lst (das.map fun a=>V.ref a.1))∧DL Hc das ds∧(∀ a ∈ das,a.2.1 ≠ PL)∧ds.length = i + 1∧∀ d ∈ ds,TxW d)->(fun σ Hc=>∃ v2 v3 v4 v5 v6 v7:Option V,σ = [some (V.ref b),some (V.ref PL),v2,v3,v4,v5,v6,v7]∧BagAt Hc b c cs∧Kp b H Hc∧∃ x:List DA,Hc PL = some (HO.lst (x.map fun a=>V.ref a.1))∧∃ x_1,DL Hc x x_1∧(∀ a ∈ x,a.2.1 ≠ PL)∧x_1.length = i + 1∧∀ d ∈ x_1,TxW d) [some (V.ref b),some (V.ref PL),v2,v3,v4,v5,v6,v7] Hc:=by
    rintro v2 v3 v4 v5 v6 v7 Hc ⟨das,ds,a1,a2,a3,a4,a5,a6⟩
    exact ⟨_,_,_,_,_,_,rfl,a1,a2,das,a3,ds,a4,a5,a6⟩
   by_cases c7:V.int x4 = V.int 7
   ·rw [if_pos c7]
    exact ⟨.inl ⟨by decide,by decide⟩,x3,rfl,key _ _ (by omega) (by omega) hk⟩
   ·rw [if_neg c7]
    exact ⟨.inl ⟨by decide,by decide⟩,x3,rfl,key _ _ (by omega) (by omega) hk⟩
  ·rintro σ Hc ⟨v2,v3,v4,v5,v6,v7,das,ds,rfl,B,kc,eP,D,nD,ld,al⟩
   subst hG
   simp! []
   exact q PL das ds Hc ⟨eP,D.len,D.def_⟩ ⟨fun z=>by rw [z] at ld; simp at ld; omega,by omega,fun d hd=>(al d hd).1⟩ (by omega) al B kc
end
section
variable {P:Program} {w:World} {K:PySem.W.Frag} {mg:Str->Option Value} {base:Heap} {a:Ad}
theorem GxR.inls {r:Row} (h:GxR r) (c:r.1 ≠ "call"):r.2 = (zaB r).map Sum.inl:=by
 obtain ⟨ls,m,hw⟩:=h.w
 obtain ⟨_,l2⟩:=hw c
 have:∀ ps:List Part,(∀ x ∈ ps,∃ i,x = .inl i)->ps = (ps.flatMap pOf).map Sum.inl:=by
  intro ps
  induction ps with
  | nil=>intro _; rfl
  | cons p ps ih =>
   intro h
   obtain ⟨i,rfl⟩:=h p (by simp)
   rw [List.flatMap_cons,List.map_append,← ih fun x hx=>h x (by simp [hx])]
   rfl
 exact this _ l2
theorem nums_back:∀ l:List Int,(∀ i ∈ l,NumB i)->(l.map strI).map (fun z=>(intText? z).getD 0) = l
 | [],_=>rfl
 | x :: l,h=>by
  rw [List.map_cons,List.map_cons,nums_back l fun i hi=>h i (by simp [hi]),(zbA (h x (by simp))).2.1]
  rfl
theorem zid {r r':Row} (h:GxR r) (h':GxR r') (e:zaS r = zaS r'):r = r':=by
 simp only [zaS,List.cons.injEq] at e
 have e2:zaB r = zaB r':=by rw [← nums_back _ h.nb,e.2,nums_back _ h'.nb]
 obtain ⟨w,ps⟩:=r
 obtain ⟨w',ps'⟩:=r'
 have e1:w = w':=e.1
 subst e1
 by_cases c:w = "call"
 ·obtain ⟨p,g,l,x⟩:=h.c c
  obtain ⟨p',g',l',x'⟩:=h'.c c
  dsimp only at x x'
  subst x x'
  simp [zaB,pOf] at e2
  rw [e2.1,e2.2.1,e2.2.2]
 ·have i1:=h.inls c
  have i2:=h'.inls c
  dsimp only at i1 i2
  rw [i1,i2,e2]
theorem ziF {z z':Str} (h:∀ c ∈ z.cps.toList,NH c) (h':∀ c ∈ z'.cps.toList,NH c) (e:tkTx z = tkTx z'):z = z':=by
 have nm:∀ y:Str,(∀ c ∈ y.cps.toList,NH c)->y ≠ "-":=fun y hy z=>by
  have:=hy 45 (by rw [z]; decide)
  exact absurd this (by decide)
 unfold tkTx at e
 by_cases c:z = ""
 ·rw [if_pos c] at e
  by_cases c':z' = ""
  ·rw [c,c']
  ·rw [if_neg c'] at e
   exact absurd e.symm (nm _ h')
 ·rw [if_neg c] at e
  by_cases c':z' = ""
  ·rw [if_pos c'] at e
   exact absurd e (nm _ h)
  ·rw [if_neg c'] at e
   exact e
theorem zhO {d d':Df} (h:GxD d) (h':GxD d') (e:za8 d = za8 d'):d.1 = d'.1∧d.2.1 = d'.2.1:=by
 simp only [za8,List.cons.injEq,and_true,true_and] at e
 obtain ⟨e1,e2,e3⟩:=e
 have e4:=congrArg intText? e3
 rw [(zbA h.wd).2.1,(zbA h'.wd).2.1] at e4
 exact ⟨Prod.ext (ziF h.tk h'.tk e1) e2,Option.some.inj e4⟩
theorem zfL {d:Df} {r:Row} (h:GxD d) (h':GxR r) (e:zbj d = za4 r):False:=by
 have:=zbI h
 rw [e,zb6 h'] at this
 obtain ⟨ls,m,_⟩:=h'.w
 refine (LW_w _ m).2.2.2.2 ?_
 have:=congrArg List.head? this
 simpa [zaS,za8] using this
noncomputable def HdX (X:List Str):Prop:=X = [] ∨ ∃ d,GxD d∧X.head? = some (zbj d)
theorem rows_inj:∀ (rs rs':List Row) (X X':List Str),(∀ r ∈ rs,GxR r)->(∀ r ∈ rs',GxR r)->HdX X->HdX X'->rs.map za4 ++ X = rs'.map za4 ++ X'->rs = rs'∧X = X'
 | [],[],_,_,_,_,_,_,e=>⟨rfl,e⟩
 | [],r :: rs,X,_,_,h',hX,_,e=>by
  have e:X = za4 r :: (rs.map za4 ++ _):=e
  rcases hX with z | ⟨d,D,z⟩
  ·rw [z] at e; cases e
  ·rw [e] at z
   exact (zfL D (h' r (by simp)) (by simpa using z.symm)).elim
 | r :: rs,[],_,X,h,_,_,hX,e=>by
  have e:za4 r :: (rs.map za4 ++ _) = X:=e
  rcases hX with z | ⟨d,D,z⟩
  ·rw [z] at e; cases e
  ·rw [← e] at z
   exact (zfL D (h r (by simp)) (by simpa using z.symm)).elim
 | r :: rs,r' :: rs',X,X',h,h',hX,hX',e=>by
  have e:za4 r :: (rs.map za4 ++ X) = za4 r' :: (rs'.map za4 ++ X'):=e
  injection e with e1 e2
  have R:=h r (by simp)
  have R':=h' r' (by simp)
  have er:r = r':=zid R R' (by rw [← zb6 R,← zb6 R',e1])
  obtain ⟨i1,i2⟩:=rows_inj rs rs' X X' (fun x hx=>h x (by simp [hx])) (fun x hx=>h' x (by simp [hx])) hX hX' e2
  exact ⟨by rw [er,i1],i2⟩
theorem hdx {p:List Df} (h:∀ d ∈ p,GxD d):HdX (zak p):=by
 cases p with
 | nil=>exact .inl rfl
 | cons d p=>exact .inr ⟨d,h d (by simp),rfl⟩
theorem lines_inj:∀ (p q:List Df),(∀ d ∈ p,GxD d)->(∀ d ∈ q,GxD d)->zak p = zak q->p = q
 | [],[],_,_,_=>rfl
 | [],d :: q,_,_,e=>by
  have e:[] = zbj d :: (d.2.2.map za4 ++ zak q):=e
  cases e
 | d :: p,[],_,_,e=>by
  have e:zbj d :: (d.2.2.map za4 ++ zak p) = []:=e
  cases e
 | d :: p,d' :: q,h,h',e=>by
  have e:zbj d :: (d.2.2.map za4 ++ zak p) = zbj d' :: (d'.2.2.map za4 ++ zak q):=e
  injection e with e1 e2
  have D:=h d (by simp)
  have D':=h' d' (by simp)
  have hp:∀ x ∈ p,GxD x:=fun x hx=>h x (by simp [hx])
  have hq:∀ x ∈ q,GxD x:=fun x hx=>h' x (by simp [hx])
  obtain ⟨x1,x2⟩:=zhO D D' (by rw [← zbI D,← zbI D',e1])
  obtain ⟨y1,y2⟩:=rows_inj _ _ _ _ D.rs D'.rs (hdx hp) (hdx hq) e2
  rw [lines_inj p q hp hq y2]
  obtain ⟨a,b,c⟩:=d
  obtain ⟨a',b',c'⟩:=d'
  dsimp only at x1 x2 y1
  rw [x1,x2,y1]
theorem zgL {p q:List Df} (G:GxP p) (G':GxP q) (e:zaL p = zaL q):p = q:=lines_inj p q G.ds G'.ds (by rw [← zbK G,← zbK G',e])
theorem RdAt.up {H0 H1 H:Hp} {pl:Addr} {das:List DA} {q:List Df} (x:RdAt H1 H pl das q) (S:Same H0 H1):RdAt H0 H pl das q:=⟨x.at_,S.trans x.sm,S.free x.np,x.nd,x.np2,fun a h=>S.free (x.fr a h)⟩
noncomputable def sp_lread:Sp:=fun vs H Q _=>∃ (z:Str),vs = [.str z]∧Asc z∧z.length ≤ 1900000 ∧
 (NoTx z->∀ r tl H',Same H H'->H' r = some (.tup [.non,.ref tl])->H' tl = some (.lst [.bl true,.bl true,.bl false])->Q (.ref r) H') ∧
 (∀ (ds:List Df) (pl:Addr) (das:List DA) (r tl:Addr) (H':Hp),GxP ds->z = zaL ds->RdAt H H' pl das ds->H' r = some (.tup [.ref pl,.ref tl])->H' tl = some (.lst [])->Q (.ref r) H')
set_option maxHeartbeats 4000000 in
theorem zeg (T:Txt K mg a):FnOk P w K mg base (CX1 P w) 4 a.f_law_read a.d_law_read ["text"] sp_lread:=by
 refine T.F_law_read.okC sc_law_read (fun vs H Q E h=>?_) (fun cdv A outer s H vs Q E hr h=>?_)
 ·obtain ⟨z,rfl,_⟩:=h
  rfl
 ·obtain ⟨z,rfl,az,lz,qn,q⟩:=h
  have hu:=za0 hr
  refine ⟨_,(zab (zal (i:=1) sc_law_read.nd (by rfl) (Or.inl rfl) zbH)
   (zab (zal (i:=2) sc_law_read.nd (by rfl) (Or.inl rfl) (zaC pa_nil))
   (zab (zgT (i:=3) T.xt (by rfl) T.m_HoldError (by rfl) (by rfl) sc_law_read.nd (by rfl) (by rfl) (fun pn_ W_ R_ hW_=>(zae (zal (i:=1) sc_law_read.nd (by rfl) (Or.inl rfl) (zgN (zif T) (hr.mono (by decide)) (by rfl) T.m_read T.F_read.kp T.b_read .nil hW_ (zaa (pv 0) pa_nil))))) (fun e_=>(zab (zal (i:=4) sc_law_read.nd (by rfl) (Or.inl rfl) (zaC (zaa (zao (zbD T.xt) (by rfl) T.z_isinstance (by decide +kernel) (zaa (pv 3) (zaa (zbu (v:=.ref a.c_NoSpot) (by rfl) T.m_NoSpot (by rfl)) pa_nil))) (zaa (zao (zbD T.xt) (by rfl) T.z_isinstance (by decide +kernel) (zaa (pv 3) (zaa (zbu (v:=.ref a.c_NoThing) (by rfl) T.m_NoThing (by rfl)) pa_nil))) (zaa (zao (zbD T.xt) (by rfl) T.z_isinstance (by decide +kernel) (zaa (pv 3) (zaa (zbu (v:=.ref a.c_NotFormed) (by rfl) T.m_NotFormed (by rfl)) pa_nil))) pa_nil)))))
   (zab (zal (i:=4) sc_law_read.nd (by rfl) (Or.inl rfl) (zam op_cat (pv 4) (zaC (zaa (zao (zbD T.xt) (by rfl) T.z_isinstance (by decide +kernel) (zaa (pv 3) (zaa (zbu (v:=.ref a.c_NoTable) (by rfl) T.m_NoTable (by rfl)) pa_nil))) (zaa (zao (zbD T.xt) (by rfl) T.z_isinstance (by decide +kernel) (zaa (pv 3) (zaa (zbu (v:=.ref a.c_Faulty) (by rfl) T.m_Faulty (by rfl)) pa_nil))) pa_nil)))))
   (zae (zal (i:=2) sc_law_read.nd (by rfl) (Or.inl rfl) (zaC (zaa (zao (zbD T.xt) (by rfl) T.z_isinstance (by decide +kernel) (zaa (pv 3) (zaa (zbe (v:=.ty "ValueError") (u:=.type "ValueError") (by rfl) T.z_ValueError (by decide +kernel) (by rfl)) pa_nil))) (zaa (zao (zbD T.xt) (by rfl) T.z_isinstance (by decide +kernel) (zaa (pv 3) (zaa (zbu (v:=.ref a.c_NoText) (by rfl) T.m_NoText (by rfl)) pa_nil))) (zaa (za6 (zfi (K:=K) (by rfl)) zcw (pv 4) (by with_unfolding_all rfl)) pa_nil))))))))))
   (zae (zaq (zbo (zaa (pv 1) (zaa (pv 2) pa_nil)))))))),?_⟩
  generalize hT:tSeq (tAsg _ (zbn 4)) _ = th
  by_cases o:NoTx z
  rotate_left
  ·simp! []
   intro p np
   simp! [zgc]
   refine ⟨z,rfl,az,lz,fun ds pl das H2 G e RD r nr=>?_,fun n=>absurd n o⟩
   have S2:=RD.sm
   exact q ds pl das r p _ G e ((RD.same (Same.laid nr)).up (Same.laid np)) zad (zaj (S2 _ _ zad) nr)
  ·simp! []
   intro p np
   simp! [zgc]
   refine ⟨z,rfl,az,lz,fun ds pl das H2 G e RD=>absurd e (o ds G),fun _ H2 S2=>⟨a.c_NoText,by simp,rfl,fun ea he=>?_⟩⟩
   subst hT
   have hE:upd H2 ea (excO a.c_NoText ea) ea = some (excO a.c_NoText ea):=zad
   have SE:Same H (upd H2 ea (excO a.c_NoText ea)):=((Same.laid np).trans S2).step he
   revert hE SE
   generalize upd H2 ea (excO a.c_NoText ea) = H3
   intro hE SE
   have nd:=T.xt.nd
   have m1':a.c_NoText ∈ [a.c_HoldError,a.c_NoSpot,a.c_NoThing,a.c_NoText,a.c_NotFormed,a.c_NoTable,a.c_Faulty]:=by simp
   have f1:decide (a.c_NoText = a.c_NoSpot ∨ a.c_NoSpot = a.c_HoldError) = false:=decide_eq_false fun e=>by rcases e with e | e <;> (rw [e] at nd; simp at nd)
   have f2:decide (a.c_NoText = a.c_NoThing ∨ a.c_NoThing = a.c_HoldError) = false:=decide_eq_false fun e=>by rcases e with e | e <;> (rw [e] at nd; simp at nd)
   have f3:decide (a.c_NoText = a.c_NotFormed ∨ a.c_NotFormed = a.c_HoldError) = false:=decide_eq_false fun e=>by rcases e with e | e <;> (rw [e] at nd; simp at nd)
   have f4:decide (a.c_NoText = a.c_NoTable ∨ a.c_NoTable = a.c_HoldError) = false:=decide_eq_false fun e=>by rcases e with e | e <;> (rw [e] at nd; simp at nd)
   have f5:decide (a.c_NoText = a.c_Faulty ∨ a.c_Faulty = a.c_HoldError) = false:=decide_eq_false fun e=>by rcases e with e | e <;> (rw [e] at nd; simp at nd)
   have f6:decide (a.c_NoText = a.c_NoText ∨ a.c_NoText = a.c_HoldError) = true:=decide_eq_true (.inl rfl)
   generalize hR:tSeq (tAsg (tOp rCat _ _) _) _ = t2
   have FIN2:∀ (D:Ends) (v2 v3:Option V) (p1:Addr) (H4:Hp),H4 ea = some (excO a.c_NoText ea)->H4 p1 = some (.lst [.bl false,.bl false,.bl false])->(∀ p4 H5,Same H4 H5->H5 p4 = some (.lst [.bl true,.bl true,.bl false])->∀ v5,D.nx [some (.str z),v2,some (.ref p4),some (.ref ea),v5] H5)->t2 D [some (.str z),v2,v3,some (.ref ea),some (.ref p1)] H4:=by
    intro D v2 v3 p1 H4 hE4 h1 nx
    subst hR
    simp! []
    refine ⟨ea,_,hE4,m1',.inl ⟨rfl,by simp,ea,_,hE4,m1',.inl ⟨rfl,by simp,?_⟩⟩⟩
    rw [f4,f5]
    intro p2 np2
    have h1':=zaj (u:=.lst [.bl false,.bl false]) h1 np2
    have h2':upd H4 p2 (.lst [.bl false,.bl false]) p2 = some (.lst [.bl false,.bl false]):=zad
    have S2':Same H4 (upd H4 p2 (.lst [.bl false,.bl false])):=.laid np2
    revert h1' h2' S2'
    generalize upd H4 p2 (.lst [.bl false,.bl false]) = H5
    intro h1' h2' S2'
    simp! [rCat,h1',h2']
    intro p3 np3
    have hE5:=zaj (u:=.lst [.bl false,.bl false,.bl false,.bl false,.bl false]) (S2' _ _ hE4) np3
    have h3:upd H5 p3 (.lst [.bl false,.bl false,.bl false,.bl false,.bl false]) p3 = some (.lst [.bl false,.bl false,.bl false,.bl false,.bl false]):=zad
    have S3':=S2'.step np3 (u:=.lst [.bl false,.bl false,.bl false,.bl false,.bl false])
    revert hE5 h3 S3'
    generalize upd H5 p3 (.lst [.bl false,.bl false,.bl false,.bl false,.bl false]) = H6
    intro hE5 h3 S3'
    refine ⟨ea,_,hE5,m1',rfl,ea,_,hE5,m1',.inl ⟨rfl,m1',?_⟩⟩
    refine ⟨p3,_,rfl,.inl (.of h3),rfl,rfl,fun p4 np4=>?_⟩
    rw [f6]
    exact nx p4 _ (S3'.step np4) zad _
   simp! [zhk]
   refine ⟨ea,_,hE,m1',.inl ⟨rfl,by simp,ea,_,hE,m1',.inl ⟨rfl,by simp,ea,_,hE,m1',.inl ⟨rfl,by simp,?_⟩⟩⟩⟩
   rw [f1,f2,f3]
   intro p1 np1
   refine FIN2 _ _ _ p1 _ (zaj hE np1) zad fun p4 H5 S5 h5 v5=>?_
   exact ⟨_,rfl,_,rfl,fun r nr=>qn o r p4 _ (((SE.step np1).trans S5).step nr) zad (zaj h5 nr)⟩
theorem GxP.sm {ds:List Df} (G:GxP ds) (l:(zaL ds).length ≤ 1900000):(∀ d ∈ ds,d.2.2.length ≤ 2000000∧∀ r ∈ d.2.2,zgE r)∧ds.length ≤ 2000000:=by
 have ln:(zak ds).length ≤ 1900001:=by
  cases e:zak ds with
  | nil=>simp
  | cons z zs =>
   have:=(zcb (c:=10) (zs:=zak ds) (p:=z) (by rw [e]; simp)).2.2
   rw [e] at this
   have:(z :: zs).length ≤ (zaL ds).length + 1:=by unfold zaL nl10; rw [e]; exact this
   omega
 have lz:∀ z ∈ zak ds,z.length ≤ 1900000:=fun z hz=>Nat.le_trans (zcb (c:=10) hz).1 l
 have le:∀ p:List Df,p.length ≤ (zak p).length∧∀ d ∈ p,d.2.2.length ≤ (zak p).length:=by
  intro p
  induction p with
  | nil=>exact ⟨Nat.le_refl _,by simp⟩
  | cons d p ih =>
   have e:(zak (d :: p)).length = d.2.2.length + 1 + (zak p).length:=by show (zaY d ++ zak p).length = _; rw [List.length_append,zbN]
   rw [e,List.length_cons]
   refine ⟨by omega,fun x hx=>?_⟩
   rcases List.mem_cons.mp hx with rfl | hx
   ·omega
   ·have:=ih.2 x hx; omega
 refine ⟨fun d hd=>⟨by have:=(le ds).2 d hd; omega,fun r hr=>?_⟩,by have:=(le ds).1; omega⟩
 have R:=(G.ds d hd).rs r hr
 have rl:=lz (za4 r) (List.mem_flatMap.mpr ⟨d,hd,by simp only [zaY,List.mem_cons,List.mem_map]; exact .inr ⟨r,hr,rfl⟩⟩)
 have h3:=(zcb (c:=32) (zs:=zaS r) (p:=r.1) (by simp [zaS])).2.2
 have h3:(zaS r).length ≤ (za4 r).length + 1:=h3
 have e3:(zaS r).length = (zaB r).length + 1:=by simp [zaS]
 obtain ⟨ls,m,hw⟩:=R.w
 have w3:=(LW_w _ m).2.2.1
 dsimp only at w3
 by_cases c:r.1 = "call"
 ·obtain ⟨p,g,lq,e⟩:=R.c c
  have ep:zaB r = p :: g :: lq:=by unfold zaB; rw [e]; simp [pOf]
  rw [ep] at e3
  refine ⟨by rw [e]; simp,fun q hq=>?_⟩
  rw [e] at hq
  simp at hq
  rw [hq]
  simp at e3
  omega
 ·obtain ⟨h4,h5⟩:=hw c
  refine ⟨by omega,fun q hq=>?_⟩
  obtain ⟨i,z⟩:=h5 _ hq
  cases z
theorem zgG {ds:List Df} (h:GxP ds):Asc (zaL ds):=zaO.mpr fun c hc=>by
 rcases zcz hc with rfl | ⟨z,hz,hc⟩
 ·decide
 ·exact (zcL h z hz c hc).2
theorem zb3.p8 {words many:Int} {sg:List Sg} {r:Row} (F:zb3 words many sg r) (X:TxR r) (s6:∀ x ∈ sg,x.1.cps.size ≤ 6):(zaB r).length ≤ 8:=by
 by_cases c:r.1 = "call"
 ·obtain ⟨ls,m,l,pf⟩:=F
  obtain ⟨w2,w3⟩:=LW_words _ m
  have e:=w3 c
  dsimp only at e
  subst e
  have l3:r.2.length = 3:=l
  match er:r.2,l3 with
  | [u,v,x],_ =>
   have h0:=pf.at_ 0 112 u (by decide) (by rw [er]; rfl)
   have h1:=pf.at_ 1 102 v (by decide) (by rw [er]; rfl)
   have h2:=pf.at_ 2 113 x (by decide) (by rw [er]; rfl)
   rcases h0 with ⟨_,x0,rfl,_⟩ | ⟨e,_⟩ | ⟨e,_⟩ | ⟨e,_⟩ | ⟨e,_⟩ | ⟨e,_⟩
   rotate_left
   all_goals first | exact absurd e (by decide) | skip
   rcases h1 with ⟨e,_⟩ | ⟨e,_⟩ | ⟨e,_⟩ | ⟨_,x1,rfl,_⟩ | ⟨e,_⟩ | ⟨e,_⟩
   all_goals first | exact absurd e (by decide) | skip
   rcases h2 with ⟨e,_⟩ | ⟨e,_⟩ | ⟨e,_⟩ | ⟨e,_⟩ | ⟨e,_⟩ | ⟨_,f,l',y,_,hy,rfl,hl,_⟩
   all_goals first | exact absurd e (by decide) | skip
   have:=s6 y (List.mem_of_getElem? hy)
   have ep:zaB r = x0 :: x1 :: l':=by unfold zaB; rw [er]; simp [pOf]
   rw [ep]
   simp
   omega
 ·obtain ⟨ls,m,hw⟩:=X.w
  obtain ⟨l1,l2⟩:=hw c
  have s3:=(LW_w _ m).2.2.1
  have:∀ ps:List Part,(∀ x ∈ ps,∃ i,x = .inl i)->(ps.flatMap pOf).length = ps.length:=by
   intro ps
   induction ps with
   | nil=>intro _; rfl
   | cons p ps ih =>
    intro h
    obtain ⟨i,rfl⟩:=h p (by simp)
    rw [List.flatMap_cons,List.length_append,ih fun x hx=>h x (by simp [hx])]
    simp [pOf]; omega
  unfold zaB
  rw [this _ l2,l1]
  dsimp only at s3
  omega
theorem zgm {ds:List Df} (X:TxP ds) {n m k:Nat} (hn:ds.length ≤ n) (hm:∀ d ∈ ds,d.2.2.length ≤ m) (hk:∀ d ∈ ds,∀ r ∈ d.2.2,(zaB r).length ≤ k) (k8:8 ≤ k):(zak ds).length ≤ n * (m + 1)∧∀ z ∈ zak ds,z.length ≤ (k + 1) * 62:=by
 constructor
 ·have:∀ ds:List Df,(∀ d ∈ ds,d.2.2.length ≤ m)->(zak ds).length ≤ ds.length * (m + 1):=by
   intro ds
   induction ds with
   | nil=>intro _; simp [zak]
   | cons d ds ih =>
    intro h
    have h1:=ih fun x hx=>h x (by simp [hx])
    have h2:=h d (by simp)
    have e:(zak (d :: ds)).length = d.2.2.length + 1 + (zak ds).length:=by show (zaY d ++ zak ds).length = _; rw [List.length_append,zbN]
    rw [e,List.length_cons,Nat.add_mul]
    omega
  exact Nat.le_trans (this ds hm) (Nat.mul_le_mul_right _ hn)
 ·intro z hz
  obtain ⟨d,hd,hz⟩:=List.mem_flatMap.mp hz
  have D:=X.ds d hd
  rcases List.mem_cons.mp hz with rfl | hz
  ·have h1:∀ z ∈ za8 d,z.length ≤ 100:=fun z hz=>by
    simp only [za8,List.mem_cons,List.not_mem_nil,or_false] at hz
    rcases hz with rfl | rfl | rfl | rfl
    ·decide
    ·exact zcB D.tl
    ·rcases D.gv with e | e <;> rw [e] <;> decide
    ·have:=zbh D.wd; omega
   have:=zcj (x:=32) h1
   have e:(za8 d).length = 4:=rfl
   rw [e] at this
   unfold zbj sp32
   omega
  ·obtain ⟨r,hr,rfl⟩:=List.mem_map.mp hz
   have h1:=(zc0 (D.rs r hr)).1
   have jl:=zcj (x:=32) h1
   have e:(zaS r).length = (zaB r).length + 1:=by simp [zaS]
   have:=hk d hd r hr
   rw [e] at jl
   have:((zaB r).length + 1) * (61 + 1) ≤ (k + 1) * 62:=Nat.mul_le_mul_right _ (by omega)
   unfold za4 sp32
   omega
theorem zhG {ds:List Df} (X:TxP ds) {n b:Nat} (h1:(zak ds).length ≤ n) (h2:∀ z ∈ zak ds,z.length ≤ b):(zaL ds).length ≤ n * (b + 1)∧nls (zaL ds) ≤ n:=by
 have jw:=zdR (c:=10) (zak ds)
 have jn:=zeC (zak ds)
 have s:=zci h2
 have jw:(zaL ds).length ≤ wS (zak ds):=jw
 have jn:nls (zaL ds) ≤ fS (zak ds):=jn
 have m0:mS (zak ds) = 0:=by
  have:∀ l:List Str,(∀ z ∈ l,nls z = 0)->(l.map nls).sum = 0:=by
   intro l
   induction l with
   | nil=>intro _; rfl
   | cons z l ih =>
    intro h
    rw [List.map_cons,List.sum_cons,h z (by simp),ih fun y hy=>h y (by simp [hy])]
  refine this _ fun z hz=>?_
  unfold nls
  exact List.count_eq_zero.mpr fun h=>(zcL X.g z hz 10 h).1 rfl
 have w:wS (zak ds) ≤ n * (b + 1):=by
  have:(zak ds).length * (b + 1) ≤ n * (b + 1):=Nat.mul_le_mul_right _ h1
  rw [Nat.mul_add,Nat.mul_one] at this
  unfold wS
  omega
 have f:fS (zak ds) = mS (zak ds) + (zak ds).length:=rfl
 omega
theorem ziE {ds:List Df} (X:TxP ds) (l:ds.length ≤ 10) (w:∀ d ∈ ds,TxW d):(zaL ds).length ≤ 186690∧nls (zaL ds) ≤ 328:=by
 obtain ⟨h1,h2⟩:=zgm X (n:=10) (m:=6) (k:=42) l (fun d hd=>(w d hd).2.1) (fun d hd=>(w d hd).2.2) (by decide)
 have:=zhG X h1 h2
 omega
theorem fit_b {ds:List Df} (F:ProgFit ds):(zaL ds).length ≤ 186690∧nls (zaL ds) ≤ 328:=by
 have X:=F.tx
 obtain ⟨h1,h2⟩:=zgm X (n:=8) (m:=40) (k:=8) F.n1 (fun d hd=>by have:=(F.defs d hd).n1; omega) (fun d hd r hr=>((F.defs d hd).rows r hr).p8 ((X.ds d hd).rs r hr) F.sg.sz) (by decide)
 have:=zhG X h1 h2
 omega
end
section
variable {P:Program} {w:World} {K:PySem.W.Frag} {mg:Str->Option Value} {base:Heap} {a:Ad}
noncomputable def PkL (H:Hp) (b D:Addr) (ps:List (Addr × Int × Int × Int × Int)):Prop:=H D = some (.lst (ps.map fun x=>V.ref x.1))∧D ≠ b∧∀ x ∈ ps,H x.1 = some (.lst [.int x.2.1,.int x.2.2.1,.int x.2.2.2.1,.int x.2.2.2.2])∧0 ≤ x.2.1∧0 ≤ x.2.2.1∧(0 ≤ x.2.2.2.1∧x.2.2.2.1 < 64)∧(0 ≤ x.2.2.2.2∧x.2.2.2.2 < 33)∧x.1 ≠ D∧x.1 ≠ b
theorem PkL.kp {H H':Hp} {b D:Addr} {ps:List (Addr × Int × Int × Int × Int)} (k:Kp b H H') (h:PkL H b D ps):PkL H' b D ps:=⟨k _ _ h.1 h.2.1,h.2.1,fun x hx=>by
 obtain ⟨e1,e2,e3,e4,e5,e6,e7⟩:=h.2.2 x hx
 exact ⟨k _ _ e1 e7,e2,e3,e4,e5,e6,e7⟩⟩
theorem Kp.of {b:Addr} {H H':Hp} (S:Same H H'):Kp b H H':=fun q o h _=>S q o h
noncomputable def ziH (z:Str) (H:Hp) (v:V):Prop:=(v = .non∧NoTx z) ∨ ∃ ds pl das,v = .ref pl∧GxP ds∧z = zaL ds∧ProgAt H pl das ds
set_option maxHeartbeats 4000000 in
theorem zi3 (T:Txt K mg a):FnOk P w K mg base (CX1 P w) 7 a.f_law a.d_law ["script"] (spLaw K):=by
 refine T.F_law.okC sc_law (fun vs H Q E h=>?_) (fun cdv A outer s H vs Q E hr h=>?_)
 ·obtain ⟨r,ns,rfl,_⟩:=h
  rfl
 ·obtain ⟨r,ns,rfl,hS,_,fin⟩:=h
  have hu:=za0 hr
  refine ⟨_,(zab (zal (i:=1) sc_law.nd (by rfl) (Or.inl rfl) (zah (ze8 T) (hr.mono (by decide)) (by rfl) T.m_law_bag T.F_law_bag.kp T.b_law_bag .nil zau (zaa (pv 0) pa_nil)))
   (zab (zal (i:=2) sc_law.nd (by rfl) (Or.inl rfl) (za6 op_eq (zah (zag T) (hr.mono (by decide)) (by rfl) T.m_law_draw T.F_law_draw.kp T.b_law_draw .nil zau (zaa (pv 1) (zaa zac pa_nil))) zac (zan _)))
   (zab (zal (i:=3) sc_law.nd (by rfl) (Or.inl rfl) (zaC pa_nil))
   (zab (zbd PassesOwn.never (by rfl) (zaI (by rfl) T.z_range (zaa (zah (zag T) (hr.mono (by decide)) (by rfl) T.m_law_draw T.F_law_draw.kp T.b_law_draw .nil zau (zaa (pv 1) (zaa zac pa_nil))) pa_nil)) (zav (i:=4) sc_law.nd (by rfl) (Or.inl rfl))
   (zae (zaZ (zaR PySem.F.plainAttrs_list PySem.F.slot_list_append PySem.F.type_list_append mt_append (pv 3) (zaa (zaC (zaa (zah (zag T) (hr.mono (by decide)) (by rfl) T.m_law_draw T.F_law_draw.kp T.b_law_draw .nil zau (zaa (pv 1) (zaa zac pa_nil))) (zaa (zah (zag T) (hr.mono (by decide)) (by rfl) T.m_law_draw T.F_law_draw.kp T.b_law_draw .nil zau (zaa (pv 1) (zaa (zam op_pow zac zac) pa_nil))) (zaa (zah (zag T) (hr.mono (by decide)) (by rfl) T.m_law_draw T.F_law_draw.kp T.b_law_draw .nil zau (zaa (pv 1) (zaa zac pa_nil))) (zaa (zah (zag T) (hr.mono (by decide)) (by rfl) T.m_law_draw T.F_law_draw.kp T.b_law_draw .nil zau (zaa (pv 1) (zaa zac pa_nil))) pa_nil))))) pa_nil)))))
   (zab (zay (zbz (pv 2)) (zae (zal (i:=5) sc_law.nd (by rfl) (Or.inl rfl) (zah (zbO T) (hr.mono (by decide)) (by rfl) T.m_law_written T.F_law_written.kp T.b_law_written .nil zau (zaa (zah (zef T) (hr.mono (by decide)) (by rfl) T.m_law_wild T.F_law_wild.kp T.b_law_wild .nil zau (zaa (pv 1) pa_nil)) pa_nil)))) (zae (zal (i:=5) sc_law.nd (by rfl) (Or.inl rfl) (zah (zbO T) (hr.mono (by decide)) (by rfl) T.m_law_written T.F_law_written.kp T.b_law_written .nil zau (zaa (zah (zc3 T) (hr.mono (by decide)) (by rfl) T.m_law_program T.F_law_program.kp T.b_law_program .nil zau (zaa (pv 1) pa_nil)) pa_nil)))))
   (zab (zbd PassesOwn.never (by rfl) (zbm (pv 3)) (zav (i:=6) sc_law.nd (by rfl) (Or.inl rfl))
   (zae (zal (i:=5) sc_law.nd (by rfl) (Or.inl rfl) (zah (zdo T) (hr.mono (by decide)) (by rfl) T.m_law_spoilt T.F_law_spoilt.kp T.b_law_spoilt .nil zau (zaa (pv 5) (zaa (pv 6) (zaa (pv 1) pa_nil)))))))
   (zab (zal (i:=7) sc_law.nd (by rfl) (Or.inl rfl) (zah (zcf T) (hr.mono (by decide)) (by rfl) T.m_law_program_of T.F_law_program_of.kp T.b_law_program_of .nil zau (zaa (pv 5) pa_nil)))
   (zab (zbd PassesOwn.never (by rfl) (zaI (by rfl) T.z_range (zaa zac pa_nil)) (zav (i:=4) sc_law.nd (by rfl) (Or.inl rfl))
   (zab (zbQ (zah (zeg T) (hr.mono (by decide)) (by rfl) T.m_law_read T.F_law_read.kp T.b_law_read .nil zau (zaa (pv 5) pa_nil)) (zf5 (n:=2) (by rfl) (zbp (zav (i:=8) sc_law.nd (by rfl) (Or.inl rfl)) (zbp (zav (i:=9) sc_law.nd (by rfl) (Or.inl rfl)) pgs_nil))))
   (zab (zay (PW.pt (zbT (zbZ (zco (pv 7))) (zbt (PW.pt (zck (zbZ (zfD (pv 8))) (zbJ (zai (ziK hu) (pv 9) (zaC (zaa zcw (zaa zcw (zaa zcw pa_nil)))) (zan _)))))))) (zae (zaq zcw)) pss_nil)
   (zae (zay (PW.pt (zbT (zbZ (zfD (pv 7))) (zbt (PW.pt (zck (zai (zgf hu) (pv 9) (zaC pa_nil) (zan _)) (zbJ (zcY (zbz (zah (zcr T 6) (hr.mono (by decide)) (by rfl) T.m_law_alike T.F_law_alike.kp T.b_law_alike .nil zau (zaa (pv 8) (zaa (pv 7) pa_nil))))))))))) (zae (zaq zcw)) pss_nil)))))
   (zae (zaq zcw)))))))))),?_⟩
  generalize hG:tSeq (tFor _ _ _) _ = tail
  simp! []
  refine ⟨r,ns,rfl,hS,fun b c cs H00 nb nc B00 S00=>?_⟩
  refine ⟨b,c,cs,2,rfl,B00,by decide,by decide,fun wv H0 w0 w1 B0 k0=>⟨rfl,?_⟩⟩
  intro D nD
  generalize decide (V.int wv = V.int 1) = wb
  obtain ⟨Db,Dc⟩:=B0.apart nD
  have B1:=B0.laid (u:=.lst []) nD
  have e1:PkL (upd H0 D (.lst [])) b D []:=⟨zad,Db,fun x h=>by cases h⟩
  revert B1 e1
  generalize upd H0 D (.lst []) = H1
  intro B1 e1
  clear k0 B0 B00 S00 nD nb nc hS
  subst hG
  generalize hG:tSeq (tIfS _ _ _) _ = tail
  refine ziA (fun n H2=>0 ≤ n∧n ≤ 3∧BagAt H2 b c cs∧PkL H2 b D []) (fun Q2 hQ=>?_) ?_
  ·simp! []
   exact ⟨b,c,cs,4,rfl,B1,by decide,by decide,fun x H2 x0 x1 B2 k2=>hQ x _ ⟨x0,by omega,B2,e1.kp k2⟩⟩
  rintro n H2 ⟨n0,n3,B2,e2⟩
  refine for1 (H1:=H2) n (fun Q2 h2=>by simp! []; exact h2) (by omega) (by omega) (fun i σ Hc=>∃ (v4 v5 v6 v7 v8 v9:Option V) (ps:List (Addr × Int × Int × Int × Int)),σ = [some (V.ref r),some (V.ref b),some (V.bl (wb)),some (V.ref D),v4,v5,v6,v7,v8,v9]∧BagAt Hc b c cs∧PkL Hc b D ps∧ps.length = i)
   ⟨_,_,_,_,_,_,[],rfl,B2,e2,rfl⟩ ?_ ?_
  ·rintro i σ Hc hi ⟨v4,v5,v6,v7,v8,v9,ps,rfl,B,PK,lp⟩
   simp! [tBM]
   refine ⟨.inl ⟨rfl,_,.of PK.1⟩,?_⟩
   refine ⟨b,c,cs,_,rfl,B,by decide,by decide,fun a0 H8 a00 a01 B8 k8=>?_⟩
   refine ⟨by first | decide | (unfold CPow; decide) | exact ⟨by decide,by decide⟩,b,c,cs,_,rfl,B8,by decide,by decide,fun a1 H9 a10 a11 B9 k9=>?_⟩
   refine ⟨b,c,cs,_,rfl,B9,by decide,by decide,fun a2 H10 a20 a21 B10 k10=>?_⟩
   refine ⟨b,c,cs,_,rfl,B10,by decide,by decide,fun a3 H11 a30 a31 B11 k11=>?_⟩
   intro p np
   have PK11:=PK.kp (((k8.trans k9).trans k10).trans k11)
   obtain ⟨pb,pc⟩:=B11.apart np
   have pD:p ≠ D:=fun e=>by rw [e,PK11.1] at np; cases np
   refine ⟨D,_,_,rfl,rfl,zaj PK11.1 np,by rw [sizeLine_eq,List.length_map]; omega,(B11.laid np).other PK.2.1 Dc,ps ++ [(p,a0,a1,a2,a3)],⟨by rw [zad,List.map_append]; rfl,PK.2.1,fun x hx=>?_⟩,by rw [List.length_append,lp]; rfl⟩
   rcases List.mem_append.mp hx with hx | hx
   ·obtain ⟨e1,e2,e3,e4,e5,e6,e7⟩:=PK11.2.2 x hx
    exact ⟨by rw [zat e6]; exact zaj e1 np,e2,e3,e4,e5,e6,e7⟩
   ·rw [List.mem_singleton.mp hx]
    exact ⟨by rw [zat pD]; exact zad,a00,a10,⟨a20,a21⟩,⟨a30,a31⟩,pD,pb⟩
  ·rintro σ Hc ⟨v4,v5,v6,v7,v8,v9,ps,rfl,B,PK,lp⟩
   have l3:ps.length ≤ 3:=by omega
   subst hG
   generalize hG:tSeq (tFor _ _ _) _ = tail
   have GO:∀ (ds:List Df) (H4:Hp),(zaL ds).length ≤ 186690->nls (zaL ds) ≤ 328->GxP ds->BagAt H4 b c cs->PkL H4 b D ps->tail { nx:=fun _ H'=>Q V.non H',rt:=Q } [some (V.ref r),some (V.ref b),some (V.bl (wb)),some (V.ref D),v4,some (V.str (zaL ds)),v6,v7,v8,v9] H4:=by
    intro ds H4 tl tn G B4 PK4
    have ta:=zgG G
    subst hG
    generalize hG:tSeq (tAsg _ _) _ = tail
    refine forL (H1:=H4) D (ps.map fun x=>V.ref x.1) (fun Q2 h2=>by simp! []; exact h2) (fun i σ Hc=>∃ (z:Str) (v6:Option V),σ = [some (V.ref r),some (V.ref b),some (V.bl (wb)),some (V.ref D),v4,some (V.str z),v6,v7,v8,v9]∧Asc z∧z.length + 42700 ≤ 229390 * 2 ^ i∧nls z + 300 ≤ 630 * 2 ^ i∧BagAt Hc b c cs∧PkL Hc b D ps)
     ⟨zaL ds,_,rfl,ta,by omega,by omega,B4,PK4⟩ (fun i σ Hc _ ⟨_,_,_,_,_,_,_,pk⟩=>.of pk.1) ?_ ?_
    ·rintro i x σ Hc hx ⟨z,v6,rfl,az,lz,nz,B5,PK5⟩
     obtain ⟨pk,hpk,rfl⟩:=zaD hx
     have il:=(List.getElem?_eq_some_iff.mp hpk).1
     obtain ⟨e1,e2,e3,e4,e5,e6⟩:=PK5.2.2 pk (List.mem_of_getElem? hpk)
     have p2:2 ^ i ≤ 4:=by
      have:i = 0 ∨ i = 1 ∨ i = 2:=by omega
      rcases this with rfl | rfl | rfl <;> decide
     have ps1:229390 * 2 ^ (i + 1) = 2 * (229390 * 2 ^ i):=by rw [Nat.pow_succ]; omega
     have ps2:630 * 2 ^ (i + 1) = 2 * (630 * 2 ^ i):=by rw [Nat.pow_succ]; omega
     simp! []
     refine ⟨b,c,pk.1,cs,z,_,_,_,_,rfl,B5,e1,e2,e3,e4.1,e4.2,e5.1,e5.2,az,by omega,by omega,fun y H6 ay ly ny B6 k6=>?_⟩
     exact ⟨y,rfl,ay,by omega,by omega,B6,PK5.kp k6⟩
    ·rintro σ Hc ⟨z,v6,rfl,az,lz,nz,B5,PK5⟩
     rw [List.length_map] at lz nz
     have p3:2 ^ ps.length ≤ 8:=by
      have:ps.length = 0 ∨ ps.length = 1 ∨ ps.length = 2 ∨ ps.length = 3:=by omega
      rcases this with e | e | e | e <;> rw [e] <;> decide
     have lz2:z.length ≤ 1900000:=by omega
     subst hG
     generalize hG:tSeq (tFor _ _ _) _ = tail
     have LOOP:∀ (v:V) (H6:Hp),ziH z H6 v->tail { nx:=fun _ H'=>Q V.non H',rt:=Q } [some (V.ref r),some (V.ref b),some (V.bl (wb)),some (V.ref D),v4,some (V.str z),v6,some v,v8,v9] H6:=by
      intro v H6 du
      subst hG
      refine for1 (H1:=H6) 2 (fun Q2 h2=>by simp! []; exact h2) (by decide) (by decide) (fun i σ Hc=>∃ (v4 v8 v9:Option V),σ = [some (V.ref r),some (V.ref b),some (V.bl (wb)),some (V.ref D),v4,some (V.str z),v6,some v,v8,v9]∧ziH z Hc v) ⟨_,_,_,rfl,du⟩ ?_ ?_
      ·rintro i σ Hc hi ⟨v4,v8,v9,rfl,du⟩
       generalize hG:tSeq (tIfS _ _ _) _ = tail
       simp! []
       refine ⟨z,rfl,az,lz2,fun no rr tl H7 S7 hr hl=>?_,fun dq fl fas rr tl H7 G ez RD hr hl=>?_⟩
       ·refine zdv hr rfl ?_
        subst hG
        rcases du with ⟨rfl,_⟩ | ⟨ds',pl,das,_,G',ez',_⟩
        rotate_left
        ·exact absurd ez' (no ds' G')
        simp! [hl]
        intro p np
        have h7:=zaj (u:=.lst [V.bl true,V.bl true,V.bl false]) hl np
        have ee:eqVs [V.bl true,V.bl true,V.bl false] [V.bl true,V.bl true,V.bl false] = true:=by first | rfl | decide
        refine ⟨true,[V.bl true,V.bl true,V.bl false],by rw [h7]; rfl,by rw [h7]; rfl,rfl,rfl,rfl,?_⟩
        rw [if_neg (by rw [ee]; simp)]
        exact .inl ⟨rfl,no⟩
       ·refine zdv hr rfl ?_
        subst hG
        rcases du with ⟨_,no⟩ | ⟨ds',pl,das,rfl,G',ez',A'⟩
        ·exact absurd ez (no dq G)
        have ed:=zgL G G' (ez.symm.trans ez')
        subst ed
        simp! [hl]
        intro p np
        have h7:=zaj (u:=.lst []) hl np
        have S7:=RD.sm.step np (u:=.lst [])
        have R7:=RD.at_.same (Same.laid (u:=.lst []) np)
        subst ez
        obtain ⟨m1,m2⟩:=G.sm lz2
        refine ⟨_,by rw [h7]; rfl,by rw [h7]; rfl,?_⟩
        rw [if_neg (by simp)]
        refine ⟨_,_,rfl,.prog R7 (A'.same S7) m1 m2,true,rfl,?_⟩
        rw [if_neg (by simp)]
        exact .inr ⟨dq,pl,das,rfl,G,rfl,A'.same S7⟩
      ·rintro σ Hc ⟨v4,v8,v9,rfl,du⟩
       simp! []
       exact fin _
     simp! []
     exact ⟨z,rfl,az,lz2,fun dq pl das H6 G' ez RD=>LOOP _ _ (.inr ⟨dq,pl,das,rfl,G',ez,RD.at_⟩),fun no H6 S6=>LOOP _ _ (.inl ⟨rfl,no⟩)⟩
   cases wb
   rotate_left
   ·simp! []
    refine ⟨b,c,cs,rfl,B,B.len,fun pl das ds H3 PR X l10 W B3 k3=>⟨pl,das,ds,rfl,PR,X,fun H4 S4=>?_⟩⟩
    obtain ⟨t1,t2⟩:=ziE X l10 W
    exact GO ds H4 t1 t2 X.g (B3.keep S4) ((PK.kp k3).kp (Kp.of S4))
   ·simp! []
    refine ⟨b,c,cs,rfl,B,fun pl das ds H3 PR FIT _ _ B3 k3=>⟨pl,das,ds,rfl,PR,FIT.tx,fun H4 S4=>?_⟩⟩
    obtain ⟨t1,t2⟩:=fit_b FIT
    exact GO ds H4 t1 t2 FIT.tx.g (B3.keep S4) ((PK.kp k3).kp (Kp.of S4))
end
set_option maxHeartbeats 4000000 in
theorem all_mk {l:PySem.W.OpenLaw} {w:World} {K:PySem.W.Frag} {h:Heap} {mg:Str->Option Value} {fa:Addr} {X_NoText:Addr} {X_HoldError:Addr} {X_NoSpot:Addr} {X_NoThing:Addr} {X_NotFormed:Addr} {X_NoTable:Addr} {X_Faulty:Addr} {f0 f1 f2 f3 f4 f5 f6 f7 f8 f9 f10 f11 f12 f13 f14 f15 f16 f17 f18 f19 f20 f21 f22 f23 f24 f25 f26 f27 f28 f29 f30 f31:Addr} {tk_FIGURES:Nat} {tk_MOST_FIGURES:Nat} {gK_PARTS:Addr}
  (X:K.In h) (G:h.Ns mainGlobals mg) (hfa:mg "law" = some (.ref fa))
  (aX_NoText:PySem.W.nsIn K mainGlobals "NoText" = some (some (.ref X_NoText))) (qX_NoText:XCls K X_NoText)
  (aX_HoldError:PySem.W.nsIn K mainGlobals "HoldError" = some (some (.ref X_HoldError)))
  (aX_NoSpot:PySem.W.nsIn K mainGlobals "NoSpot" = some (some (.ref X_NoSpot)))
  (aX_NoThing:PySem.W.nsIn K mainGlobals "NoThing" = some (some (.ref X_NoThing)))
  (aX_NotFormed:PySem.W.nsIn K mainGlobals "NotFormed" = some (some (.ref X_NotFormed)))
  (aX_NoTable:PySem.W.nsIn K mainGlobals "NoTable" = some (some (.ref X_NoTable)))
  (aX_Faulty:PySem.W.nsIn K mainGlobals "Faulty" = some (some (.ref X_Faulty)))
  (xT:HT.xTab K X_HoldError [X_HoldError,X_NoSpot,X_NoThing,X_NoText,X_NotFormed,X_NoTable,X_Faulty] = true)
  (a0:PySem.W.nsIn K mainGlobals "parts_of" = some (some (.ref f0)))
  (F0:∃ fd,Fun K "parts_of" "parts_of" s_parts_of f0 fd)
  (a1:PySem.W.nsIn K mainGlobals "read_whole" = some (some (.ref f1)))
  (F1:∃ fd,Fun K "read_whole" "read_whole" s_read_whole f1 fd)
  (a2:PySem.W.nsIn K mainGlobals "read_takes" = some (some (.ref f2)))
  (F2:∃ fd,Fun K "read_takes" "read_takes" s_read_takes f2 fd)
  (a3:PySem.W.nsIn K mainGlobals "read_head" = some (some (.ref f3)))
  (F3:∃ fd,Fun K "read_head" "read_head" s_read_head f3 fd)
  (a4:PySem.W.nsIn K mainGlobals "read_row" = some (some (.ref f4)))
  (F4:∃ fd,Fun K "read_row" "read_row" s_read_row f4 fd)
  (a5:PySem.W.nsIn K mainGlobals "read" = some (some (.ref f5)))
  (F5:∃ fd,Fun K "read" "read" s_read f5 fd)
  (a6:PySem.W.nsIn K mainGlobals "_law_bag" = some (some (.ref f6)))
  (F6:∃ fd,Fun K "_law_bag" "_law_bag" s_law_bag f6 fd)
  (a7:PySem.W.nsIn K mainGlobals "_law_draw" = some (some (.ref f7)))
  (F7:∃ fd,Fun K "_law_draw" "_law_draw" s_law_draw f7 fd)
  (a8:PySem.W.nsIn K mainGlobals "_law_letters" = some (some (.ref f8)))
  (F8:∃ fd,Fun K "_law_letters" "_law_letters" s_law_letters f8 fd)
  (a9:PySem.W.nsIn K mainGlobals "_law_number" = some (some (.ref f9)))
  (F9:∃ fd,Fun K "_law_number" "_law_number" s_law_number f9 fd)
  (a10:PySem.W.nsIn K mainGlobals "_law_part" = some (some (.ref f10)))
  (F10:∃ fd,Fun K "_law_part" "_law_part" s_law_part f10 fd)
  (a11:PySem.W.nsIn K mainGlobals "_law_row" = some (some (.ref f11)))
  (F11:∃ fd,Fun K "_law_row" "_law_row" s_law_row f11 fd)
  (a12:PySem.W.nsIn K mainGlobals "_law_rows" = some (some (.ref f12)))
  (F12:∃ fd,Fun K "_law_rows" "_law_rows" s_law_rows f12 fd)
  (a13:PySem.W.nsIn K mainGlobals "_law_signs" = some (some (.ref f13)))
  (F13:∃ fd,Fun K "_law_signs" "_law_signs" s_law_signs f13 fd)
  (a14:PySem.W.nsIn K mainGlobals "_law_program" = some (some (.ref f14)))
  (F14:∃ fd,Fun K "_law_program" "_law_program" s_law_program f14 fd)
  (a15:PySem.W.nsIn K mainGlobals "_law_wild_row" = some (some (.ref f15)))
  (F15:∃ fd,Fun K "_law_wild_row" "_law_wild_row" s_law_wild_row f15 fd)
  (a16:PySem.W.nsIn K mainGlobals "_law_wild" = some (some (.ref f16)))
  (F16:∃ fd,Fun K "_law_wild" "_law_wild" s_law_wild f16 fd)
  (a17:PySem.W.nsIn K mainGlobals "_law_written" = some (some (.ref f17)))
  (F17:∃ fd,Fun K "_law_written" "_law_written" s_law_written f17 fd)
  (a18:PySem.W.nsIn K mainGlobals "_law_any_sign" = some (some (.ref f18)))
  (F18:∃ fd,Fun K "_law_any_sign" "_law_any_sign" s_law_any_sign f18 fd)
  (a19:PySem.W.nsIn K mainGlobals "_law_run" = some (some (.ref f19)))
  (F19:∃ fd,Fun K "_law_run" "_law_run" s_law_run f19 fd)
  (a20:PySem.W.nsIn K mainGlobals "_law_bent_text" = some (some (.ref f20)))
  (F20:∃ fd,Fun K "_law_bent_text" "_law_bent_text" s_law_bent_text f20 fd)
  (a21:PySem.W.nsIn K mainGlobals "_law_bent_lines" = some (some (.ref f21)))
  (F21:∃ fd,Fun K "_law_bent_lines" "_law_bent_lines" s_law_bent_lines f21 fd)
  (a22:PySem.W.nsIn K mainGlobals "_law_drawn_word" = some (some (.ref f22)))
  (F22:∃ fd,Fun K "_law_drawn_word" "_law_drawn_word" s_law_drawn_word f22 fd)
  (a23:PySem.W.nsIn K mainGlobals "_law_each_line" = some (some (.ref f23)))
  (F23:∃ fd,Fun K "_law_each_line" "_law_each_line" s_law_each_line f23 fd)
  (a24:PySem.W.nsIn K mainGlobals "_law_spoilt" = some (some (.ref f24)))
  (F24:∃ fd,Fun K "_law_spoilt" "_law_spoilt" s_law_spoilt f24 fd)
  (a25:PySem.W.nsIn K mainGlobals "_law_value" = some (some (.ref f25)))
  (F25:∃ fd,Fun K "_law_value" "_law_value" s_law_value f25 fd)
  (a26:PySem.W.nsIn K mainGlobals "_law_head" = some (some (.ref f26)))
  (F26:∃ fd,Fun K "_law_head" "_law_head" s_law_head f26 fd)
  (a27:PySem.W.nsIn K mainGlobals "_law_line" = some (some (.ref f27)))
  (F27:∃ fd,Fun K "_law_line" "_law_line" s_law_line f27 fd)
  (a28:PySem.W.nsIn K mainGlobals "_law_program_of" = some (some (.ref f28)))
  (F28:∃ fd,Fun K "_law_program_of" "_law_program_of" s_law_program_of f28 fd)
  (a29:PySem.W.nsIn K mainGlobals "_law_read" = some (some (.ref f29)))
  (F29:∃ fd,Fun K "_law_read" "_law_read" s_law_read f29 fd)
  (a30:PySem.W.nsIn K mainGlobals "_law_alike" = some (some (.ref f30)))
  (F30:∃ fd,Fun K "_law_alike" "_law_alike" s_law_alike f30 fd)
  (a31:PySem.W.nsIn K mainGlobals "law" = some (some (.ref f31)))
  (F31:∃ fd,Fun K "law" "law" s_law f31 fd)
  (z_ValueError:PySem.W.nsIn K mainGlobals "ValueError" = some none)
  (z_abs:PySem.W.nsIn K mainGlobals "abs" = some none)
  (z_all:PySem.W.nsIn K mainGlobals "all" = some none)
  (z_bool:PySem.W.nsIn K mainGlobals "bool" = some none)
  (z_int:PySem.W.nsIn K mainGlobals "int" = some none)
  (z_isinstance:PySem.W.nsIn K mainGlobals "isinstance" = some none)
  (z_len:PySem.W.nsIn K mainGlobals "len" = some none)
  (z_list:PySem.W.nsIn K mainGlobals "list" = some none)
  (z_range:PySem.W.nsIn K mainGlobals "range" = some none)
  (z_str:PySem.W.nsIn K mainGlobals "str" = some none)
  (z_tuple:PySem.W.nsIn K mainGlobals "tuple" = some none)
  (aK_FIGURES:PySem.W.nsIn K mainGlobals "FIGURES" = some (some (.str "0123456789" tk_FIGURES)))
  (aK_MOST_FIGURES:PySem.W.nsIn K mainGlobals "MOST_FIGURES" = some (some (.int (60) tk_MOST_FIGURES)))
  (aK_PARTS:PySem.W.nsIn K mainGlobals "PARTS" = some (some (.ref gK_PARTS))) (kK_PARTS:rdK K 6 (.ref gK_PARTS) = some kd_PARTS) :
  ∃ fd:FuncData,(∀ (s:Shared) (v:Value),BindsTo s fd ⟨[v],[]⟩ [("script",v)])∧∀ base:Heap,K.In base->base.Ns mainGlobals mg->FnOk l.prog w K mg base (CX1 l.prog w) 7 fa fd ["script"] (spLaw K):=by
 have e:=hfa.symm.trans (PySem.W.mg_of X G a31)
 cases e
 obtain ⟨_,F0⟩:=F0
 have b0:=F0.binds (ps:=["word"]) fun _ _ _ _ _ _ us hl=>by obtain ⟨_,rfl⟩:=lq1 us hl; rfl
 obtain ⟨_,F1⟩:=F1
 have b1:=F1.binds (ps:=["text","most"]) fun _ _ _ _ _ _ us hl=>by obtain ⟨_,_,rfl⟩:=lq2 us hl; rfl
 obtain ⟨_,F2⟩:=F2
 have b2:=F2.binds (ps:=["part"]) fun _ _ _ _ _ _ us hl=>by obtain ⟨_,rfl⟩:=lq1 us hl; rfl
 obtain ⟨_,F3⟩:=F3
 have b3:=F3.binds (ps:=["parts"]) fun _ _ _ _ _ _ us hl=>by obtain ⟨_,rfl⟩:=lq1 us hl; rfl
 obtain ⟨_,F4⟩:=F4
 have b4:=F4.binds (ps:=["parts"]) fun _ _ _ _ _ _ us hl=>by obtain ⟨_,rfl⟩:=lq1 us hl; rfl
 obtain ⟨_,F5⟩:=F5
 have b5:=F5.binds (ps:=["text"]) fun _ _ _ _ _ _ us hl=>by obtain ⟨_,rfl⟩:=lq1 us hl; rfl
 obtain ⟨_,F6⟩:=F6
 have b6:=F6.binds (ps:=["script"]) fun _ _ _ _ _ _ us hl=>by obtain ⟨_,rfl⟩:=lq1 us hl; rfl
 obtain ⟨_,F7⟩:=F7
 have b7:=F7.binds (ps:=["bag","many"]) fun _ _ _ _ _ _ us hl=>by obtain ⟨_,_,rfl⟩:=lq2 us hl; rfl
 obtain ⟨_,F8⟩:=F8
 have b8:=F8.binds (ps:=[]) fun _ _ _ _ _ _ us hl=>match us,hl with | [],_=>rfl
 obtain ⟨_,F9⟩:=F9
 have b9:=F9.binds (ps:=["bag"]) fun _ _ _ _ _ _ us hl=>by obtain ⟨_,rfl⟩:=lq1 us hl; rfl
 obtain ⟨_,F10⟩:=F10
 have b10:=F10.binds (ps:=["bag","letter","words","many","signs"]) fun _ _ _ _ _ _ us hl=>by obtain ⟨_,_,_,_,_,rfl⟩:=lq5 us hl; rfl
 obtain ⟨_,F11⟩:=F11
 have b11:=F11.binds (ps:=["bag","word","words","many","signs"]) fun _ _ _ _ _ _ us hl=>by obtain ⟨_,_,_,_,_,rfl⟩:=lq5 us hl; rfl
 obtain ⟨_,F12⟩:=F12
 have b12:=F12.binds (ps:=["bag","words","many","signs"]) fun _ _ _ _ _ _ us hl=>by obtain ⟨_,_,_,_,rfl⟩:=lq4 us hl; rfl
 obtain ⟨_,F13⟩:=F13
 have b13:=F13.binds (ps:=["bag","many"]) fun _ _ _ _ _ _ us hl=>by obtain ⟨_,_,rfl⟩:=lq2 us hl; rfl
 obtain ⟨_,F14⟩:=F14
 have b14:=F14.binds (ps:=["bag"]) fun _ _ _ _ _ _ us hl=>by obtain ⟨_,rfl⟩:=lq1 us hl; rfl
 obtain ⟨_,F15⟩:=F15
 have b15:=F15.binds (ps:=["bag"]) fun _ _ _ _ _ _ us hl=>by obtain ⟨_,rfl⟩:=lq1 us hl; rfl
 obtain ⟨_,F16⟩:=F16
 have b16:=F16.binds (ps:=["bag"]) fun _ _ _ _ _ _ us hl=>by obtain ⟨_,rfl⟩:=lq1 us hl; rfl
 obtain ⟨_,F17⟩:=F17
 have b17:=F17.binds (ps:=["program"]) fun _ _ _ _ _ _ us hl=>by obtain ⟨_,rfl⟩:=lq1 us hl; rfl
 obtain ⟨_,F18⟩:=F18
 have b18:=F18.binds (ps:=["bag"]) fun _ _ _ _ _ _ us hl=>by obtain ⟨_,rfl⟩:=lq1 us hl; rfl
 obtain ⟨_,F19⟩:=F19
 have b19:=F19.binds (ps:=["bag"]) fun _ _ _ _ _ _ us hl=>by obtain ⟨_,rfl⟩:=lq1 us hl; rfl
 obtain ⟨_,F20⟩:=F20
 have b20:=F20.binds (ps:=["text","pick","bag"]) fun _ _ _ _ _ _ us hl=>by obtain ⟨_,_,_,rfl⟩:=lq3 us hl; rfl
 obtain ⟨_,F21⟩:=F21
 have b21:=F21.binds (ps:=["text","pick"]) fun _ _ _ _ _ _ us hl=>by obtain ⟨_,_,rfl⟩:=lq2 us hl; rfl
 obtain ⟨_,F22⟩:=F22
 have b22:=F22.binds (ps:=["text","pick","bag"]) fun _ _ _ _ _ _ us hl=>by obtain ⟨_,_,_,rfl⟩:=lq3 us hl; rfl
 obtain ⟨_,F23⟩:=F23
 have b23:=F23.binds (ps:=["text","pick","bag"]) fun _ _ _ _ _ _ us hl=>by obtain ⟨_,_,_,rfl⟩:=lq3 us hl; rfl
 obtain ⟨_,F24⟩:=F24
 have b24:=F24.binds (ps:=["text","pick","bag"]) fun _ _ _ _ _ _ us hl=>by obtain ⟨_,_,_,rfl⟩:=lq3 us hl; rfl
 obtain ⟨_,F25⟩:=F25
 have b25:=F25.binds (ps:=["text","most"]) fun _ _ _ _ _ _ us hl=>by obtain ⟨_,_,rfl⟩:=lq2 us hl; rfl
 obtain ⟨_,F26⟩:=F26
 have b26:=F26.binds (ps:=["some"]) fun _ _ _ _ _ _ us hl=>by obtain ⟨_,rfl⟩:=lq1 us hl; rfl
 obtain ⟨_,F27⟩:=F27
 have b27:=F27.binds (ps:=["some"]) fun _ _ _ _ _ _ us hl=>by obtain ⟨_,rfl⟩:=lq1 us hl; rfl
 obtain ⟨_,F28⟩:=F28
 have b28:=F28.binds (ps:=["text"]) fun _ _ _ _ _ _ us hl=>by obtain ⟨_,rfl⟩:=lq1 us hl; rfl
 obtain ⟨_,F29⟩:=F29
 have b29:=F29.binds (ps:=["text"]) fun _ _ _ _ _ _ us hl=>by obtain ⟨_,rfl⟩:=lq1 us hl; rfl
 obtain ⟨_,F30⟩:=F30
 have b30:=F30.binds (ps:=["found","due"]) fun _ _ _ _ _ _ us hl=>by obtain ⟨_,_,rfl⟩:=lq2 us hl; rfl
 obtain ⟨_,F31⟩:=F31
 obtain ⟨_,_,_,_,_,_,_,_,_,e_,_,_⟩:=F31.ex
 subst e_
 have b31:=F31.binds (ps:=["script"]) fun _ _ _ _ _ _ us hl=>by obtain ⟨_,rfl⟩:=lq1 us hl; rfl
 have T:Txt K mg ⟨_,_,_,_,_,_,_,_,_,_,_,_,_,_,_,_,_,_,_,_,_,_,_,_,_,_,_,_,_,_,_,_,_,_,_,_,_,_,_,_,_,_,_,_,_,_,_,_,_,_,_,_,_,_,_,_,_,_,_,_,_,_,_,_,_,_,_,_,_,_,_,_,_,_⟩:=⟨qX_NoText,PySem.W.mg_of X G aX_NoText,PySem.W.mg_of X G aX_HoldError,PySem.W.mg_of X G aX_NoSpot,PySem.W.mg_of X G aX_NoThing,PySem.W.mg_of X G aX_NotFormed,PySem.W.mg_of X G aX_NoTable,PySem.W.mg_of X G aX_Faulty,HT.xTab_of xT,F0,b0,PySem.W.mg_of X G a0,F1,b1,PySem.W.mg_of X G a1,F2,b2,PySem.W.mg_of X G a2,F3,b3,PySem.W.mg_of X G a3,F4,b4,PySem.W.mg_of X G a4,F5,b5,PySem.W.mg_of X G a5,F6,b6,PySem.W.mg_of X G a6,F7,b7,PySem.W.mg_of X G a7,F8,b8,PySem.W.mg_of X G a8,F9,b9,PySem.W.mg_of X G a9,F10,b10,PySem.W.mg_of X G a10,F11,b11,PySem.W.mg_of X G a11,F12,b12,PySem.W.mg_of X G a12,F13,b13,PySem.W.mg_of X G a13,F14,b14,PySem.W.mg_of X G a14,F15,b15,PySem.W.mg_of X G a15,F16,b16,PySem.W.mg_of X G a16,F17,b17,PySem.W.mg_of X G a17,F18,b18,PySem.W.mg_of X G a18,F19,b19,PySem.W.mg_of X G a19,F20,b20,PySem.W.mg_of X G a20,F21,b21,PySem.W.mg_of X G a21,F22,b22,PySem.W.mg_of X G a22,F23,b23,PySem.W.mg_of X G a23,F24,b24,PySem.W.mg_of X G a24,F25,b25,PySem.W.mg_of X G a25,F26,b26,PySem.W.mg_of X G a26,F27,b27,PySem.W.mg_of X G a27,F28,b28,PySem.W.mg_of X G a28,F29,b29,PySem.W.mg_of X G a29,F30,b30,PySem.W.mg_of X G a30,F31,b31,PySem.W.mg_of X G a31,PySem.W.mg_none_of X G z_ValueError,PySem.W.mg_none_of X G z_abs,PySem.W.mg_none_of X G z_all,PySem.W.mg_none_of X G z_bool,PySem.W.mg_none_of X G z_int,PySem.W.mg_none_of X G z_isinstance,PySem.W.mg_none_of X G z_len,PySem.W.mg_none_of X G z_list,PySem.W.mg_none_of X G z_range,PySem.W.mg_none_of X G z_str,PySem.W.mg_none_of X G z_tuple,PySem.W.mg_of X G aK_FIGURES,PySem.W.mg_of X G aK_MOST_FIGURES,PySem.W.mg_of X G aK_PARTS,kK_PARTS⟩
 exact ⟨_,fun s v=>.of_eq rfl,fun base _ _=>zi3 T⟩
theorem walk {l:PySem.W.OpenLaw} {q:Program} {loose:List Str} {XP:(Str->Option Value)->Heap->Prop} {YP:World->Heap->Prop} {d:DefRec} {K:Params->PySem.W.Frag} (hn:l.most = some 63) (hdf:d.params.defaults = [])
  (hY:∀ (w:World) (h:Heap),YP w h->(K w.params).In h)
  (F:∀ (w:World) (mg:Str->Option Value) (fa:Addr) (h:Heap),(K w.params).In h->h.Ns mainGlobals mg->mg d.name = some (.ref fa) ->
   ∃ fd:FuncData,(∀ (s:Shared) (u:Value),BindsTo s fd ⟨[u],[]⟩ [("script",u)])∧∀ base:Heap,(K w.params).In base->base.Ns mainGlobals mg->FnOk l.prog w (K w.params) mg base (CX1 l.prog w) 7 fa fd ["script"] (spLaw (K w.params))) :
  PySem.W.WalkO q loose XP YP l.row.toRowW d [] (fun f vs=>PySem.call f vs) :=
 L2.walk_of (n:=63) (k:=7) (x:="script") (CX:=fun w=>(CX1 l.prog w)) (sp:=fun w=>spLaw (K w.params)) hn (by decide) hdf ⟨rfl,by decide,by decide⟩ hY F (fun _ _ a ns hl _ hS=>⟨a,ns,rfl,hS,hl,fun _=>rfl⟩) (fun _ _ _ _ _ z=>by obtain ⟨_,_,_,_,_,_,_,_,_,_,_,_,z⟩:=z; exact z)
end Law
open PySem PySem.W PyProof.Rows
namespace PySem.W.Fast
theorem tw1618700002440273301 :True:=⟨⟩
theorem tw10683983388791634211 :True:=⟨⟩
theorem tw2720036021281985182 :True:=⟨⟩
theorem tw1341935648083457688 :True:=⟨⟩
theorem tw7808830464868229217 :True:=⟨⟩
theorem tw4450299319103989674 :True:=⟨⟩
theorem tw10936362012928040660 :True:=⟨⟩
theorem tw15527661271088727837 :True:=⟨⟩
theorem tw14528745593370036758 :True:=⟨⟩
theorem tw5447857510061512659 :True:=⟨⟩
theorem tw7881753851227906015 :True:=⟨⟩
theorem tw13776765437187236217 :True:=⟨⟩
theorem tw11585441835422382928 :True:=⟨⟩
theorem tw9597062952930705606 :True:=⟨⟩
theorem tw2822263930051550137 :True:=⟨⟩
theorem tw6840620743634567149 :True:=⟨⟩
theorem tw5018680979786278812 :True:=⟨⟩
theorem tw1188840351499880960 :True:=⟨⟩
theorem tw13497628869135421876 :True:=⟨⟩
theorem tw14298536405592401617 :True:=⟨⟩
theorem tw4196570505437555170 :True:=⟨⟩
theorem tw4525922612021316101 :True:=⟨⟩
theorem tw15191761434035182095 :True:=⟨⟩
theorem tw4274242771800267722 :True:=⟨⟩
theorem tw7732360537315411105 :True:=⟨⟩
theorem tw6761162039870020223 :True:=⟨⟩
theorem tw13435318755491235852 :True:=⟨⟩
theorem tw15803752112606959021 :True:=⟨⟩
theorem tw7016357871653865690 :True:=⟨⟩
theorem tw2669094860810438287 :True:=⟨⟩
theorem tw11918073942552074024 :True:=⟨⟩
theorem tw5125889055480635254 :True:=⟨⟩
theorem tw4360477844345761987 :True:=⟨⟩
theorem tw14088996382397765021 :True:=⟨⟩
theorem tw9878934684053603154 :True:=⟨⟩
theorem tw1526577912146630035 :True:=⟨⟩
theorem tw8035694524957659578 :True:=⟨⟩
theorem tw9396935486218163940 :True:=⟨⟩
theorem tw6657061942318384412 :True:=⟨⟩
theorem tw4374257993374149462 :True:=⟨⟩
theorem tw7879569704424674974 :True:=⟨⟩
theorem tw9607245832354531723 :True:=⟨⟩
theorem tw7889241935320125860 :True:=⟨⟩
theorem tw1567319563823754319 :True:=⟨⟩
theorem tw15998429490853693814 :True:=⟨⟩
theorem tw263801098832583215 :True:=⟨⟩
theorem tw15790479230047552581 :True:=⟨⟩
theorem tw4092726789421979210 :True:=⟨⟩
theorem tw3168342321696872196 :True:=⟨⟩
theorem tw584280574581302293 :True:=⟨⟩
theorem tw2610546240888320103 :True:=⟨⟩
theorem tw2394542491711163885 :True:=⟨⟩
theorem tw1774166023433749588 :True:=⟨⟩
theorem tw13441844046923021682 :True:=⟨⟩
theorem tw3001863116862950500 :True:=⟨⟩
theorem tw11725426534767938965 :True:=⟨⟩
theorem tw12191973777770423462 :True:=⟨⟩
theorem tw9486981226806267744 :True:=⟨⟩
theorem tw6277174292654320856 :True:=⟨⟩
theorem tw15450160212378291675 :True:=⟨⟩
theorem tw17563256792032764776 :True:=⟨⟩
theorem tw1215973154813405819 :True:=⟨⟩
theorem tw10539331154394778267 :True:=⟨⟩
theorem tw15070371311696933262 :True:=⟨⟩
theorem tw5853976113697222751 :True:=⟨⟩
theorem tw2968312887271789131 :True:=⟨⟩
theorem tw16032742812340868093 :True:=⟨⟩
theorem tw1499395064454010192 :True:=⟨⟩
theorem tw11520260348577597614 :True:=⟨⟩
theorem tw13836701896797697866 :True:=⟨⟩
theorem tw15742661843774530120 :True:=⟨⟩
theorem tw2229509994505348924 :True:=⟨⟩
theorem tw18115480667348878603 :True:=⟨⟩
theorem tw2006267021071024468 :True:=⟨⟩
theorem tw7306170034130464282 :True:=⟨⟩
theorem tw7817469331609454468 :True:=⟨⟩
theorem tw3156437789705130187 :True:=⟨⟩
theorem tw1429676241228634269 :True:=⟨⟩
theorem tw15283691959716232998 :True:=⟨⟩
theorem tw12406578605537114964 :True:=⟨⟩
theorem tw15714836585735331376 :True:=⟨⟩
theorem tw5516089575113920962 :True:=⟨⟩
theorem tw3086849889082026486 :True:=⟨⟩
theorem tw15010188262587143462 :True:=⟨⟩
theorem tw9824650641578698495 :True:=⟨⟩
theorem tw14001685632639323800 :True:=⟨⟩
theorem tw13137774603334321512 :True:=⟨⟩
theorem tw16572346220642018436 :True:=⟨⟩
theorem tw3167921248364547285 :True:=⟨⟩
theorem tw9673581064669751212 :True:=⟨⟩
theorem tw4505332031504281606 :True:=⟨⟩
theorem tw6608018597647618603 :True:=⟨⟩
theorem tw768544005413718476 :True:=⟨⟩
theorem tw17246110295623347382 :True:=⟨⟩
theorem tw10508985482593595232 :True:=⟨⟩
theorem tw11918378713668590116 :True:=⟨⟩
theorem tw14810182091304560681 :True:=⟨⟩
theorem tw4326590464462204742 :True:=⟨⟩
theorem tw3949432840720658436 :True:=⟨⟩
theorem tw16635288608562331368 :True:=⟨⟩
theorem tw14506707018457970588 :True:=⟨⟩
theorem tw1409444704934295 :True:=⟨⟩
theorem tw6530938449381084418 :True:=⟨⟩
theorem tw13693528877744830987 :True:=⟨⟩
theorem tw10013160134614690097 :True:=⟨⟩
theorem tw13140469271474920290 :True:=⟨⟩
theorem tw10001969494443579542 :True:=⟨⟩
theorem tw3732893909066487604 :True:=⟨⟩
theorem tw1925514044526812292 :True:=⟨⟩
theorem tw8634255884411080353 :True:=⟨⟩
theorem tw4171894219628865531 :True:=⟨⟩
theorem tw586131735055704247 :True:=⟨⟩
theorem tw7014368868537187148 :True:=⟨⟩
theorem tw1549197131619966589 :True:=⟨⟩
theorem tw11803584699274674622 :True:=⟨⟩
theorem tw10809907703762969291 :True:=⟨⟩
theorem tw10953373573938865592 :True:=⟨⟩
theorem tw876360027478318596 :True:=⟨⟩
theorem tw15018901635965770812 :True:=⟨⟩
theorem tw13560662866258057653 :True:=⟨⟩
theorem tw11640752264159196255 :True:=⟨⟩
theorem tw8885570221995111481 :True:=⟨⟩
theorem tw11517555013548010860 :True:=⟨⟩
theorem tw3219512461395459100 :True:=⟨⟩
theorem tw11858580484461267900 :True:=⟨⟩
theorem tw4032393868369458589 :True:=⟨⟩
theorem tw8911668052218436479 :True:=⟨⟩
theorem tw12133422805330244695 :True:=⟨⟩
theorem tw9775500521052693120 :True:=⟨⟩
theorem tw12773884572952171854 :True:=⟨⟩
theorem tw8779689151904457557 :True:=⟨⟩
theorem tw8720856492498066834 :True:=⟨⟩
theorem tw3330622264671590053 :True:=⟨⟩
theorem tw1303145676327623211 :True:=⟨⟩
theorem tw7406029794602611534 :True:=⟨⟩
theorem tw12104411400181880350 :True:=⟨⟩
theorem tw395082258412450978 :True:=⟨⟩
theorem tw258061585562361155 :True:=⟨⟩
theorem tw2403877275822208644 :True:=⟨⟩
theorem tw6925674928520353521 :True:=⟨⟩
theorem tw5951039591140638374 :True:=⟨⟩
theorem tw15152498812071152216 :True:=⟨⟩
theorem tw4782547205863695531 :True:=⟨⟩
theorem tw6928023145974809115 :True:=⟨⟩
theorem tw5523151316165164752 :True:=⟨⟩
theorem tw5488539696263493450 :True:=⟨⟩
theorem tw875410452475440893 :True:=⟨⟩
theorem tw541627038850652691 :True:=⟨⟩
theorem tw7967177209201453798 :True:=⟨⟩
theorem tw9301714577011404945 :True:=⟨⟩
theorem tw13517925798245851599 :True:=⟨⟩
theorem tw15182623626504274330 :True:=⟨⟩
theorem tw986087088022606635 :True:=⟨⟩
theorem tw3326743608097994299 :True:=⟨⟩
theorem tw13438604204533858094 :True:=⟨⟩
theorem tw1421549329578075868 :True:=⟨⟩
theorem tw4839976660323273936 :True:=⟨⟩
theorem tw8671353830912901359 :True:=⟨⟩
theorem tw11634792657243887552 :True:=⟨⟩
theorem tw1118692234451632428 :True:=⟨⟩
theorem tw15462474980341628052 :True:=⟨⟩
theorem tw10561805986153225309 :True:=⟨⟩
theorem tw10393539097252910755 :True:=⟨⟩
theorem tw8939347208576299793 :True:=⟨⟩
theorem tw11565416238014623974 :True:=⟨⟩
theorem tw15622149963705552190 :True:=⟨⟩
theorem tw2274247049291633367 :True:=⟨⟩
theorem tw18301845977151765453 :True:=⟨⟩
theorem tw2879930454545965468 :True:=⟨⟩
theorem tw13294343218194345240 :True:=⟨⟩
theorem tw8381147041320598963 :True:=⟨⟩
theorem tw9675714255202083806 :True:=⟨⟩
theorem tw13837559524798288567 :True:=⟨⟩
theorem tw10854070576052472538 :True:=⟨⟩
theorem tw3780652864287298531 :True:=⟨⟩
theorem tw4218167052212931685 :True:=⟨⟩
theorem tw1619466156058324200 :True:=⟨⟩
theorem tw3127378969118501003 :True:=⟨⟩
theorem tw3737293391257421917 :True:=⟨⟩
theorem tw6841857897722866461 :True:=⟨⟩
theorem tw15607100094533034418 :True:=⟨⟩
theorem tw1768956143253361057 :True:=⟨⟩
theorem tw10906944367225731207 :True:=⟨⟩
theorem tw3900049928473333979 :True:=⟨⟩
theorem tw6444490773938376753 :True:=⟨⟩
theorem tw910009687895783363 :True:=⟨⟩
theorem tw12699538540470100869 :True:=⟨⟩
theorem tw13873883272469507357 :True:=⟨⟩
theorem tw13763447164080666255 :True:=⟨⟩
theorem tw4963716750058479251 :True:=⟨⟩
theorem tw3550261838977722584 :True:=⟨⟩
theorem tw2720434418428679303 :True:=⟨⟩
theorem tw11351442990784137809 :True:=⟨⟩
theorem tw17921124297557849000 :True:=⟨⟩
theorem tw2215271035532881425 :True:=⟨⟩
theorem tw17145126462555952127 :True:=⟨⟩
theorem tw2130759429059464080 :True:=⟨⟩
theorem tw16040459928997075729 :True:=⟨⟩
theorem tw9232510668533131303 :True:=⟨⟩
theorem tw2004779286661819836 :True:=⟨⟩
theorem tw18438753198803826877 :True:=⟨⟩
theorem tw5071402183751843984 :True:=⟨⟩
theorem tw948296765210806439 :True:=⟨⟩
theorem tw4745897671719501222 :True:=⟨⟩
theorem tw1846536230489162408 :True:=⟨⟩
theorem tw8767340614121003241 :True:=⟨⟩
theorem tw12199331058214925563 :True:=⟨⟩
theorem tw18007119673091060718 :True:=⟨⟩
theorem tw13791862421943247119 :True:=⟨⟩
theorem tw303653297586503308 :True:=⟨⟩
theorem tw16516370442125813304 :True:=⟨⟩
theorem tw11596535216170935173 :True:=⟨⟩
theorem tw10832629245053248021 :True:=⟨⟩
theorem tw6336101100067133579 :True:=⟨⟩
theorem tw5874062215606670736 :True:=⟨⟩
theorem tw6505473759784998127 :True:=⟨⟩
theorem tw14363274297859665406 :True:=⟨⟩
theorem tw7393159507190215770 :True:=⟨⟩
theorem tw2425170008963463215 :True:=⟨⟩
theorem tw8621065144372008986 :True:=⟨⟩
theorem tw2306822308617601390 :True:=⟨⟩
theorem tw14292299380263342565 :True:=⟨⟩
theorem tw17020844276901581111 :True:=⟨⟩
theorem tw11981648910530517809 :True:=⟨⟩
theorem tw16476284294540083334 :True:=⟨⟩
theorem tw10569589615922889781 :True:=⟨⟩
theorem tw9647592041306895686 :True:=⟨⟩
theorem tw3227617365797864530 :True:=⟨⟩
theorem tw10284733046142273512 :True:=⟨⟩
theorem tw16669353461113164242 :True:=⟨⟩
theorem tw13327956437887669158 :True:=⟨⟩
theorem tw9078506315145714681 :True:=⟨⟩
theorem tw17457220020521799992 :True:=⟨⟩
theorem tw14794851866658611521 :True:=⟨⟩
theorem tw15582846866771696605 :True:=⟨⟩
theorem tw2814757250723222949 :True:=⟨⟩
theorem tw3780624037372078875 :True:=⟨⟩
theorem tw6220643576129145675 :True:=⟨⟩
theorem tw10597294975696730488 :True:=⟨⟩
theorem tw5025741505387791115 :True:=⟨⟩
theorem tw18028319642752134947 :True:=⟨⟩
theorem tw12014990498156254338 :True:=⟨⟩
theorem tw5955471356901449047 :True:=⟨⟩
theorem tw17144855145285322307 :True:=⟨⟩
theorem tw17354474731139037893 :True:=⟨⟩
theorem tw16172688613593732735 :True:=⟨⟩
theorem tw4970362517255855264 :True:=⟨⟩
theorem tw18047562987827389190 :True:=⟨⟩
theorem tw13619901877947447520 :True:=⟨⟩
theorem tw6085354238734579171 :True:=⟨⟩
theorem tw3927970628636098046 :True:=⟨⟩
theorem tw10898708560056249585 :True:=⟨⟩
theorem tw18440208755464382348 :True:=⟨⟩
theorem tw2870486843833001273 :True:=⟨⟩
theorem tw425085222080988518 :True:=⟨⟩
theorem tw9929850486754270740 :True:=⟨⟩
theorem tw2590555698369519322 :True:=⟨⟩
theorem tw12353744258112528401 :True:=⟨⟩
theorem tw2890602544005471863 :True:=⟨⟩
theorem tw14579000450285613269 :True:=⟨⟩
theorem tw17511424604651497204 :True:=⟨⟩
theorem tw1993355194971677378 :True:=⟨⟩
theorem tw1285196234395796360 :True:=⟨⟩
theorem tw6176654200409841428 :True:=⟨⟩
theorem tw8277161802697622303 :True:=⟨⟩
theorem tw2414298532487081369 :True:=⟨⟩
theorem tw13775853830264434871 :True:=⟨⟩
theorem tw5935050102952958168 :True:=⟨⟩
theorem tw9028930046312363597 :True:=⟨⟩
theorem tw8889880645412822806 :True:=⟨⟩
theorem tw15050937145481475723 :True:=⟨⟩
theorem tw10025524837725299916 :True:=⟨⟩
theorem tw1732528320483609002 :True:=⟨⟩
theorem tw1046934983049398482 :True:=⟨⟩
theorem tw2253857149466757613 :True:=⟨⟩
theorem tw4651234533181026956 :True:=⟨⟩
theorem tw15070339593608208372 :True:=⟨⟩
theorem tw9303485238009341601 :True:=⟨⟩
theorem tw16492525520716003753 :True:=⟨⟩
theorem tw7631697051236420252 :True:=⟨⟩
theorem tw18152667625993550437 :True:=⟨⟩
theorem tw14181051696204360855 :True:=⟨⟩
theorem tw11565713611642618382 :True:=⟨⟩
theorem tw9649857780039827933 :True:=⟨⟩
theorem tw4685911159583267362 :True:=⟨⟩
theorem tw6302006890913596253 :True:=⟨⟩
theorem tw9034949954040800695 :True:=⟨⟩
theorem tw1055457476560416431 :True:=⟨⟩
theorem tw7893590368069719367 :True:=⟨⟩
theorem tw14942951223469271541 :True:=⟨⟩
theorem tw12846693208889604427 :True:=⟨⟩
theorem tw6277349355264238900 :True:=⟨⟩
theorem tw12295090466680162398 :True:=⟨⟩
theorem tw10184192545758530553 :True:=⟨⟩
theorem tw3241354504381142415 :True:=⟨⟩
theorem tw3778179926113583891 :True:=⟨⟩
theorem tw17784252500371346411 :True:=⟨⟩
theorem tw10886264969556875226 :True:=⟨⟩
end PySem.W.Fast
set_option maxRecDepth 100000 in
set_option maxHeartbeats 0 in
theorem PySem.Challenge.cw_knownholds_k17_texts_that_are_none_holds : PySem.Challenge.rw_knownholds_k17_texts_that_are_none.Holds := by
 w_on; o_law; k_head; (case hw=>w_witness2)
 k_fill
 refine Law.walk (l := PySem.Challenge.rw_knownholds_k17_texts_that_are_none) rfl rfl (fun w h Y => PySem.W.kIn_of Y) ?F
 case F =>
  intro w mg fa h KX G hmg
  refine' Law.all_mk KX G hmg ?aX_NoText ?qX_NoText ?aX_HoldError ?aX_NoSpot ?aX_NoThing ?aX_NotFormed ?aX_NoTable ?aX_Faulty ?xT ?a0 ?F0 ?a1 ?F1 ?a2 ?F2 ?a3 ?F3 ?a4 ?F4 ?a5 ?F5 ?a6 ?F6 ?a7 ?F7 ?a8 ?F8 ?a9 ?F9 ?a10 ?F10 ?a11 ?F11 ?a12 ?F12 ?a13 ?F13 ?a14 ?F14 ?a15 ?F15 ?a16 ?F16 ?a17 ?F17 ?a18 ?F18 ?a19 ?F19 ?a20 ?F20 ?a21 ?F21 ?a22 ?F22 ?a23 ?F23 ?a24 ?F24 ?a25 ?F25 ?a26 ?F26 ?a27 ?F27 ?a28 ?F28 ?a29 ?F29 ?a30 ?F30 ?a31 ?F31 ?z_ValueError ?z_abs ?z_all ?z_bool ?z_int ?z_isinstance ?z_len ?z_list ?z_range ?z_str ?z_tuple ?aK_FIGURES ?aK_MOST_FIGURES ?aK_PARTS ?kK_PARTS
  (case aX_NoText=>k_is)
  (case qX_NoText=>(unfold L2.XCls; k_exc))
  (case aX_HoldError=>k_is)
  (case aX_NoSpot=>k_is)
  (case aX_NoThing=>k_is)
  (case aX_NotFormed=>k_is)
  (case aX_NoTable=>k_is)
  (case aX_Faulty=>k_is)
  (case xT=>kernel_rfl)
  (case a0=>k_is)
  (case F0=>exact ⟨_,L2.fun_mk (by k_is) (by k_is) (by k_is)⟩)
  (case a1=>k_is)
  (case F1=>exact ⟨_,L2.fun_mk (by k_is) (by k_is) (by k_is)⟩)
  (case a2=>k_is)
  (case F2=>exact ⟨_,L2.fun_mk (by k_is) (by k_is) (by k_is)⟩)
  (case a3=>k_is)
  (case F3=>exact ⟨_,L2.fun_mk (by k_is) (by k_is) (by k_is)⟩)
  (case a4=>k_is)
  (case F4=>exact ⟨_,L2.fun_mk (by k_is) (by k_is) (by k_is)⟩)
  (case a5=>k_is)
  (case F5=>exact ⟨_,L2.fun_mk (by k_is) (by k_is) (by k_is)⟩)
  (case a6=>k_is)
  (case F6=>exact ⟨_,L2.fun_mk (by k_is) (by k_is) (by k_is)⟩)
  (case a7=>k_is)
  (case F7=>exact ⟨_,L2.fun_mk (by k_is) (by k_is) (by k_is)⟩)
  (case a8=>k_is)
  (case F8=>exact ⟨_,L2.fun_mk (by k_is) (by k_is) (by k_is)⟩)
  (case a9=>k_is)
  (case F9=>exact ⟨_,L2.fun_mk (by k_is) (by k_is) (by k_is)⟩)
  (case a10=>k_is)
  (case F10=>exact ⟨_,L2.fun_mk (by k_is) (by k_is) (by k_is)⟩)
  (case a11=>k_is)
  (case F11=>exact ⟨_,L2.fun_mk (by k_is) (by k_is) (by k_is)⟩)
  (case a12=>k_is)
  (case F12=>exact ⟨_,L2.fun_mk (by k_is) (by k_is) (by k_is)⟩)
  (case a13=>k_is)
  (case F13=>exact ⟨_,L2.fun_mk (by k_is) (by k_is) (by k_is)⟩)
  (case a14=>k_is)
  (case F14=>exact ⟨_,L2.fun_mk (by k_is) (by k_is) (by k_is)⟩)
  (case a15=>k_is)
  (case F15=>exact ⟨_,L2.fun_mk (by k_is) (by k_is) (by k_is)⟩)
  (case a16=>k_is)
  (case F16=>exact ⟨_,L2.fun_mk (by k_is) (by k_is) (by k_is)⟩)
  (case a17=>k_is)
  (case F17=>exact ⟨_,L2.fun_mk (by k_is) (by k_is) (by k_is)⟩)
  (case a18=>k_is)
  (case F18=>exact ⟨_,L2.fun_mk (by k_is) (by k_is) (by k_is)⟩)
  (case a19=>k_is)
  (case F19=>exact ⟨_,L2.fun_mk (by k_is) (by k_is) (by k_is)⟩)
  (case a20=>k_is)
  (case F20=>exact ⟨_,L2.fun_mk (by k_is) (by k_is) (by k_is)⟩)
  (case a21=>k_is)
  (case F21=>exact ⟨_,L2.fun_mk (by k_is) (by k_is) (by k_is)⟩)
  (case a22=>k_is)
  (case F22=>exact ⟨_,L2.fun_mk (by k_is) (by k_is) (by k_is)⟩)
  (case a23=>k_is)
  (case F23=>exact ⟨_,L2.fun_mk (by k_is) (by k_is) (by k_is)⟩)
  (case a24=>k_is)
  (case F24=>exact ⟨_,L2.fun_mk (by k_is) (by k_is) (by k_is)⟩)
  (case a25=>k_is)
  (case F25=>exact ⟨_,L2.fun_mk (by k_is) (by k_is) (by k_is)⟩)
  (case a26=>k_is)
  (case F26=>exact ⟨_,L2.fun_mk (by k_is) (by k_is) (by k_is)⟩)
  (case a27=>k_is)
  (case F27=>exact ⟨_,L2.fun_mk (by k_is) (by k_is) (by k_is)⟩)
  (case a28=>k_is)
  (case F28=>exact ⟨_,L2.fun_mk (by k_is) (by k_is) (by k_is)⟩)
  (case a29=>k_is)
  (case F29=>exact ⟨_,L2.fun_mk (by k_is) (by k_is) (by k_is)⟩)
  (case a30=>k_is)
  (case F30=>exact ⟨_,L2.fun_mk (by k_is) (by k_is) (by k_is)⟩)
  (case a31=>k_is)
  (case F31=>exact ⟨_,L2.fun_mk (by k_is) (by k_is) (by k_is)⟩)
  (case z_ValueError=>k_is)
  (case z_abs=>k_is)
  (case z_all=>k_is)
  (case z_bool=>k_is)
  (case z_int=>k_is)
  (case z_isinstance=>k_is)
  (case z_len=>k_is)
  (case z_list=>k_is)
  (case z_range=>k_is)
  (case z_str=>k_is)
  (case z_tuple=>k_is)
  (case aK_FIGURES=>k_is)
  (case aK_MOST_FIGURES=>k_is)
  (case aK_PARTS=>k_is)
  (case kK_PARTS=>kernel_rfl)
